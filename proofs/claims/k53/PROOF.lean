import PyProof.Rows.All
import Wide.All
import OpenK.AllK
import Wide.FinOn
import KE.KStateDown
import HandS.ForMost
import HandS.ForExc
import HandS.Defaults
import HandS.Head0
import HandS.Head1
import HandS.Head2
import HandS.HeadEnd
import HandS.HeadHook1
import HandS.HeadHook2
import HandS.HeadHook3
import KE.KExcInit
import KE.KExcIs
import HandS.ExcInit
import HandS.IsInst
import KE.KUnpackStar
import HandS.Codes
import HandS.NoneIn
import HandS.Walk
import KE.GoesEnum
import HandS.Zip
import HandS.More
import HandS.MakeKwOnly
import PyProof.Rows.SortStr
import HandS.Set
import HandS.SetBool
import PyProof.StrBlock2
import HandS.MakeKw
import HandS.TupMul
import HandS.TupAny
import HandS.Star
import KE.KTryMore
import HandS.ExcValue
import HandS.Lambda
import HandS.EndTab
import HandS.SetFor
import PyProof.NeKinds
import Wide.Once
import PySem.Challenge.RW_watchtree_k53_scripts_told_apart
set_option Elab.async false
set_option linter.all false
set_option maxRecDepth 100000
set_option maxHeartbeats 0
/-! the head's Hook with facts of one's own: truths over the written part -/
namespace He
open PySem PySem.Spec PyProof.Rows L2
abbrev Fx : Type := PySem.W.Frag → Bool
def asX (g : Addr → Option Obj) (n : Nat) : List Addr := sysModules :: asD g n
def obsX (fa : List Fx) (fn : List DefD) (K : PySem.W.Frag) : AlD := ((fa.all fun f => f K) && fn.all fun d => d.ok K, fn.map fun d => fnW K d.at_)
def SaysX (fa : List Fx) (fn : List DefD) (K : PySem.W.Frag) : Prop := obsX fa fn K = valD fn
def obsXG (n : Nat) (fa : List Fx) (fn : List DefD) (g : Addr → Option Obj) : AlD := obsX fa fn (frG g (asX g n))
def hookX (n : Nat) (fa : List Fx) (fn : List DefD) : PySem.W.Hook where
  α := AlD
  obs := fun s => obsXG n fa fn s.heap.get?
  val := fun _ => valD fn
  says := fun _ h => ∃ K : PySem.W.Frag, K.In h ∧ SaysX fa fn K
  of := fun _ _ e => ⟨_, frG_in, e⟩
  keeps := fun _ _ _ ⟨K, hK, c⟩ k => ⟨K, PySem.W.Frag.In.keeps hK k, c⟩
theorem obsXG_eq {n : Nat} {fa : List Fx} {fn : List DefD} {g : Addr → Option Obj} {s : Shared} (h : ∀ a, g a = s.heap.get? a) : obsXG n fa fn g = (hookX n fa fn).obs s := by
  obtain rfl : g = s.heap.get? := funext h
  rfl
section
variable {fa : List Fx} {fn : List DefD} {K : PySem.W.Frag}
theorem SaysX.fact (c : SaysX fa fn K) (i : Nat) {f : Fx} (h : fa[i]? = some f := by rfl) : f K = true :=
  List.all_eq_true.mp (ba (show ((fa.all fun f => f K) && fn.all fun d => d.ok K) = true from congrArg (·.1) c)).1 f (List.mem_of_getElem? h)
theorem SaysX.def_ (c : SaysX fa fn K) (i : Nat) {d : DefD} (h : fn[i]? = some d := by rfl) : ∃ fd, FunD K d.name d.qual d.params d.body d.scope (d.dvs K) (d.kws K) (fAd K d.at_) fd := by
  have all2 := (ba (show ((fa.all fun f => f K) && fn.all fun d => d.ok K) = true from congrArg (·.1) c)).2
  have same : (fn.map fun d => fnW K d.at_)[i]? = (fn.map DefD.val)[i]? := congrArg (fun z : AlD => z.2[i]?) c
  rw [List.getElem?_map, List.getElem?_map, h] at same
  exact DefD.funD (Option.some.inj same) (List.all_eq_true.mp all2 d (List.mem_of_getElem? h))
theorem SaysX.def_in (c : SaysX fa fn K) {d : DefD} (h : d ∈ fn) : ∃ fd, FunD K d.name d.qual d.params d.body d.scope (d.dvs K) (d.kws K) (fAd K d.at_) fd := by
  obtain ⟨i, hi⟩ := List.getElem?_of_mem h
  exact c.def_ i hi
end
end He
/-! facts of one's own and tables with text keys -/
namespace He
open PySem PySem.Spec PyProof.Rows L2
def obsXT (fa : List Fx) (fn : List DefD) (ts : List Tab) (K : PySem.W.Frag) : AlT := (obsX fa fn K, ts.map fun t => dicW K (t.1 K))
def SaysXT (fa : List Fx) (fn : List DefD) (ts : List Tab) (w : World) (K : PySem.W.Frag) : Prop := obsXT fa fn ts K = valT fn ts w
/-- what is looked at: the walk's addresses, and those that ex finds from them -/
def asY (g : Addr → Option Obj) (n : Nat) (ex : List (PySem.W.Frag → Addr)) : List Addr := (ex.map fun f => f (frG g (asX g n))) ++ asX g n
def obsXTG (n : Nat) (ex : List (PySem.W.Frag → Addr)) (fa : List Fx) (fn : List DefD) (ts : List Tab) (g : Addr → Option Obj) : AlT := obsXT fa fn ts (frG g (asY g n ex))
def hookXT (n : Nat) (ex : List (PySem.W.Frag → Addr)) (fa : List Fx) (fn : List DefD) (ts : List Tab) : PySem.W.Hook where
  α := AlT
  obs := fun s => obsXTG n ex fa fn ts s.heap.get?
  val := fun w => valT fn ts w
  says := fun w h => ∃ K : PySem.W.Frag, K.In h ∧ SaysXT fa fn ts w K
  of := fun _ _ e => ⟨_, frG_in, e⟩
  keeps := fun _ _ _ ⟨K, hK, c⟩ k => ⟨K, PySem.W.Frag.In.keeps hK k, c⟩
theorem obsXTG_eq {n : Nat} {ex : List (PySem.W.Frag → Addr)} {fa : List Fx} {fn : List DefD} {ts : List Tab} {g : Addr → Option Obj} {s : Shared} (h : ∀ a, g a = s.heap.get? a) : obsXTG n ex fa fn ts g = (hookXT n ex fa fn ts).obs s := by
  obtain rfl : g = s.heap.get? := funext h
  rfl
section
variable {fa : List Fx} {fn : List DefD} {ts : List Tab} {w : World} {K : PySem.W.Frag}
theorem SaysXT.x (c : SaysXT fa fn ts w K) : SaysX fa fn K := congrArg (fun z : AlT => z.1) c
theorem SaysXT.table (c : SaysXT fa fn ts w K) (i : Nat) {t : Tab} (h : ts[i]? = some t := by rfl) : ∃ es n, KDict K w (t.1 K) es n := by
  have all : ts.map (fun t => dicW K (t.1 K)) = ts.map fun t => some (keysIn w.params t.2) := congrArg (fun z : AlT => z.2) c
  have one := congrArg (fun l => l[i]?) all
  simp only [List.getElem?_map, h, Option.map_some] at one
  exact dicW_ok (Option.some.inj one)
end
end He
namespace PySem.WX
open Builtin Builtin.ObjectAttr
section
variable {M : Model} {A : Around} {E : Value → Shared → Prop} {h : Heap} {g : Array GenState} {d : Drawn} {t : Nat} {os : OsState}
variable {nm q : Str} {C N : Addr} {bs bm bmB : List Value} {hdct : Bool} {sn : List Str} {sub : List Value} {ab : Bool} {col : Option Bool} {dd : Option Addr} {k0 k1 k2 k3 k5 : Option Value} {B newId initId : String}

theorem chkNewKw (FB : ExcBaseFacts B newId initId bmB) (same : ∀ z : String, bm.contains (.type z) = bmB.contains (.type z)) {pos : List Value} {kw : List (Str × Value)} {Q : Unit → Shared → Prop}
    (atC : h.get? C = some (excClassObj nm q C N bs bm hdct sn sub ab col dd k0 k1 k2 k3 k5 newId)) (fin : Q () ⟨h, g, d, t, os⟩) : wpAny M A (checkBuiltinCall newId ⟨.ref C :: pos, kw⟩) Q E ⟨h, g, d, t, os⟩ := by
  have inMro : (Value.ref C :: bm).contains (.type B) = true := by rw [List.contains_cons, same, FB.hasB]; exact Bool.or_true _
  have _st := FB.noStar
  simp only [checkBuiltinCall, FB.newKind, FB.newSplit, FB.newRow]
  repeat (first | refine wpAny_loadPart_at atC ?_ | (refine wpAny_isSubtype_exc atC ?_; rw [inMro]) | refine wpAny_staticBase_exc atC ?_ | refine wpAny_madeBy_exc atC ?_ | simp only [bne_self_eq_false, if_false, Bool.false_eq_true] | wp_step)
  exact fin
end
section
variable {prog : Program} {w : World} {A : Around} {E : Value → Shared → Prop} {R : Result → Shared → Prop} {h : Heap} {g : Array GenState} {d : Drawn} {t : Nat} {os : OsState}
variable {nm q : Str} {C N : Addr} {bs bm bmB : List Value} {hdct : Bool} {sn : List Str} {sub : List Value} {ab : Bool} {col : Option Bool} {dd : Option Addr} {k0 k1 k2 k3 k5 : Option Value} {B newId initId : String}
/-- the object as BaseException.__new__ lays it, its arguments' tuple at tp -/
abbrev bareO (C tp : Addr) : Obj := { cls := .ref C, data := .fields #[.ref tp, .none, .none, .none, .bool false, .none] }
abbrev tupO (vs : List Value) : Obj := { cls := .type "tuple", data := .seq vs.toArray }
theorem newKw (FB : ExcBaseFacts B newId initId bmB) (same : ∀ z : String, bm.contains (.type z) = bmB.contains (.type z)) {pos : List Value} {kw : List (Str × Value)}
    (atC : h.get? C = some (excClassObj nm q C N bs bm hdct sn sub ab col dd k0 k1 k2 k3 k5 newId))
    (fin : R (.ok (.ret (.ref (h.objs.size + 1)))) ⟨(h.push (tupO pos)).push (bareO C h.objs.size), g, d, t, os⟩) (few : pos.length ≤ sizeLine) :
    codeAny (model prog w) A (.builtin newId ⟨.ref C :: pos, kw⟩) R ⟨h, g, d, t, os⟩ := by
  have _e := FB.ends
  have inB : (Value.ref C :: bm).contains (.type B) = true := by rw [List.contains_cons, same, FB.hasB]; exact Bool.or_true _
  have inA : (Value.ref C :: bm).contains (.type "AttributeError") = false := by rw [List.contains_cons, same, FB.noAttr] <;> rfl
  have inN : (Value.ref C :: bm).contains (.type "NameError") = false := by rw [List.contains_cons, same, FB.noName] <;> rfl
  refine codeAny_builtinAt FB.entry ?_
  unfold «BaseException.__new__»
  refine wpAt_bind (show wpAt _ _ _ (stack >>= _) _ _ _ from wpAt_bind (wpAt_stack fun pp rest => wpAt_of_wpAny ?_))
  wp_walk
  refine wpAt_of_wpAny ?_
  rw [FB.owner]
  repeat (first | with_reducible refine wpAny_madeHere_exc FB.canon atC ?_ | with_reducible refine wpAny_loadPart_at atC ?_ | (with_reducible refine wpAny_isSubtype_exc atC ?_; first | rw [inB] | rw [inA] | rw [inN]) | wp_step)
  show R _ _
  rw [Heap.size_push] <;> exact fin
theorem tcallKw (FB : ExcBaseFacts B newId initId bmB) (same : ∀ z : String, bm.contains (.type z) = bmB.contains (.type z)) {pos : List Value} {kw : List (Str × Value)} {fI : Addr} {Q : Fin → Shared → Prop}
    (atC : h.get? C = some (excClassObj nm q C N bs bm hdct sn sub ab col dd k0 k1 k2 k3 k5 newId))
    (ini : W.Looks (model prog w) h (typeLookup (.ref C) "__init__") (some (.ref fI))) (bnd : ∀ self, W.Looks (model prog w) h (bindSpecial (.ref fI) self) (.ref fI, [self])) (few : pos.length ≤ sizeLine)
    (fin : codeAny (model prog w) A (.call (.ref fI) ⟨.ref (h.objs.size + 1) :: pos, kw⟩)
      (fun r s' => match r with | .ok (.ret v) => v = .none ∧ Q (.done (.ret (.ref (h.objs.size + 1)))) s' | .ok _ => False | .error x => E x s')
      ⟨(h.push (tupO pos)).push (bareO C h.objs.size), g, d, t, os⟩) :
    wpAny (model prog w) A (Builtin.«type.__call__» ⟨.ref C :: pos, kw⟩) Q E ⟨h, g, d, t, os⟩ := by
  repeat (first | with_reducible refine wpAny_loadPart_at atC ?_ | with_reducible refine wpAny_madeBy_exc atC ?_ | wp_step)
  refine codeAny_call_builtin_code (Code.quiet_builtin _ FB.quiet) (chkNewKw FB same atC (newKw FB same atC ?_ few))
  show wpAny _ _ _ _ _ _
  have up : ∀ b o, h.get? b = some o → ((h.push (tupO pos)).push (bareO C h.objs.size)).get? b = some o := fun b o e => Heap.get?_push_of_some _ (Heap.get?_push_of_some _ e)
  have atC1 := up _ _ atC
  have atX : ((h.push (tupO pos)).push (bareO C h.objs.size)).get? (h.objs.size + 1) = some (bareO C h.objs.size) := by heap_get
  have inC : (Value.ref C :: bm).contains (.ref C) = true := by simp
  unfold isInstance
  repeat (first | with_reducible refine wpAny_loadPart_at atX ?_ | (with_reducible refine wpAny_isSubtype_exc atC1 ?_; rw [inC]) | wp_step)
  show wpAny _ _ (typeLookup (.ref C) _) _ _ _
  refine (ini.keeps up).at (wpAny_holding (wpAny_bind (((bnd (.ref (h.objs.size + 1))).keeps up).at (wpAny_bind (wpAny_call (codeAny_mono fin fun r s' z => ?_))))))
  rcases r with e | (v | _ | _ | _) <;> first | exact z | exact z.elim | skip
  obtain ⟨rfl, z⟩ := z
  first
    | exact wpAny_pure (wpAny_pure z)
    | (wp_walk; exact z)
/-- C(.., k = ..): laid, then the own __init__ -/
theorem callKw (FB : ExcBaseFacts B newId initId bmB) (same : ∀ z : String, bm.contains (.type z) = bmB.contains (.type z)) {pos : List Value} {kw : List (Str × Value)} {fI : Addr}
    (atC : h.get? C = some (excClassObj nm q C N bs bm hdct sn sub ab col dd k0 k1 k2 k3 k5 newId))
    (ini : W.Looks (model prog w) h (typeLookup (.ref C) "__init__") (some (.ref fI))) (bnd : ∀ self, W.Looks (model prog w) h (bindSpecial (.ref fI) self) (.ref fI, [self])) (few : pos.length ≤ sizeLine)
    (fin : codeAny (model prog w) (A.under (.builtin "type.__call__" ⟨.ref C :: pos, kw⟩)) (.call (.ref fI) ⟨.ref (h.objs.size + 1) :: pos, kw⟩) (W.InitBack (h.objs.size + 1) R)
      ⟨(h.push (tupO pos)).push (bareO C h.objs.size), g, d, t, os⟩) :
    codeAny (model prog w) A (.call (.ref C) ⟨pos, kw⟩) R ⟨h, g, d, t, os⟩ := by
  have _f1 := tc_lookup
  have _f2 := tc_bind (.ref C)
  have isTy : (⟨h, g, d, t, os⟩ : Shared).TypeIs (.ref C) "type" := ⟨_, atC, rfl⟩
  refine codeAny_of_tree (show wpAny _ _ (callAny (.ref C) _) _ _ _ from ?_)
  repeat (any_goals (first | assumption | with_reducible refine wpAny_loadPart_at atC ?_ | wp_step))
  refine ⟨rfl, codeAny_call_builtin_at (Code.quiet_builtin _ (by decide +kernel)) entry_typeCall (wpAny_check_type_call_sub atC (tcallKw FB same atC ini bnd few ?_))⟩
  refine codeAny_mono fin fun r s' z => ?_
  rcases r with e | (v | _ | _ | _) <;> exact z
end
end PySem.WX
namespace PySem.WX
open PySem.W PySem.Calls PyProof.Rows
open Builtin.ObjectAttr
section
variable {prog : Program} {w : World} {A : Around} {E : Value → Shared → Prop} {s : Shared} {K : Frag} {C : Addr} {B : String} {bmB : List Value}
/-- the first attribute of an exception that has no dict yet -/
theorem setFirst {x tp : Addr} {f : Str} {v : Value} {Q : Unit → Shared → Prop} (SF : StoreFacts B bmB "object.__setattr__" "object") (kin : K.In s.heap) (atX : s.heap.get? x = some (bareO C tp))
    (sa : findIn K (.ref C) "__setattr__" = some (some (.builtin "object.__setattr__"))) (ov : excOver K C bmB = true) (nf : findIn K (.ref C) f = some none) (hd : hasDictIn K C = true)
    (fin : ∀ h' tk dx, (∀ b o, b ≠ x → s.heap.get? b = some o → h'.get? b = some o) → s.heap.objs.size ≤ dx → dx ≠ x → h'.get? x = some { cls := .ref C, dict := some dx, data := .fields #[.ref tp, .none, .none, .none, .bool false, .none] } →
      h'.Ns1 dx (fun y => if y = f then some v else none) → Q () { s with heap := h', toks := tk }) :
    wpAny (model prog w) A (setAttr (.ref x) f v) Q E s := by
  have xlt : x ≠ s.heap.objs.size := Nat.ne_of_lt (Heap.lt_size atX)
  obtain ⟨cd, isC, hasD⟩ := any_some hd
  have tk0 : takerIn K C f = some none := by unfold takerIn; rw [nf]; rfl
  refine set_plain (od := none) kin ⟨atX, rfl, rfl, trivial⟩ sa (osa_openX (od := none) (s := { s with toks := s.toks + 1 }) SF kin ⟨atX, rfl, rfl, trivial⟩ ov tk0 fun b => ?_)
  refine wpAny_bind (wpAny_pure (wpAny_bind (instanceDict_exc (c2 := .none) (s := { s with toks := s.toks + 1 }) atX (looks_clsIn kin isC) hasD ?_)))
  have old : ∀ b o, b ≠ x → s.heap.get? b = some o → ((s.heap.push (dictOf [] 0)).update x fun o => { o with dict := some s.heap.objs.size }).get? b = some o := fun b o nb e =>
    (Heap.get?_update_ne _ _ _ _ nb).trans (Heap.get?_push_of_some _ e)
  have newX : ((s.heap.push (dictOf [] 0)).update x fun o => { o with dict := some s.heap.objs.size }).get? x = some { cls := .ref C, dict := some s.heap.objs.size, data := .fields #[.ref tp, .none, .none, .none, .bool false, .none] } :=
    Heap.get?_update_self _ (Heap.get?_push_of_some _ atX) rfl
  refine PX.store_in_new ⟨_, #[], _, (Heap.get?_update_ne _ _ _ _ xlt.symm).trans (Heap.get?_push_at rfl rfl), rfl, fun e he => absurd he (by simp), fun _ => rfl⟩ fun h' tk' ns same => ?_
  exact fin h' tk' s.heap.objs.size (fun b o nb e => (same.2 b (Nat.ne_of_lt (Heap.lt_size e))).trans (old b o nb e)) (Nat.le_refl _) xlt.symm ((same.2 x xlt).trans newX) ns
end
end PySem.WX

namespace L2
open PySem PySem.Spec PyProof.Rows
/-- two new objects are laid and tracked at once -/
theorem Inv.twoNew {X : Cx} {pins : List (Addr × Obj)} {σ : St} {H : Hp} {s : Shared} {h' : Heap} {a d : Addr} {oa od : HO} {t' : Nat} (I : Inv X pins σ H s) (k : ∀ b u, s.heap.get? b = some u → h'.get? b = some u)
    (ha : s.heap.objs.size ≤ a) (hd : s.heap.objs.size ≤ d) (ne : a ≠ d) (xa : ObjOk X.prog X.w (upd (upd H d od) a oa) h' a oa) (xd : ObjOk X.prog X.w (upd (upd H d od) a oa) h' d od) :
    Inv X pins σ (upd (upd H d od) a oa) { s with heap := h', toks := t' } := by
  have na := I.hok.fresh ha
  have nd := I.hok.fresh hd
  have keepH : ∀ {b : Addr} {o : HO}, H b = some o → upd (upd H d od) a oa b = some o := fun {b o} e => by
    rw [upd_ne (ne_of_none e na), upd_ne (ne_of_none e nd)]; exact e
  have old : ∀ {b : Addr} {u : Obj}, s.heap.get? b = some u → b ≠ a ∧ b ≠ d := fun {b u} e =>
    ⟨Nat.ne_of_lt (Nat.lt_of_lt_of_le (Heap.lt_size e) ha), Nat.ne_of_lt (Nat.lt_of_lt_of_le (Heap.lt_size e) hd)⟩
  refine I.un (h' := h') (t' := t') ⟨fun b u e _ _ _ => k b u e, fun b u e _ _ _ => ⟨u.slots, k b u e⟩, fun b u e n _ => ?_, fun b u e _ => ⟨u, k b u e⟩, fun _ _ e => keepH e, fun _ _ _ e => keepH e, fun b ps e => ⟨#[], by rw [keepH e]; simp⟩⟩ fun b o e => ?_
  · rw [upd_ne (old e).1, upd_ne (old e).2]; exact n
  · by_cases h1 : b = a
    · subst h1
      rw [upd_same] at e; cases e; exact xa
    · by_cases h2 : b = d
      · subst h2
        rw [upd_ne h1, upd_same] at e; cases e; exact xd
      · rw [upd_ne h1, upd_ne h2] at e
        exact (I.hok b o e).stay (fun c v _ q => k c v q) (fun _ q => keepH q) fun _ _ q => keepH q
/-- what is asked of an own exception class at C whose built-in base is B -/
structure XCl (K : PySem.W.Frag) (C : Addr) (newId : String) (bmB : List Value) : Prop where
  q : PySem.W.excInitIn K C bmB newId = true
  ov : PySem.W.excOver K C bmB = true
  sa : PySem.W.findIn K (.ref C) "__setattr__" = some (some (.builtin "object.__setattr__"))
  ga : PySem.W.findIn K (.ref C) "__getattribute__" = some (some (.builtin "BaseException.__getattribute__"))
  gg : PySem.W.findIn K (.ref C) "__getattr__" = some none
  hd : PySem.W.hasDictIn K C = true
  xb : PySem.W.subIn K (.ref C) (.type "BaseException") = some true
  kp : PySem.W.keepIn K (.ref C) = true
  ic : PySem.W.isClsIn K C = true
  ca : PySem.W.findIn K (.ref C) "__class__" = some (some (.builtin "object.__class__"))
  sg : PySem.W.specialIn K (.builtin "object.__class__") "__get__" = some (some (.builtin "getset_descriptor.__get__"))
  tk : PySem.W.takesIn K (.builtin "object.__class__") = some true
  mo : PySem.W.mroIn K C (.type "object") = some true
def xclB (K : PySem.W.Frag) (C : Addr) (newId : String) (bmB : List Value) : Bool :=
  PySem.W.excInitIn K C bmB newId && (PySem.W.excOver K C bmB && (decide (PySem.W.findIn K (.ref C) "__setattr__" = some (some (.builtin "object.__setattr__")))
  && (decide (PySem.W.findIn K (.ref C) "__getattribute__" = some (some (.builtin "BaseException.__getattribute__"))) && (decide (PySem.W.findIn K (.ref C) "__getattr__" = some none)
  && (PySem.W.hasDictIn K C && (decide (PySem.W.subIn K (.ref C) (.type "BaseException") = some true) && (PySem.W.keepIn K (.ref C) && (PySem.W.isClsIn K C
  && (decide (PySem.W.findIn K (.ref C) "__class__" = some (some (.builtin "object.__class__"))) && (decide (PySem.W.specialIn K (.builtin "object.__class__") "__get__" = some (some (.builtin "getset_descriptor.__get__")))
  && (decide (PySem.W.takesIn K (.builtin "object.__class__") = some true) && decide (PySem.W.mroIn K C (.type "object") = some true))))))))))))
theorem xclB_ok {K : PySem.W.Frag} {C : Addr} {newId : String} {bmB : List Value} (h : xclB K C newId bmB = true) : XCl K C newId bmB := by
  unfold xclB at h
  simp only [Bool.and_eq_true, decide_eq_true_eq] at h
  obtain ⟨a, b, c, d, e, f, g, i, j, k, l, m, n⟩ := h
  exact ⟨a, b, c, d, e, f, g, i, j, k, l, m, n⟩

/-! ### __init__(self, f): self.f = f -/
def aF (f : Str) (p1 p2 : Pos) : Arguments := { posonlyargs := [], args := [{ arg := "self", annotation := none, pos := p1 }, { arg := f, annotation := none, pos := p2 }], vararg := none, kwonlyargs := [], kw_defaults := [], kwarg := none, defaults := [] }
def bF (f : Str) (q1 q2 q3 q4 : Pos) : List Stmt := [.Assign [.Attribute (.Name "self" q1) f q2] (.Name f q3) q4]
def sF (f : Str) : Scope := { kind := .function, names := [(PySem.Str.ofString "self", .local), (f, .local)], isGenerator := false, isCoroutine := false, more := [] }
/-- what is asked of the field's name: closed for a written one -/
structure FName (f : Str) : Prop where
  pos : ∀ (q : Str) (kV doc pm : Value) (an : Option Addr) (cdv ct : Value) (p1 p2 : Pos) (b : List Stmt) (x v : Value), bindArgs (PySem.W.fnOf "__init__" q (aF f p1 p2) b (sF f) .none kV doc pm an cdv ct) ⟨[x, v], []⟩ = pure [(("self" : Str), x), (f, v)]
  kw : ∀ (q : Str) (kV doc pm : Value) (an : Option Addr) (cdv ct : Value) (p1 p2 : Pos) (b : List Stmt) (x v : Value), bindArgs (PySem.W.fnOf "__init__" q (aF f p1 p2) b (sF f) .none kV doc pm an cdv ct) ⟨[x], [(f, v)]⟩ = pure [(("self" : Str), x), (f, v)]
  ks : List.all [(("self" : Str), Value.none), (f, Value.none)] (fun y => (sF f).names.lookup y.1 == some .local || (sF f).names.lookup y.1 == some .cell) = true
  lf : (sF f).names.lookup f = some .local
  ls : (sF f).names.lookup ("self" : Str) = some .local
  db : (f == ("__debug__" : Str)) = false
  ne : ("self" : Str) ≠ f
theorem ldL {M : Model} {s : Shared} {qual : Str} {scope : Scope} {L a : Addr} {cd : Value} {m : Str → Option Value} {x : Str} {pos : Pos} {v : Value} {Q : Value → Shared → Prop} {A : Around} {E : Value → Shared → Prop} (hn : s.heap.Ns L m) (hv : m x = some v) (h : Q v s)
    (hk : scope.kind = .function) (hl : (envOfC qual scope L a cd).kindOf x = some .local) (hd : (x == ("__debug__" : Str)) = false) :
    wpAny M A (eval (.Name x pos) (envOfC qual scope L a cd)) Q E s := wpAny_Name (wpAny_loadName_local hk hl hn hv h) hd
end L2
namespace L2
open PySem PySem.Spec PyProof.Rows
/-- where the class's own __init__ stands, storing its one argument under f -/
structure XIn (K : PySem.W.Frag) (C fI : Addr) (f : Str) : Prop where
  nf : PySem.W.findIn K (.ref C) f = some none
  iC : PySem.W.findIn K (.ref C) "__init__" = some (some (.ref fI))
  tC : PySem.W.typeIn K (.ref fI) = some (.type "function")
  fn : ∃ (q : Str) (oc : Value) (od : Option Addr) (kV doc pm : Value) (an : Option Addr) (cdv ct : Value) (osl : Array (Option Value)) (p1 p2 q1 q2 q3 q4 : Pos),
    K.lookup fI = some ⟨oc, od, .func (PySem.W.fnOf "__init__" q (aF f p1 p2) (bF f q1 q2 q3 q4) (sF f) .none kV doc pm an cdv ct), osl⟩ ∧ PySem.W.codeIn K cdv q = true
section
variable {prog : Program} {w : World} {A : Around} {E : Value → Shared → Prop} {R : Result → Shared → Prop} {s : Shared} {K : PySem.W.Frag} {C fI : Addr} {f : Str} {B newId initId : String} {bmB : List Value}
/-- what stands behind the making of C(v) -/
structure XMade (h h' : Heap) (e C d : Addr) (f : Str) (v : Value) : Prop where
  keep : ∀ b o, h.get? b = some o → h'.get? b = some o
  big : h.objs.size ≤ e
  dbig : h.objs.size ≤ d
  ne : e ≠ d
  obj : ∃ tp : Addr, h'.get? e = some ({ cls := .ref C, dict := some d, data := .fields #[.ref tp, .none, .none, .none, .bool false, .none] } : Obj)
  ns : h'.Ns1 d (fun y => if y = f then some v else none)
theorem xinit (SF : StoreFacts B bmB "object.__setattr__" "object") (T : XCl K C newId bmB) (J : XIn K C fI f) (N : FName f) {x tp : Addr} {v : Value} {args : Args} (kin : K.In s.heap) (lim : s.heap.NoLimit)
    (atX : s.heap.get? x = some (PySem.WX.bareO C tp)) (notK : K.lookup x = none) (room : A.depth < recursionLimit) (ha : args = ⟨[.ref x, v], []⟩ ∨ args = ⟨[.ref x], [(f, v)]⟩)
    (fin : ∀ h' tk dx, (∀ b o, b ≠ x → s.heap.get? b = some o → h'.get? b = some o) → s.heap.objs.size ≤ dx → dx ≠ x → h'.get? x = some { cls := .ref C, dict := some dx, data := .fields #[.ref tp, .none, .none, .none, .bool false, .none] } →
      h'.Ns1 dx (fun y => if y = f then some v else none) → R (.ok (.ret .none)) { s with heap := h', toks := tk }) :
    codeAny (model prog w) A (.call (.ref fI) args) R s := by
  obtain ⟨q, oc, od, kV, doc, pm, an, cdv, ct, osl, p1, p2, q1, q2, q3, q4, lk, cd⟩ := J.fn
  have bnd : ∀ s' : Shared, BindsTo s' (PySem.W.fnOf "__init__" q (aF f p1 p2) (bF f q1 q2 q3 q4) (sF f) .none kV doc pm an cdv ct) args [(("self" : Str), Value.ref x), (f, v)] := fun s' => by
    rcases ha with rfl | rfl
    · exact BindsTo.of_eq (N.pos q kV doc pm an cdv ct p1 p2 _ _ _)
    · exact BindsTo.of_eq (N.kw q kV doc pm an cdv ct p1 p2 _ _ _)
  refine Att.call_fn (binds := [(("self" : Str), Value.ref x), (f, v)]) kin lim lk cd room (bnd s) N.ks (fun s₁ IC => ?_) rfl rfl rfl
  obtain ⟨h₁, tk₁, rfl⟩ := IC.toInCall.same
  have up : ∀ b o, s.heap.get? b = some o → h₁.get? b = some o := IC.toInCall.keep
  have ns := IC.toInCall.ns
  have zf : (envOfC q (sF f) s.heap.objs.size fI cdv).kindOf f = some .local := N.lf
  have zs : (envOfC q (sF f) s.heap.objs.size fI cdv).kindOf "self" = some .local := N.ls
  show wpAny _ _ (execs _ _) _ _ _
  refine wpAny_execs_cons (plainObj_wpAny_Assign_Attribute ?_)
  refine ldL (v := v) ns ?_ (ldL (v := .ref x) ns ?_ ?_ rfl zs (by decide)) rfl zf N.db
  · simp [bindL, zf, zs, N.ne]
  · simp [bindL, zf, zs, N.ne]
  refine PySem.WX.setFirst (s := ⟨h₁, s.gens, s.drawn, tk₁, s.os⟩) SF (kin.keeps up) (up _ _ atX) T.sa T.ov J.nf T.hd fun h' tk' dx k n1 n2 ox nx => ?_
  show wpAny _ _ (execs _ _) _ _ _
  have z : s.heap.objs.size ≤ h₁.objs.size := Nat.le_of_lt ns.lt
  exact wpAny_execs_nil (fin h' tk' dx (fun b o nb e => k b o nb (up b o e)) (Nat.le_trans z n1) n2 ox nx)
theorem xmade (FB : ExcBaseFacts B newId initId bmB) (SF : StoreFacts B bmB "object.__setattr__" "object") (T : XCl K C newId bmB) (J : XIn K C fI f) (N : FName f) {v : Value} {args : Args} (kin : K.In s.heap) (lim : s.heap.NoLimit) (room : A.depth + 1 < recursionLimit)
    (ha : args = ⟨[v], []⟩ ∨ args = ⟨[], [(f, v)]⟩) (fin : ∀ h' tk e d, XMade s.heap h' e C d f v → R (.ok (.ret (.ref e))) { s with heap := h', toks := tk }) :
    codeAny (model prog w) A (.call (.ref C) args) R s := by
  obtain ⟨nm, N', qn, bs, bm, hdct, sn, sub, ab, col, dd, k0, k1, k2, k3, k5, atC, same⟩ := PySem.W.excInit_of kin T.q
  obtain ⟨hp, g, dr, tk, os⟩ := s
  have one : args.pos.length ≤ sizeLine := by
    rcases ha with rfl | rfl
    · rw [sizeLine_eq]; exact (by decide : 1 ≤ 16777216)
    · exact Nat.zero_le _
  have up : ∀ b o, hp.get? b = some o → ((hp.push (PySem.WX.tupO args.pos)).push (PySem.WX.bareO C hp.objs.size)).get? b = some o := fun b o e => Heap.get?_push_of_some _ (Heap.get?_push_of_some _ e)
  have atX : ((hp.push (PySem.WX.tupO args.pos)).push (PySem.WX.bareO C hp.objs.size)).get? (hp.objs.size + 1) = some (PySem.WX.bareO C hp.objs.size) := by heap_get
  have notK : K.lookup (hp.objs.size + 1) = none := by
    cases e : K.lookup (hp.objs.size + 1) with
    | none => rfl
    | some o => exact absurd (Nat.lt_of_succ_lt (Heap.lt_size (kin _ _ e))) (Nat.lt_irrefl _)
  refine PySem.WX.callKw (pos := args.pos) (kw := args.kw) FB same atC (PySem.W.looks_findIn kin J.iC) (fun self => PySem.W.bind_fn kin self J.tC) one ?_
  refine xinit (s := ⟨(hp.push (PySem.WX.tupO args.pos)).push (PySem.WX.bareO C hp.objs.size), g, dr, tk, os⟩) (v := v) SF T J N (kin.keeps up) (lim.keeps up) atX notK (show A.depth + 1 < recursionLimit from room) ?_ fun h' tk' dx k n1 n2 ox nx => ?_
  · rcases ha with rfl | rfl
    · exact .inl rfl
    · exact .inr rfl
  · have big : hp.objs.size + 1 + 1 ≤ dx := by
      first
        | (simpa only [Heap.size_push] using n1)
        | exact n1
    exact ⟨rfl, fin h' tk' (hp.objs.size + 1) dx ⟨fun b o e => k b o (Nat.ne_of_lt (Nat.lt_succ_of_lt (Heap.lt_size e))) (up b o e), Nat.le_succ _, Nat.le_trans (Nat.le_trans (Nat.le_succ _) (Nat.le_succ _)) big, fun z => n2 z.symm, ⟨_, ox⟩, nx⟩⟩
end
end L2
namespace L2
open PySem PySem.Spec PyProof.Rows
section
variable {X : Cx} {C fI : Addr} {f : Str} {B newId initId : String} {bmB : List Value} {pins : List (Addr × Obj)} {σ : St} {H : Hp} {s : Shared}
/-- the reading of C(e), C(f = e) -/
def tXc (f : Str) (C : Addr) (te : TE) : TE := fun σ H Q => te σ H fun v H1 => ∀ a d, H1 a = none → H1 d = none → a ≠ d → Q (.ref a) (upd (upd H1 d (exd d [(f, v)])) a (exo a C (some d)))
theorem run_xc (FB : ExcBaseFacts B newId initId bmB) (SF : StoreFacts B bmB "object.__setattr__" "object") (T : XCl X.K C newId bmB) (J : XIn X.K C fI f) (N : FName f) {k : Nat} (hr : Room k X.A) (hk : 1 ≤ k) {us : List Value} {kw : List (Str × Value)} {x : V} {u : Value} {Q : VK}
    (I : Inv X pins σ H s) (r : RelV x u) (ha : (us = [u] ∧ kw = []) ∨ (us = [] ∧ kw = [(f, u)])) (h : ∀ a d, H a = none → H d = none → a ≠ d → Q (.ref a) (upd (upd H d (exd d [(f, x)])) a (exo a C (some d)))) :
    wpAny (model X.prog X.w) X.A (call (.ref C) us kw) (EP X pins σ Q) X.xe s := by
  have lim := I.nolimit
  have rm : X.A.depth + 1 < recursionLimit := by have := hr.dp; omega
  obtain ⟨hp, g, dr, tk, os⟩ := s
  refine wpAny_call (xmade FB SF T J N (v := u) I.kIn lim rm (by rcases ha with ⟨rfl, rfl⟩ | ⟨rfl, rfl⟩ <;> first | exact .inl rfl | exact .inr rfl) fun h' tk' e d M => ?_)
  obtain ⟨tp, ox⟩ := M.obj
  have nd : H d = none := I.hok.fresh M.dbig
  have rel : ∀ g, RelO (([(f, x)] : List (Str × V)).lookup g) (if g = f then some u else none) := relO_put (fs := []) (mA := fun _ => none) r fun g => True.intro
  have J2 : Inv X pins σ (upd (upd H d (exd d [(f, x)])) e (exo e C (some d))) ⟨h', g, dr, tk', os⟩ := I.twoNew (t' := tk') M.keep M.big M.dbig M.ne (exo_ok ox) (exd_ok M.ns rel)
  exact ⟨.ref e, _, J2, rfl, h e d (I.hok.fresh M.big) nd M.ne⟩
variable {x : Str} {p pos kpos : Pos} {e : Expr} {te : TE} {k : Nat}
theorem pe_xcPos (FB : ExcBaseFacts B newId initId bmB) (SF : StoreFacts B bmB "object.__setattr__" "object") (T : XCl X.K C newId bmB) (J : XIn X.K C fI f) (N : FName f) (hr : Room k X.A) (hk : 1 ≤ k) (hg : Gl X x) (hm : X.mg x = some (.ref C)) (he : PE X e te)
    (hdb : (x == ("__debug__" : Str)) = false := by decide) (hst : starEach (e :: []) X.env = (false, eval e X.env) :: starEach [] X.env := by rfl) (hpl : (backTo pos (starEach [] X.env)).any (·.1) = false := by rfl) :
    PE X (.Call (.Name x p) [e] [] pos) (tXc f C te) := by
  refine ⟨fun pins s σ H Q I h => ?_⟩
  refine wpAny_Call_Name_kw (ld_glob I hg hm ?_ hdb)
  refine PySem.W.callWith_K (h₀ := X.base) I.ok.mod.kin T.kp (thn ((pa_cons he pa_nil hst).run pos pins s σ H (fun vs H1 => ∃ v, vs = [v] ∧ ∀ a d, H1 a = none → H1 d = none → a ≠ d → Q (.ref a) (upd (upd H1 d (exd d [(f, v)])) a (exo a C (some d)))) I ?_) fun us s1 hh => ?_) hst hpl
  · show te σ H _
    exact (show te σ H (fun v H1 => ∃ w, [v] = [w] ∧ _) from by
      have : (fun v H1 => ∃ w, [v] = [w] ∧ ∀ a d, H1 a = none → H1 d = none → a ≠ d → Q (.ref a) (upd (upd H1 d (exd d [(f, w)])) a (exo a C (some d)))) = fun v H1 => ∀ a d, H1 a = none → H1 d = none → a ≠ d → Q (.ref a) (upd (upd H1 d (exd d [(f, v)])) a (exo a C (some d))) := by
        funext v H1
        simp
      rw [this]
      exact h)
  · obtain ⟨vs, H1, I1, r1, v, ev, q1⟩ := hh
    subst ev
    obtain ⟨u, rfl, ru⟩ := vals1 r1
    exact ⟨I1.kIn, run_xc FB SF T J N hr hk I1 ru (.inl ⟨rfl, rfl⟩) q1⟩
theorem pe_xcKw (FB : ExcBaseFacts B newId initId bmB) (SF : StoreFacts B bmB "object.__setattr__" "object") (T : XCl X.K C newId bmB) (J : XIn X.K C fI f) (N : FName f) (hr : Room k X.A) (hk : 1 ≤ k) (hg : Gl X x) (hm : X.mg x = some (.ref C)) (he : PE X e te)
    (hall : (backToKw pos (keywordEach [⟨some f, e, kpos⟩] X.env)).all (·.1.isSome) = true := by rfl) (hks : (backToKw pos (keywordEach [⟨some f, e, kpos⟩] X.env)).filterMap (·.1) = [f] := by rfl) (hdb : (x == ("__debug__" : Str)) = false := by decide)
    (hpl : ((backTo pos (starEach [] X.env)).any (·.1) || (backToKw pos (keywordEach [⟨some f, e, kpos⟩] X.env)).any (·.1.isNone)) = false := by rfl) :
    PE X (.Call (.Name x p) [] [⟨some f, e, kpos⟩] pos) (tXc f C te) := by
  refine ⟨fun pins s σ H Q I h => ?_⟩
  refine wpAny_Call_Name_kw (ld_glob I hg hm ?_ hdb)
  refine PySem.W.callWith_KW0 (h₀ := X.base) I.ok.mod.kin T.kp hall ?_ hpl
  refine thn ((pk_cons (nm := some f) (kpos := kpos) he pk_nil).run pos pins s σ H (fun vs H1 => ∃ v, vs = [v] ∧ ∀ a d, H1 a = none → H1 d = none → a ≠ d → Q (.ref a) (upd (upd H1 d (exd d [(f, v)])) a (exo a C (some d)))) I ?_) fun ws s1 hh => ?_
  · show te σ H (fun v H1 => ∃ w, [v] = [w] ∧ ∀ a d, H1 a = none → H1 d = none → a ≠ d → Q (.ref a) (upd (upd H1 d (exd d [(f, w)])) a (exo a C (some d))))
    have : (fun v H1 => ∃ w, [v] = [w] ∧ ∀ a d, H1 a = none → H1 d = none → a ≠ d → Q (.ref a) (upd (upd H1 d (exd d [(f, w)])) a (exo a C (some d)))) = fun v H1 => ∀ a d, H1 a = none → H1 d = none → a ≠ d → Q (.ref a) (upd (upd H1 d (exd d [(f, v)])) a (exo a C (some d))) := by
      funext v H1
      simp
    rw [this]
    exact h
  · obtain ⟨vs, H1, I1, r1, v, ev, q1⟩ := hh
    subst ev
    obtain ⟨u, rfl, ru⟩ := vals1 r1
    refine ⟨I1.kIn, ?_⟩
    rw [hks]
    exact run_xc FB SF T J N hr hk I1 ru (.inr ⟨rfl, rfl⟩) q1
end
end L2
namespace L2
open PySem PySem.Spec PyProof.Rows
/-! ### __init__(self): pass -/
def a0 (p1 : Pos) : Arguments := { posonlyargs := [], args := [{ arg := "self", annotation := none, pos := p1 }], vararg := none, kwonlyargs := [], kw_defaults := [], kwarg := none, defaults := [] }
def s0 : Scope := { kind := .function, names := [(PySem.Str.ofString "self", .local)], isGenerator := false, isCoroutine := false, more := [] }
structure XIn0 (K : PySem.W.Frag) (C fI : Addr) : Prop where
  iC : PySem.W.findIn K (.ref C) "__init__" = some (some (.ref fI))
  tC : PySem.W.typeIn K (.ref fI) = some (.type "function")
  fn : ∃ (q : Str) (oc : Value) (od : Option Addr) (kV doc pm : Value) (an : Option Addr) (cdv ct : Value) (osl : Array (Option Value)) (p1 q1 : Pos),
    K.lookup fI = some ⟨oc, od, .func (PySem.W.fnOf "__init__" q (a0 p1) [.Pass q1] s0 .none kV doc pm an cdv ct), osl⟩ ∧ PySem.W.codeIn K cdv q = true
section
variable {X : Cx} {C fI : Addr} {f : Str} {B newId initId : String} {bmB : List Value} {x : Str} {p pos apos : Pos} {e : Expr} {te : TE} {k : Nat}
theorem pe_xc0 (FB : ExcBaseFacts B newId initId bmB) (T : XCl X.K C newId bmB) (J : XIn0 X.K C fI) (hr : Room k X.A) (hk : 1 ≤ k) (hg : Gl X x) (hm : X.mg x = some (.ref C)) (hdb : (x == ("__debug__" : Str)) = false := by decide) :
    PE X (.Call (.Name x p) [] [] pos) (fun _ H Q => ∀ a, H a = none → Q (.ref a) (upd H a (exo a C none))) := by
  refine ⟨fun pins s σ H Q I h => ?_⟩
  refine wpAny_Call_Name_kw (ld_glob I hg hm ?_ hdb)
  refine PySem.W.callWith_K0 I.kIn T.kp ?_
  have kin := I.kIn
  have lim := I.nolimit
  have rm : X.A.depth + 1 < recursionLimit := by have := hr.dp; omega
  obtain ⟨q, oc, od, kV, doc, pm, an, cdv, ct, osl, p1, q1, lk, cd⟩ := J.fn
  obtain ⟨nm, N', qn, bs, bm, hdct, sn, sub, ab, col, dd, k0, k1, k2, k3, k5, atC, same⟩ := PySem.W.excInit_of kin T.q
  obtain ⟨hp, g, dr, tk, os⟩ := s
  have up : ∀ b o, hp.get? b = some o → ((hp.push (PySem.WX.tupO [])).push (PySem.WX.bareO C hp.objs.size)).get? b = some o := fun b o z => Heap.get?_push_of_some _ (Heap.get?_push_of_some _ z)
  have atX : ((hp.push (PySem.WX.tupO [])).push (PySem.WX.bareO C hp.objs.size)).get? (hp.objs.size + 1) = some (PySem.WX.bareO C hp.objs.size) := by heap_get
  refine wpAny_call (PySem.WX.callKw (pos := []) (kw := []) FB same atC (PySem.W.looks_findIn kin J.iC) (fun self => PySem.W.bind_fn kin self J.tC) (Nat.zero_le _) ?_)
  refine Att.call_fn (s := ⟨(hp.push (PySem.WX.tupO [])).push (PySem.WX.bareO C hp.objs.size), g, dr, tk, os⟩) (binds := [(("self" : Str), Value.ref (hp.objs.size + 1))]) (kin.keeps up) (lim.keeps up) lk cd (show X.A.depth + 1 < recursionLimit from rm) (BindsTo.of_eq rfl) rfl (fun s₁ IC => ?_) rfl rfl rfl
  obtain ⟨h₁, tk₁, rfl⟩ := IC.toInCall.same
  have up1 := IC.toInCall.keep
  refine wpAny_execs_cons (wpAny_Pass (wpAny_execs_nil ?_))
  refine ⟨rfl, ?_⟩
  have big : hp.objs.size ≤ hp.objs.size + 1 := Nat.le_succ _
  have J2 : Inv X pins σ (upd H (hp.objs.size + 1) (exo (hp.objs.size + 1) C none)) ⟨h₁, g, dr, tk₁, os⟩ := I.laid (t' := tk₁) (fun b o z => up1 b o (up b o z)) big (exo_ok (up1 _ _ atX))
  exact ⟨.ref (hp.objs.size + 1), _, J2, rfl, h _ (I.hok.fresh big)⟩
/-- e.f of such an exception -/
def tXfl (K : PySem.W.Frag) (newId : String) (bmB : List Value) (f : Str) (te : TE) : TE := fun σ H Q => te σ H fun v H1 => ∃ (a C d : Addr) (fs : List (Str × V)) (y : V), v = .ref a ∧ H1 a = some (exo a C (some d)) ∧ H1 d = some (exd d fs) ∧ fs.lookup f = some y ∧
  XCl K C newId bmB ∧ PySem.W.findIn K (.ref C) f = some none ∧ Q y H1
theorem pe_xfl (he : PE X e te) (hb : attributeBase e f X.env (eval e X.env) = eval e X.env := by rfl) : PE X (.Attribute e f apos) (tXfl X.K newId bmB f te) := by
  refine ⟨fun pins s σ H Q I h => attr_of hb (thn (he.run pins s σ H _ I h) fun u s1 hh => ?_)⟩
  obtain ⟨v, H1, I1, rv, a, C, d, fs, y, rfl, ea, ed, lf, T, nf, q⟩ := hh
  obtain rfl : u = Value.ref a := rv
  obtain ⟨t1, ho⟩ := exo_at I1.hok ea
  obtain ⟨mA, ns, rel⟩ := exd_at I1.hok ed
  obtain ⟨od, hod, look⟩ := lookIn_ns ns
  obtain ⟨w0, hw, rw0⟩ := RelO.some_of (v := y) (o := mA f) (by rw [← lf]; exact rel f)
  have J : PySem.W.InstAt s1.heap a { cls := .ref C, dict := some d, data := .fields #[.ref t1, .none, .none, .none, .bool false, .none] } C (some od) := ⟨ho, rfl, rfl, hod⟩
  exact PySem.PX.exc_get I1.kIn J T.ga T.gg T.xb (PySem.W.findObj_own T.hd nf rfl (by rw [look, hw])) (handed_of rw0) ⟨y, H1, I1.tok _, rw0, q⟩
/-- isinstance of such an exception: one class, a written tuple of classes -/
def rIsX (K : PySem.W.Frag) (newId : String) (bmB : List Value) : List V → Hp → VK → Prop := fun xs H Q => ∃ (a C : Addr) (d : Option Addr) (c : V) (u : Value) (b : Bool), xs = [.ref a, c] ∧ H a = some (exo a C d) ∧ (∀ d', d = some d' → ∃ fs, H d' = some (exd d' fs)) ∧
  XCl K C newId bmB ∧ ClsV c u ∧ PySem.W.kitOne K (.ref C) u = some b ∧ Q (.bl b) H
def rIsXT (K : PySem.W.Frag) (newId : String) (bmB : List Value) : List V → Hp → VK → Prop := fun xs H Q => ∃ (a C tp : Addr) (d : Option Addr) (cs : List V) (us : List Value) (b : Bool), xs = [.ref a, .ref tp] ∧ H a = some (exo a C d) ∧ (∀ d', d = some d' → ∃ fs, H d' = some (exd d' fs)) ∧
  XCl K C newId bmB ∧ H tp = some (.tup cs) ∧ Paired ClsV cs us ∧ PySem.W.kitAny K (.ref C) us = some b ∧ Q (.bl b) H
theorem kitE {pins : List (Addr × Obj)} {σ : St} {H : Hp} {s : Shared} {a : Addr} {d : Option Addr} (I : Inv X pins σ H s) (ea : H a = some (exo a C d)) (hd : ∀ d', d = some d' → ∃ fs, H d' = some (exd d' fs)) (T : XCl X.K C newId bmB) :
    ∃ P : Heap → Prop, PySem.W.KitX X.K (.ref a) (.ref C) P ∧ P s.heap := by
  obtain ⟨t1, ho⟩ := exo_at I.hok ea
  have cl : (PySem.W.clsIn X.K C).isSome = true := T.ic
  cases d with
  | none => exact ⟨_, PySem.W.kitx_exc (od := none) cl T.ga T.gg T.xb T.ca T.sg T.tk T.mo, ⟨ho, rfl, rfl, trivial⟩⟩
  | some d =>
    obtain ⟨fs, ed⟩ := hd d rfl
    obtain ⟨mA, ns, rel⟩ := exd_at I.hok ed
    obtain ⟨od, hod, look⟩ := lookIn_ns ns
    exact ⟨_, PySem.W.kitx_exc (od := some od) cl T.ga T.gg T.xb T.ca T.sg T.tk T.mo, ⟨ho, rfl, rfl, hod⟩⟩
theorem call_isX : CallR X (.builtin "isinstance") (rIsX X.K newId bmB) := by
  intro pins s σ H xs us Q I r h
  obtain ⟨a, C, d, c, u, b, rfl, ea, hd, T, kc, kt, q⟩ := h
  obtain ⟨u1, u2, rfl, r1, r2⟩ := vals2 r
  obtain rfl : u1 = Value.ref a := r1
  obtain rfl : u2 = u := kc.eq r2
  obtain ⟨P, Z, pr⟩ := kitE I ea hd T
  exact PySem.W.kia_one Z I.kIn pr kt (fun z => nomatch z) fun tk => ⟨.bl b, H, I.tok tk, rfl, q⟩
theorem call_isXT : CallR X (.builtin "isinstance") (rIsXT X.K newId bmB) := by
  intro pins s σ H xs us Q I r h
  obtain ⟨a, C, tp, d, cs, ws, b, rfl, ea, hd, T, hT, kc, kt, q⟩ := h
  obtain ⟨u1, u2, rfl, r1, r2⟩ := vals2 r
  obtain rfl : u1 = Value.ref a := r1
  obtain rfl : u2 = Value.ref tp := r2
  obtain ⟨P, Z, pr⟩ := kitE I ea hd T
  obtain ⟨_, its, rv, o, h1, h2, n, h3⟩ := (show ObjOk X.prog X.w H s.heap tp (.tup cs) from I.hok tp _ hT)
  obtain rfl := ClsV.all kc rv
  obtain ⟨oc, od, dt, sl⟩ := o
  simp only at h2 h3
  subst h2 h3
  exact PySem.W.kia_tup Z I.kIn pr h1 kt (fun z => nomatch z) fun tk => ⟨.bl b, H, I.tok tk, rfl, q⟩
end
end L2
/-! new objects told by what stands: the old ones, and the new one -/
namespace L2
open PySem PySem.Spec PyProof.Rows
/-- a new object o at p, all others as they were -/
abbrev NewO (H : Hp) (o : HO) (Q : VK) : Prop := ∀ p H', Same H H' → H p = none → H' p = some o → Q (.ref p) H'
theorem Same.new {H : Hp} {p : Addr} {o : HO} (h : H p = none) : Same H (upd H p o) := fun b u e => by rw [upd_ne (ne_of_none e h)]; exact e
theorem NewO.at {H : Hp} {o : HO} {Q : VK} (h : NewO H o Q) : ∀ p, H p = none → Q (.ref p) (upd H p o) := fun p n => h p _ (Same.new n) n upd_same
section
variable {X : Cx} {f : Value → Value → Sem Value} {r r' : R2}
theorem OpR.imp (h : OpR X f r) (w : ∀ x y H Q, r' x y H Q → r x y H Q) : OpR X f r' := fun pins s σ H x y v u Q I rx ry z => h pins s σ H x y v u Q I rx ry (w _ _ _ _ z)
variable {g : Value} {q q' : List V → Hp → VK → Prop}
theorem CallR.imp (h : CallR X g q) (w : ∀ xs H Q, q' xs H Q → q xs H Q) : CallR X g q' := fun pins s σ H xs us Q I r z => h pins s σ H xs us Q I r (w _ _ _ z)
def rCatM : R2 := fun x y H Q => ∃ l b xs zs, x = .ref l ∧ y = .ref b ∧ H l = some (.lst xs) ∧ H b = some (.lst zs) ∧ xs.length + zs.length ≤ sizeLine ∧ NewO H (.lst (xs ++ zs)) Q
theorem op_catM : OpR X (binaryOp .Add) rCatM := op_cat.imp fun x y H Q ⟨l, b, xs, zs, a1, a2, a3, a4, a5, k⟩ => ⟨l, b, xs, zs, a1, a2, a3, a4, a5, k.at⟩
def rRepM : R2 := fun x y H Q => ∃ l k xs, x = .ref l ∧ y = .int k ∧ H l = some (.lst xs) ∧ -(2 ^ 63) ≤ k ∧ k < 2 ^ 63 ∧ xs.length * k.toNat ≤ sizeLine ∧ NewO H (.lst (List.replicate k.toNat xs).flatten) Q
theorem op_repM : OpR X (binaryOp .Mult) rRepM := op_rep.imp fun x y H Q ⟨l, k, xs, a1, a2, a3, a4, a5, a6, q⟩ => ⟨l, k, xs, a1, a2, a3, a4, a5, a6, q.at⟩
end
section
variable {X : Cx} {e : Expr} {es : List Expr} {te : TE} {t : TA} {pos : Pos}
def tTupM (t : TA) : TE := fun σ H Q => t σ H fun xs H1 => xs.length ≤ sizeLine ∧ NewO H1 (.tup xs) Q
def tLstM (t : TA) : TE := fun σ H Q => t σ H fun xs H1 => xs.length ≤ sizeLine ∧ NewO H1 (.lst xs) Q
theorem pe_tupM {x1} (h : PA X es t) : PE X (.Tuple es x1 pos) (tTupM t) := by
  refine ⟨fun pins s σ H Q I hq => wpAny_Tuple_spliced (thn (h.run pos pins s σ H _ I hq) fun us s1 ⟨xs, H1, I1, r, few, q⟩ => ⟨by rw [← r.length]; exact few, ?_⟩)⟩
  exact ⟨.ref s1.heap.objs.size, _, I1.laid (o := .tup xs) (t' := s1.toks) (fun b u z => Heap.get?_push_of_some _ z) (Nat.le_refl _) ⟨few, us, r, ⟨_, Heap.get?_push_size _ rfl, rfl, _, rfl⟩⟩, rfl, q.at _ (I1.hok.fresh (Nat.le_refl _))⟩
theorem pe_lstM (h : PA X es t) : PE X (.List es pos) (tLstM t) := by
  refine ⟨fun pins s σ H Q I hq => wpAny_List_spliced (thn (h.run pos pins s σ H _ I hq) fun us s1 ⟨xs, H1, I1, r, few, q⟩ => ⟨by rw [← r.length]; exact few, ?_⟩)⟩
  exact ⟨.ref s1.heap.objs.size, _, I1.laid (o := .lst xs) (t' := s1.toks) (fun b u z => Heap.get?_push_of_some _ z) (Nat.le_refl _) ⟨few, us, 0, r, Heap.get?_push_size _ rfl⟩, rfl, q.at _ (I1.hok.fresh (Nat.le_refl _))⟩
end
section
variable {X : Cx} {C fI : Addr} {f : Str} {B newId initId : String} {bmB : List Value} {x : Str} {p pos apos kpos : Pos} {e : Expr} {te : TE} {k : Nat}
/-- C(e) of an own error class: the new object and its dict -/
def tXcM (f : Str) (C : Addr) (te : TE) : TE := fun σ H Q => te σ H fun v H1 => ∀ a d H', Same H1 H' → H1 a = none → H' a = some (exo a C (some d)) → H' d = some (exd d [(f, v)]) → Q (.ref a) H'
theorem xcM {H1 : Hp} {v : V} {f : Str} {C : Addr} {Q : VK} (h : ∀ a d H', Same H1 H' → H1 a = none → H' a = some (exo a C (some d)) → H' d = some (exd d [(f, v)]) → Q (.ref a) H') : ∀ a d, H1 a = none → H1 d = none → a ≠ d → Q (.ref a) (upd (upd H1 d (exd d [(f, v)])) a (exo a C (some d))) := fun a d na nd ne =>
  h a d _ (fun b o z => by rw [upd_ne (ne_of_none z na), upd_ne (ne_of_none z nd)]; exact z) na upd_same (by rw [upd_ne ne.symm, upd_same])
theorem pe_xcPosM (FB : ExcBaseFacts B newId initId bmB) (SF : StoreFacts B bmB "object.__setattr__" "object") (T : XCl X.K C newId bmB) (J : XIn X.K C fI f) (N : FName f) (hr : Room k X.A) (hk : 1 ≤ k) (hm : X.mg x = some (.ref C)) (he : PE X e te) (hg : Gl X x := by rfl)
    (hdb : (x == ("__debug__" : Str)) = false := by decide) (hst : starEach (e :: []) X.env = (false, eval e X.env) :: starEach [] X.env := by rfl) (hpl : (backTo pos (starEach [] X.env)).any (·.1) = false := by rfl) :
    PE X (.Call (.Name x p) [e] [] pos) (tXcM f C te) := by
  refine ⟨fun pins s σ H Q I h => wpAny_Call_Name_kw (ld_glob I hg hm ?_ hdb)⟩
  refine PySem.W.callWith_K (h₀ := X.base) I.ok.mod.kin T.kp ?_ hst hpl
  have one : PA X [e] (fun σ H Q => te σ H fun v H1 => Q [v] H1) := pa_cons he pa_nil hst
  refine thn (one.run pos pins s σ H (fun vs H1 => ∃ v, vs = [v] ∧ ∀ a d H', Same H1 H' → H1 a = none → H' a = some (exo a C (some d)) → H' d = some (exd d [(f, v)]) → Q (.ref a) H') I ?_) fun us s1 hh => ?_
  · have same : (fun (v : V) (H1 : Hp) => ∃ w, [v] = [w] ∧ ∀ a d H', Same H1 H' → H1 a = none → H' a = some (exo a C (some d)) → H' d = some (exd d [(f, w)]) → Q (.ref a) H') = fun v H1 => ∀ a d H', Same H1 H' → H1 a = none → H' a = some (exo a C (some d)) → H' d = some (exd d [(f, v)]) → Q (.ref a) H' := by
      funext v H1
      simp
    show te σ H _
    rw [same]
    exact h
  · obtain ⟨vs, H1, I1, r1, v, rfl, q1⟩ := hh
    obtain ⟨u, rfl, ru⟩ := vals1 r1
    exact ⟨I1.kIn, run_xc FB SF T J N hr hk I1 ru (.inl ⟨rfl, rfl⟩) (xcM q1)⟩
theorem pe_xcKwM (FB : ExcBaseFacts B newId initId bmB) (SF : StoreFacts B bmB "object.__setattr__" "object") (T : XCl X.K C newId bmB) (J : XIn X.K C fI f) (N : FName f) (hr : Room k X.A) (hk : 1 ≤ k) (hm : X.mg x = some (.ref C)) (he : PE X e te) (hg : Gl X x := by rfl)
    (hall : (backToKw pos (keywordEach [⟨some f, e, kpos⟩] X.env)).all (·.1.isSome) = true := by rfl) (hks : (backToKw pos (keywordEach [⟨some f, e, kpos⟩] X.env)).filterMap (·.1) = [f] := by rfl) (hdb : (x == ("__debug__" : Str)) = false := by decide)
    (hpl : ((backTo pos (starEach [] X.env)).any (·.1) || (backToKw pos (keywordEach [⟨some f, e, kpos⟩] X.env)).any (·.1.isNone)) = false := by rfl) :
    PE X (.Call (.Name x p) [] [⟨some f, e, kpos⟩] pos) (tXcM f C te) := by
  refine ⟨fun pins s σ H Q I h => wpAny_Call_Name_kw (ld_glob I hg hm ?_ hdb)⟩
  refine PySem.W.callWith_KW0 (h₀ := X.base) I.ok.mod.kin T.kp hall ?_ hpl
  have one : PK X [⟨some f, e, kpos⟩] (fun σ H Q => te σ H fun v H1 => Q [v] H1) := pk_cons he pk_nil
  refine thn (one.run pos pins s σ H (fun vs H1 => ∃ v, vs = [v] ∧ ∀ a d H', Same H1 H' → H1 a = none → H' a = some (exo a C (some d)) → H' d = some (exd d [(f, v)]) → Q (.ref a) H') I ?_) fun ws s1 hh => ?_
  · have same : (fun (v : V) (H1 : Hp) => ∃ w, [v] = [w] ∧ ∀ a d H', Same H1 H' → H1 a = none → H' a = some (exo a C (some d)) → H' d = some (exd d [(f, w)]) → Q (.ref a) H') = fun v H1 => ∀ a d H', Same H1 H' → H1 a = none → H' a = some (exo a C (some d)) → H' d = some (exd d [(f, v)]) → Q (.ref a) H' := by
      funext v H1
      simp
    show te σ H _
    rw [same]
    exact h
  · obtain ⟨vs, H1, I1, r1, v, rfl, q1⟩ := hh
    obtain ⟨u, rfl, ru⟩ := vals1 r1
    refine ⟨I1.kIn, ?_⟩
    rw [hks]
    exact run_xc FB SF T J N hr hk I1 ru (.inr ⟨rfl, rfl⟩) (xcM q1)
end
end L2
namespace L2
open PySem PySem.Spec PyProof.Rows
/-- isinstance of an own error, whatever its built-in base -/
def rIsE (K : PySem.W.Frag) : List V → Hp → VK → Prop := fun xs H Q => ∃ (n : String) (b : List Value), rIsX K n b xs H Q
def rIsET (K : PySem.W.Frag) : List V → Hp → VK → Prop := fun xs H Q => ∃ (n : String) (b : List Value), rIsXT K n b xs H Q
theorem call_isE' {X : Cx} : CallR X (.builtin "isinstance") (rIsE X.K) := fun pins s σ H xs us Q I r h => h.elim fun n h => h.elim fun b h => call_isX (newId := n) (bmB := b) pins s σ H xs us Q I r h
theorem call_isET {X : Cx} : CallR X (.builtin "isinstance") (rIsET X.K) := fun pins s σ H xs us Q I r h => h.elim fun n h => h.elim fun b h => call_isXT (newId := n) (bmB := b) pins s σ H xs us Q I r h
end L2
namespace L2
open PySem PySem.Spec PyProof.Rows
/-- {} -/
def tDNewM : TE := fun _ H Q => NewO H (.dK []) Q
theorem pe_dnewM {X : Cx} {pos : Pos} : PE X (.Dict [] [] pos) tDNewM := ⟨fun pins s σ H Q I h =>
  (pe_dnewK (X := X) (pos := pos)).run pins s σ H Q I h.at⟩
theorem Same.sqT {K : PySem.W.Frag} {H H' : Hp} {a : Addr} {xs : List V} (e : Same H H') (h : SqT K H a xs) : SqT K H' a xs := by
  rcases h with (h | ⟨o, h⟩) | h
  · exact .inl (.inl (e _ _ h))
  · exact .inl (.inr ⟨o, e _ _ h⟩)
  · exact .inr h
end L2
/-! a, .., *rest = a tuple -/
namespace L2
open PySem PySem.Spec PyProof.Rows PySem.W PySem.Calls
section
variable {X : Cx} {pos : Pos}
/-- (a, .., *r) = a tuple of k values or more: the rest as a new list -/
def gRest (K : PySem.W.Frag) (k : Nat) (t : TGs) : TG := fun v σ H Q => ∃ a xs, v = .ref a ∧ SqT K H a xs ∧ k ≤ xs.length ∧ ∀ p H', Same H H' → H p = none → H' p = some (.lst (xs.drop k)) → t (xs.take k ++ [.ref p]) σ H' Q
theorem pgs_rest {e : Expr} {q : Pos} {es : List Expr} {t : TG} {u : TGs} (h1 : PG X e t) (h2 : PGs X es u)
    (hs : (assignEach (.Starred e q :: es) X.env).map (·.2) = assign e X.env :: (assignEach es X.env).map (·.2) := by rfl) : PGs X (.Starred e q :: es) (gCons t u) := by
  refine ⟨fun pins s σ H vs us Q I r h => ?_⟩
  obtain ⟨v, vr, e1, h⟩ := h
  subst e1
  cases r with
  | cons r rr =>
    rw [hs]
    refine assignInOrder_cons (thn (h1.run pins s σ H _ _ _ I r h) fun _ s1 ⟨σ1, H1, I1, q1⟩ => ?_)
    exact h2.run pins s1 σ1 H1 _ _ Q I1 rr q1
theorem pg_rest {es : List Expr} {m k : Nat} {t : TGs} (hc : X.calm = true) (h : PGs X es t)
    (hn : (assignEach es X.env).length = k + 1 := by rfl) (hst : (assignEach es X.env).findIdx? (·.1) = some k := by rfl) : PG X (.Tuple es m pos) (gRest X.K k t) := by
  refine ⟨fun pins s σ H v u Q I r hw => ?_⟩
  obtain ⟨l, xs, rfl, hq, hk, hw⟩ := hw
  cases r
  obtain ⟨its, rv, hl, hz⟩ := I.tuple hq
  have len := rv.length
  have few : its.toArray.size ≤ sizeLine := by simpa [← len] using hz
  have hki : k ≤ its.toArray.size := by simpa [← len] using hk
  rw [assign_Tuple]
  refine wpAny_bind (wpAny_standAt ?_)
  unfold unpack
  rw [hn, hst]
  refine wpAny_bind (wpAny_holding ?_)
  have hlt : l ≠ s.heap.objs.size := by obtain ⟨o, ho, _⟩ := hl; exact Nat.ne_of_lt (Heap.lt_size ho)
  unfold unpackItems
  refine wpAny_bind ?_
  unfold notIterableAtAll
  refine wpAny_bind (wpAny_specialOf hl.typeIs slot_tuple_iter.lookup ?_)
  refine wpAny_pure ?_
  simp only [Bool.false_eq_true, if_false]
  refine wpAny_bind (wpAny_holding (iter_tuple hl ?_))
  refine wpAny_bind (wpAny_holding (draw_tuple hlt k 0 _ _ ⟨_, Heap.get?_push_size _ rfl, rfl, rfl⟩ (hl.push _) (by omega) fun h₁ hit₁ hs₁ => ?_))
  have hl₁ : IsTup h₁ l its.toArray := (hl.push _).extBut hs₁.extBut hlt
  rw [Nat.zero_add] at hit₁
  obtain ⟨oi, hoi, _⟩ := id hit₁
  obtain ⟨ol, hol, _⟩ := id hl₁
  rw [List.drop_zero]
  have hfl : (its.toArray.toList.take k).length = k := by rw [List.length_take, Array.length_toList]; omega
  rw [if_neg (show ¬ ((its.toArray.toList.take k).length < k) by rw [hfl]; omega)]
  refine wpAny_bind (wpAny_holding (kun_collect (s := { s with heap := h₁ }) (T := "tuple_iterator") (.inr (.inr (.inr rfl))) (Walks.tuple (A := X.A.in1) (I.ok.hd hc) s.heap.objs.size l hlt its.toArray) (fun j u st => st.1.typeIs) (k := k) (by omega) ⟨hit₁, hl₁⟩ (Heap.lt_size hoi) (Heap.lt_size hol) (fun h₂ tk hk2 => ?_) few))
  have z0 : k + 1 - 1 - k = 0 := by omega
  rw [z0]
  show wpAny _ _ (if (its.toArray.toList.drop k).length < 0 then _ else _) _ _ _
  rw [if_neg (by omega)]
  show wpAny _ _ (newList ((its.toArray.toList.drop k).take ((its.toArray.toList.drop k).length - 0)) >>= fun d => pure (its.toArray.toList.take k ++ [d] ++ (its.toArray.toList.drop k).drop ((its.toArray.toList.drop k).length - 0))) _ _ _
  have e1 : (its.toArray.toList.drop k).take ((its.toArray.toList.drop k).length - 0) = its.drop k := by rw [Nat.sub_zero, List.take_length]
  have e2 : its.toArray.toList.take k ++ [Value.ref h₂.objs.size] ++ (its.toArray.toList.drop k).drop ((its.toArray.toList.drop k).length - 0) = its.take k ++ [Value.ref h₂.objs.size] := by rw [Nat.sub_zero, List.drop_length, List.append_nil]
  rw [e1]
  have I1 : Inv X pins σ H { s with heap := h₂, toks := tk } := I.kept (t' := tk) fun b o e => hk2 b o (Nat.ne_of_lt (Heap.lt_size e)) (hs₁.extBut b o (Nat.ne_of_lt (Heap.lt_size e)) (Heap.get?_push_of_some _ e))
  have szd : (xs.drop k).length ≤ sizeLine := by rw [List.length_drop]; omega
  refine wpAny_bind (wpAny_newList (wpAny_pure ?_))
  show wpAny _ _ (assignInOrder _ (its.toArray.toList.take k ++ [Value.ref h₂.objs.size] ++ (its.toArray.toList.drop k).drop ((its.toArray.toList.drop k).length - 0))) _ _ _
  rw [e2]
  have I2 := I1.lnew (t' := tk) (rv.drop k) szd
  exact h.run pins _ σ _ _ _ Q I2 ((rv.take k).append (.cons (show RelV (.ref h₂.objs.size) (.ref h₂.objs.size) from rfl) .nil)) (hw _ _ (Same.new I1.fresh) I1.fresh upd_same)
end
end L2
/-! a def's promise where nothing is being shown (repr) around it -/
namespace L2
open PySem PySem.Spec PyProof.Rows
structure FnG (P : Program) (w : World) (K : PySem.W.Frag) (mg : Str → Option Value) (base : Heap) (CX : CXT) (k : Nat) (f : Addr) (fd : FuncData) (ps : List Str) (sp : Sp) : Prop where
  len : ∀ vs H Q E, sp vs H Q E → vs.length = ps.length
  run : ∀ (A : Around) (outer : List Env) (s : Shared) (H : Hp) (args : Args) (us : List Value) (vs : List V) (Q : VK) (E : XK), A.guards = some [] → Room k A → Env0 P w K mg base A outer s H → BindsTo s fd args (ps.zip us) → Vals vs us →
    sp vs H Q E → codeAny (model P w) A (.call (.ref f) args) (CR CX outer P w H s Q E) s
section
variable {P : Program} {w : World} {K : PySem.W.Frag} {mg : Str → Option Value} {base : Heap} {CX : CXT} {k : Nat} {f : Addr} {fd : FuncData} {ps : List Str} {sp : Sp}
theorem FnOk.toG (F : FnOk P w K mg base CX k f fd ps sp) : FnG P w K mg base CX k f fd ps sp := ⟨F.len, fun A o s H a us vs Q E _ => F.run A o s H a us vs Q E⟩
theorem FnG.mono {j : Nat} (F : FnG P w K mg base CX j f fd ps sp) (h : j ≤ k) : FnG P w K mg base CX k f fd ps sp := ⟨F.len, fun A o s H a us vs Q E g r => F.run A o s H a us vs Q E g (r.mono h)⟩
/-- THE RULE, with the word that no repr is under way -/
theorem fnG_of {name qual : Str} {params : Arguments} {body : List Stmt} {scope : Scope} {dV kV doc pm cdv ct oc : Value} {an od : Option Addr} {osl : Array (Option Value)} {N : List Str}
    (lk : K.lookup f = some ⟨oc, od, .func (PySem.W.fnOf name qual params body scope dV kV doc pm an cdv ct), osl⟩) (cdo : PySem.W.codeIn K cdv qual = true) (S : FnScope N ps scope) (len : ∀ vs H Q E, sp vs H Q E → vs.length = ps.length)
    (hb : ∀ (A : Around) (outer : List Env) (s : Shared) (H : Hp) (vs : List V) (Q : VK) (E : XK), A.guards = some [] → Room k (A.deeper (envOfC qual scope s.heap.objs.size f cdv)) → sp vs H Q E →
      ∃ t, PSs (cxOf CX P w K mg base N qual scope f cdv A outer s H E) body t ∧ t { nx := fun _ H' => Q .non H', rt := Q } (start N vs) H) :
    FnG P w K mg base CX (k + 1) f (PySem.W.fnOf name qual params body scope dV kV doc pm an cdv ct) ps sp := by
  refine ⟨len, fun A outer s H args us vs Q E gA room e0 bnd rv pr => ?_⟩
  have kin : K.In s.heap := e0.mod.kin.keeps fun b o z => (e0.bs b o z).1
  have noLim : s.heap.NoLimit := e0.mod.nolimit.keeps fun b o z => (e0.bs b o z).1
  refine codeAny_call_function room.depth (kin _ _ lk) rfl S.co S.gen rfl (PySem.W.codeRec_of kin cdo) (bnd _ _ _ _ (wpAny_newFunctionEnv_cells S.kind (fun y hy => ?_) fun env same s1 IC => ?_))
  · rcases S.par y.1 (List.of_mem_zip (show (y.1, y.2) ∈ ps.zip us from hy)).1 with z | z
    · exact .inl z
    · exact .inr ⟨z, PySem.W.cellsFrom_some _ _ _ (.inl z)⟩
  subst same
  obtain ⟨t, pt, rd⟩ := hb A outer s H vs Q E gA (room.deeper _) pr
  have I0 : Inv (cxOf CX P w K mg base N qual scope f cdv A outer s H E) [] (start N vs) H s1 := inv_start S room.hd e0 (len _ _ _ _ pr) rv IC
  refine ⟨noLim.keeps IC.toInCall.keep, codeAny_func (wpAny_mono (pt.run [] s1 (start N vs) H _ I0 rd) (fun fl s' z => ?_) fun e s' z => z)⟩
  cases fl with
  | ret u =>
    obtain ⟨v, σ', H', J, r2, q⟩ := z
    exact ⟨v, H', J.os, J.bare, J.base, J.hok, r2, q⟩
  | next =>
    obtain ⟨σ', H', J, q⟩ := z
    exact ⟨V.non, H', J.os, J.bare, J.base, J.hok, rfl, q⟩
  | brk => exact z.elim fun _ y => y.elim fun _ y => y.2.elim
  | cont => exact z.elim fun _ y => y.elim fun _ y => y.2.elim
theorem FunD.okG {x qual : Str} {params : Arguments} {body : List Stmt} {scope : Scope} {dvs : List V} {kws : List (Str × V)} {N : List Str} (F : FunD K x qual params body scope dvs kws f fd) (S : FnScope N ps scope) (len : ∀ vs H Q E, sp vs H Q E → vs.length = ps.length)
    (hb : ∀ (cdv : Value) (A : Around) (outer : List Env) (s : Shared) (H : Hp) (vs : List V) (Q : VK) (E : XK), A.guards = some [] → Room k (A.deeper (envOfC qual scope s.heap.objs.size f cdv)) → sp vs H Q E →
      ∃ t, PSs (cxOf CX P w K mg base N qual scope f cdv A outer s H E) body t ∧ t { nx := fun _ H' => Q .non H', rt := Q } (start N vs) H) : FnG P w K mg base CX (k + 1) f fd ps sp := by
  obtain ⟨oc, od, dV, kV, doc, pm, an, cdv, ct, osl, rfl, lk, cdo, _, _⟩ := F.ex
  exact fnG_of lk cdo S len fun A outer s H vs Q E g r p => hb cdv A outer s H vs Q E g r p
end
section
variable {X : Cx} {CX : CXT} {k : Nat} {f : Addr} {fd : FuncData} {ps : List Str} {sp : Sp} {ds : List Value} {dvs : List V} {E : XK} {x : Str} {p pos : Pos} {e : Expr} {es : List Expr} {t : TA}
/-- f(e, ..) of such a def -/
theorem pe_callG (F : FnG X.prog X.w X.K X.mg X.base CX k f fd ps sp) (gA : X.A.guards = some []) (hr : Room k X.A) (hg : Gl X x) (hm : X.mg x = some (.ref f)) (hk : PySem.W.keepIn X.K (.ref f) = true) (hb : Binds X.K fd ps ds) (hd : Vals dvs ds) (hx : Passes CX X E)
    (ha : PA X (e :: es) t) (hdb : (x == ("__debug__" : Str)) = false := by decide) (hst : starEach (e :: es) X.env = (false, eval e X.env) :: starEach es X.env := by rfl) (hpl : (backTo pos (starEach es X.env)).any (·.1) = false := by rfl) :
    PE X (.Call (.Name x p) (e :: es) [] pos) (tCall sp dvs E t) := by
  refine ⟨fun pins s σ H Q I h => wpAny_Call_Name_kw (ld_glob I hg hm ?_ hdb)⟩
  refine PySem.W.callWith_K (h₀ := X.base) I.ok.mod.kin hk (thn (ha.run pos pins s σ H _ I h) fun us s1 ⟨vs, H1, I1, r, q⟩ => ⟨I1.kIn, ?_⟩) hst hpl
  have r2 : Vals (vs ++ dvs) (us ++ ds) := r.append hd
  refine wpAny_call (codeAny_mono (F.run X.A X.stack s1 H1 ⟨us, []⟩ (us ++ ds) (vs ++ dvs) Q E gA hr I1.env0 (hb s1 us I1.kIn (by rw [← r2.length]; exact F.len _ _ _ _ q)) r2 q) fun r s' z => ?_)
  cases r with
  | error y => exact hx pins σ H1 s1 y s' I1 z
  | ok fl =>
    cases fl with
    | ret u => exact I1.after z
    | next => exact z.elim
    | brk => exact z.elim
    | cont => exact z.elim
end
/-- the script: a list that is known to the object, or one of the module's own -/
def ScrL (K : PySem.W.Frag) (H : Hp) (a : Addr) (xs : List V) : Prop :=
  (∃ o, H a = some (.frz o (.lst xs))) ∨ ∃ its : List Value, K.lookup a = some { cls := .type "list", data := .seq its.toArray } ∧ its.length ≤ sizeLine ∧ Vals xs its
theorem ScrL.seq {K : PySem.W.Frag} {H : Hp} {a : Addr} {xs : List V} (h : ScrL K H a xs) : SqL K H a xs := by
  rcases h with ⟨o, h⟩ | ⟨its, h1, h2, h3⟩
  · exact .inl (.inr ⟨o, h⟩)
  · exact .inr ⟨_, its.toArray, _, h1, rfl, rfl, rfl, by simpa using h2, by simpa using h3⟩
theorem ScrL.same {K : PySem.W.Frag} {H H' : Hp} {a : Addr} {xs : List V} (h : ScrL K H a xs) (e : ∀ b o, H b = some o → H' b = some o) : ScrL K H' a xs := by
  rcases h with ⟨o, h⟩ | h
  · exact .inl ⟨o, e _ _ h⟩
  · exact .inr h
/-- the script + [..] -/
def rCatS (K : PySem.W.Frag) : R2 := fun x y H Q => ∃ l b xs zs, x = .ref l ∧ y = .ref b ∧ ScrL K H l xs ∧ H b = some (.lst zs) ∧ xs.length + zs.length ≤ sizeLine ∧ ∀ p, H p = none → Q (.ref p) (upd H p (.lst (xs ++ zs)))
theorem op_catS {X : Cx} : OpR X (binaryOp .Add) (rCatS X.K) := by
  intro pins s σ H x y v u Q I rx ry h
  obtain ⟨l, b, xs, zs, rfl, rfl, hS, hB, few, q⟩ := h
  obtain rfl : v = Value.ref l := rx
  obtain rfl : u = Value.ref b := ry
  obtain ⟨its, n, rv, lv, at_l⟩ : ∃ (its : List Value) (n : Nat), Vals xs its ∧ xs.length = its.length ∧ s.heap.get? l = some { cls := .type "list", data := .seq its.toArray n } := by
    rcases hS with ⟨o, h⟩ | ⟨its, h1, h2, h3⟩
    · obtain ⟨_, _, its, n, r, z⟩ := (show ObjOk X.prog X.w H s.heap l (.frz o (.lst xs)) from I.hok l _ h)
      exact ⟨its, n, r, r.length, z⟩
    · exact ⟨its, _, h3, h3.length, I.kIn _ _ h1⟩
  obtain ⟨_, its2, n2, rv2, lv2, at_b⟩ := I.lstM hB
  refine PySem.P.add_list at_l at_b ?_ (by rw [List.size_toArray, List.size_toArray]; omega)
  rw [show its.toArray ++ its2.toArray = (its ++ its2).toArray by simp]
  exact ⟨.ref _, _, I.lnew (t' := s.toks) (rv.append rv2) (by rw [List.length_append]; omega), rfl, q _ I.fresh⟩
/-- the law's own call -/
theorem lawG {P : Program} {w : World} {K : PySem.W.Frag} {mg mb : Str → Option Value} {CX : CXT} {k : Nat} {fa a : Addr} {fd : FuncData} {x : Str} {sp : Sp} {s₁ : Shared} {vs : List Value} {ns : List Int}
    (kin : K.In s₁.heap) (gl : s₁.heap.Ns mainGlobals mg) (bl : s₁.heap.Ns builtinsNs mb) (bb : ∀ y : Str, y ≠ "__name__" → mb y = bootBuiltins y) (nl : s₁.heap.NoLimit) (gn : s₁.gens = #[])
    (hs : s₁.heap.get? a = some { cls := .type "list", data := .seq vs.toArray }) (hi : IntsAre vs ns) (hl : ns.length ≤ sizeLine) (hr : Room k callerA)
    (F : ∀ base : Heap, K.In base → base.Ns mainGlobals mg → FnG P w K mg base CX k fa fd [x] sp) (bnd : ∀ (s : Shared) (u : Value), BindsTo s fd ⟨[u], []⟩ [(x, u)])
    (pr : ∀ H : Hp, Only H → ScrL K H a (ns.map V.int) → sp [.ref a] H (fun v _ => v = .bl true) fun _ _ _ => False) (no : ∀ H e s', CX [] H s₁ (fun _ _ _ => False) e s' → False) :
    codeAny (model P w) callerA (.call (.ref fa) ⟨[.ref a], []⟩) (fun r s' => r = .ok (.ret (.bool true)) ∧ OldK s₁.heap s'.heap ∧ s'.os = s₁.os ∧ AllBare s'.gens) s₁ := by
  have main : ∀ H : Hp, Only H → ScrL K H a (ns.map V.int) → HOk P w H s₁.heap → (∀ b u, H b = some u → b = a ∧ K.lookup a = none) →
      codeAny (model P w) callerA (.call (.ref fa) ⟨[.ref a], []⟩) (fun r s' => r = .ok (.ret (.bool true)) ∧ OldK s₁.heap s'.heap ∧ s'.os = s₁.os ∧ AllBare s'.gens) s₁ := by
    intro H only sq ok at_a
    have toB : ∀ {b : Addr} {o : Obj}, s₁.heap.get? b = some o → H b = none → (hidT s₁.heap H).get? b = some o := fun z n => hidT_get z n
    have dictFree : ∀ {b : Addr} {o : Obj} {es : Array DictEntry} {ep : Nat}, s₁.heap.get? b = some o → o.data = .dict es ep → H b = none := fun {b o es ep} z dz => by
      cases q : H b with
      | none => rfl
      | some u =>
        obtain ⟨rfl, _⟩ := at_a b u q
        rw [hs] at z
        cases z
        exact nomatch (show Data.seq vs.toArray _ = Data.dict es ep from dz)
    have toNs : ∀ {b : Addr} {m : Str → Option Value}, s₁.heap.Ns b m → (hidT s₁.heap H).Ns b m := fun ⟨o, es, ep, z, dz, r⟩ => ⟨o, es, ep, toB z (dictFree z dz), dz, r⟩
    have kinB : K.In (hidT s₁.heap H) := fun b o z => toB (kin b o z) (by
      cases q : H b with
      | none => rfl
      | some u =>
        obtain ⟨rfl, n⟩ := at_a b u q
        rw [n] at z
        cases z)
    have M : Mod K mg (hidT s₁.heap H) := ⟨kinB, toNs gl, ⟨mb, toNs bl, bb⟩, nl.elim fun mc z => ⟨mc, toNs z.1, z.2⟩⟩
    have E0' : Env0 P w K mg (hidT s₁.heap H) callerA [] s₁ H := ⟨rfl, M, fun b o z => of_hidT z, Nat.le_of_eq (hidT_size _ _), trivial, fun b z => absurd (show b ∈ ([] : List Addr) from z) (by simp), ok, .of_eq gn⟩
    refine codeAny_mono ((F _ kinB (toNs gl)).run callerA [] s₁ H ⟨[.ref a], []⟩ [.ref a] [.ref a] _ _ rfl hr E0' (bnd s₁ (.ref a)) (.cons rfl .nil) (pr H only sq)) fun r s' z => ?_
    cases r with
    | error y => exact (no H y s' z).elim
    | ok fl =>
      cases fl with
      | next => exact z.elim
      | brk => exact z.elim
      | cont => exact z.elim
      | ret u =>
        obtain ⟨v, H', os, bare, un, ok', rv, q⟩ := z
        obtain rfl : v = .bl true := q
        obtain rfl : u = Value.bool true := rv
        refine ⟨rfl, OldK.of_keep fun b o z => ?_, os, bare⟩
        rcases only b with n | ⟨ob, xs, n⟩
        · exact un.keep b o z n (fun y => absurd (show b ∈ ([] : List Addr) from y) (by simp)) (by simp)
        · obtain ⟨e2, _⟩ := ok' b _ (un.frzs b ob _ n)
          obtain ⟨e1, _⟩ := ok b _ n
          rw [e1] at z
          cases z
          exact e2
  have lenV := hi.length
  cases kc : K.lookup a with
  | some o =>
    have z := kin a o kc
    rw [hs] at z
    cases z
    exact main (fun _ => none) (fun _ => .inl rfl) (.inr ⟨vs, kc, by rw [lenV]; exact hl, vals_ints hi⟩) (fun b u z => nomatch (show (none : Option HO) = some u from z)) fun b u z => nomatch (show (none : Option HO) = some u from z)
  | none =>
    have hH : ∀ b u, (if b = a then some (HO.frz { cls := .type "list", data := .seq vs.toArray } (.lst (ns.map V.int))) else none) = some u → b = a ∧ u = HO.frz { cls := .type "list", data := .seq vs.toArray } (.lst (ns.map V.int)) := fun b u z => by
      by_cases e : b = a
      · rw [if_pos e] at z
        exact ⟨e, (Option.some.inj z).symm⟩
      · rw [if_neg e] at z
        cases z
    refine main (fun b => if b = a then some (.frz { cls := .type "list", data := .seq vs.toArray } (.lst (ns.map V.int))) else none) (fun b => ?_) (.inl ⟨_, if_pos rfl⟩) (fun b u z => ?_) fun b u z => ⟨(hH b u z).1, kc⟩
    · by_cases e : b = a
      · exact .inr ⟨_, _, if_pos e⟩
      · exact .inl (if_neg e)
    · obtain ⟨rfl, rfl⟩ := hH b u z
      exact ⟨hs, by rw [List.length_map]; exact hl, vs, _, vals_ints hi, hs⟩
/-- the walk's end over a head by facts, for such a promise -/
theorem walkG {l : PySem.W.OpenLaw} {n k : Nat} {q : Program} {loose : List Str} {XP : (Str → Option Value) → Heap → Prop} {YP : World → Heap → Prop} {d : DefRec} {CX : CXT} {x : Str} (most : l.most = some n) (fits : n ≤ sizeLine) (nod : d.params.defaults = []) (hr : Room k callerA)
    (F : ∀ (w : World) (mg : Str → Option Value) (fa : Addr) (h : Heap), YP w h → h.Ns mainGlobals mg → mg d.name = some (.ref fa) →
      ∃ (K : PySem.W.Frag) (fd : FuncData) (sp : Sp), K.In h ∧ (∀ (s : Shared) (u : Value), BindsTo s fd ⟨[u], []⟩ [(x, u)]) ∧
        (∀ (H : Hp) (a : Addr) (ns : List Int), ns.length ≤ n → Only H → ScrL K H a (ns.map V.int) → sp [.ref a] H (fun v _ => v = .bl true) fun _ _ _ => False) ∧
        ∀ base : Heap, K.In base → base.Ns mainGlobals mg → FnG l.prog w K mg base CX k fa fd [x] sp)
    (no : ∀ (H : Hp) (s : Shared) (e : Value) (s' : Shared), CX [] H s (fun _ _ _ => False) e s' → False) : PySem.W.WalkO q loose XP YP l.row.toRowW d [] (fun f vs => PySem.call f vs) := by
  refine Att.attach_call most nod fun w s₀ s₁ mg mb fa o pm cd doc a vs ns G Y ho hd hcd hmg hobj hints hlen hg => ?_
  obtain ⟨K, fd, sp, kin, bnd, pr, fok⟩ := F w mg fa _ Y G.T.g hmg
  exact lawG kin G.T.g G.T.b G.T.builtins G.T.nolimit hg hobj hints (Nat.le_trans hlen fits) hr fok bnd (fun H o s => pr H a ns hlen o s) fun H e s' => no H s₁ e s'
end L2
namespace L2
/-- a test whose answer is known -/
theorem if_yes {b : Bool} {A B : Prop} (h : b = true) (x : A) : if b = true then A else B := by rw [if_pos h]; exact x
theorem if_no {b : Bool} {A B : Prop} (h : b = false) (x : B) : if b = true then A else B := by rw [h]; exact x
end L2
/-! a def of the module by its name: its promise, its arguments' binding, where it stands -/
namespace L2
open PySem PySem.Spec PyProof.Rows
/-- a def without defaults, as the head tells it -/
structure Has (K : PySem.W.Frag) (mg : Str → Option Value) (x : Str) (st : Stmt) : Prop where
  gl : mg x = some (.ref (He.ga K x))
  df : ∃ fd, FunD K x x (defArgs st) (defBody st) (defScope st) [] [] (He.ga K x) fd
/-- how positional arguments bind; by «fun _ _ _ _ _ _ us hl => match us, hl with | [_, _], _ => rfl» -/
def BindOk (x : Str) (st : Stmt) (ps : List Str) : Prop := ∀ (kV doc pm : Value) (an : Option Addr) (cdv ct : Value) (us : List Value), us.length = ps.length → bindArgs (PySem.W.fnOf x x (defArgs st) (defBody st) (defScope st) .none kV doc pm an cdv ct) ⟨us, []⟩ = pure (ps.zip us)
structure FnP (P : Program) (w : World) (K : PySem.W.Frag) (mg : Str → Option Value) (base : Heap) (CX : CXT) (k : Nat) (x : Str) (ps : List Str) (sp : Sp) : Prop where
  gl : mg x = some (.ref (He.ga K x))
  kp : PySem.W.keepIn K (.ref (He.ga K x)) = true
  fn : ∃ fd, FnG P w K mg base CX k (He.ga K x) fd ps sp ∧ Binds K fd ps [] ∧ ∃ oc od osl, K.lookup (He.ga K x) = some ⟨oc, od, .func fd, osl⟩
/-- the same whatever is under way -/
structure FnQ (P : Program) (w : World) (K : PySem.W.Frag) (mg : Str → Option Value) (base : Heap) (CX : CXT) (k : Nat) (x : Str) (ps : List Str) (sp : Sp) : Prop where
  gl : mg x = some (.ref (He.ga K x))
  kp : PySem.W.keepIn K (.ref (He.ga K x)) = true
  fn : ∃ fd, FnOk P w K mg base CX k (He.ga K x) fd ps sp ∧ Binds K fd ps [] ∧ ∃ oc od osl, K.lookup (He.ga K x) = some ⟨oc, od, .func fd, osl⟩
section
variable {P : Program} {w : World} {K : PySem.W.Frag} {mg : Str → Option Value} {base : Heap} {CX : CXT} {k : Nat} {x : Str} {ps : List Str} {sp : Sp} {st : Stmt} {N : List Str}
theorem lookD {q : Str} {pa : Arguments} {b : List Stmt} {sc : Scope} {dvs : List V} {kws : List (Str × V)} {f : Addr} {fd : FuncData} (F : FunD K x q pa b sc dvs kws f fd) : ∃ oc od osl, K.lookup f = some ⟨oc, od, .func fd, osl⟩ := by
  obtain ⟨oc, od, dV, kV, doc, pm, an, cdv, ct, osl, rfl, lk, _⟩ := F.ex
  exact ⟨oc, od, osl, lk⟩
theorem FnQ.toP (F : FnQ P w K mg base CX k x ps sp) : FnP P w K mg base CX k x ps sp := ⟨F.gl, F.kp, F.fn.elim fun fd h => ⟨fd, h.1.toG, h.2⟩⟩
theorem FnQ.mono {j : Nat} (F : FnQ P w K mg base CX j x ps sp) (h : j ≤ k) : FnQ P w K mg base CX k x ps sp := ⟨F.gl, F.kp, F.fn.elim fun fd z => ⟨fd, z.1.mono h, z.2⟩⟩
theorem FnP.mono {j : Nat} (F : FnP P w K mg base CX j x ps sp) (h : j ≤ k) : FnP P w K mg base CX k x ps sp := ⟨F.gl, F.kp, F.fn.elim fun fd z => ⟨fd, z.1.mono h, z.2⟩⟩
theorem Has.q (Hs : Has K mg x st) (S : FnScope N ps (defScope st)) (B : BindOk x st ps) (len : ∀ vs H Q E, sp vs H Q E → vs.length = ps.length)
    (hb : ∀ (cdv : Value) (A : Around) (outer : List Env) (s : Shared) (H : Hp) (vs : List V) (Q : VK) (E : XK), Room k (A.deeper (envOfC x (defScope st) s.heap.objs.size (He.ga K x) cdv)) → sp vs H Q E →
      ∃ t, PSs (cxOf CX P w K mg base N x (defScope st) (He.ga K x) cdv A outer s H E) (defBody st) t ∧ t { nx := fun _ H' => Q .non H', rt := Q } (start N vs) H) : FnQ P w K mg base CX (k + 1) x ps sp := by
  obtain ⟨fd, F⟩ := Hs.df
  exact ⟨Hs.gl, F.kp, fd, F.ok S len hb, F.bindsN B, lookD F⟩
theorem Has.g (Hs : Has K mg x st) (S : FnScope N ps (defScope st)) (B : BindOk x st ps) (len : ∀ vs H Q E, sp vs H Q E → vs.length = ps.length)
    (hb : ∀ (cdv : Value) (A : Around) (outer : List Env) (s : Shared) (H : Hp) (vs : List V) (Q : VK) (E : XK), A.guards = some [] → Room k (A.deeper (envOfC x (defScope st) s.heap.objs.size (He.ga K x) cdv)) → sp vs H Q E →
      ∃ t, PSs (cxOf CX P w K mg base N x (defScope st) (He.ga K x) cdv A outer s H E) (defBody st) t ∧ t { nx := fun _ H' => Q .non H', rt := Q } (start N vs) H) : FnP P w K mg base CX (k + 1) x ps sp := by
  obtain ⟨fd, F⟩ := Hs.df
  exact ⟨Hs.gl, F.kp, fd, F.okG S len hb, F.bindsN B, lookD F⟩
end
section
variable {X : Cx} {CX : CXT} {k j : Nat} {ps : List Str} {sp : Sp} {E : XK} {x : Str} {p pos : Pos} {e : Expr} {es : List Expr} {t : TA}
/-- f(e, ..) -/
theorem pe_f (F : FnQ X.prog X.w X.K X.mg X.base CX j x ps sp) (hr : Room k X.A) (hx : Passes CX X E) (ha : PA X (e :: es) t) (hg : Gl X x := by rfl) (hj : j ≤ k := by decide) (hdb : (x == ("__debug__" : Str)) = false := by decide)
    (hst : starEach (e :: es) X.env = (false, eval e X.env) :: starEach es X.env := by rfl) (hpl : (backTo pos (starEach es X.env)).any (·.1) = false := by rfl) : PE X (.Call (.Name x p) (e :: es) [] pos) (tCall sp [] E t) := by
  obtain ⟨fd, G, b, _⟩ := F.fn
  exact pe_call G (hr.mono hj) hg F.gl F.kp b .nil hx ha hdb hst hpl
theorem pe_fG (F : FnP X.prog X.w X.K X.mg X.base CX j x ps sp) (gA : X.A.guards = some []) (hr : Room k X.A) (hx : Passes CX X E) (ha : PA X (e :: es) t) (hg : Gl X x := by rfl) (hj : j ≤ k := by decide) (hdb : (x == ("__debug__" : Str)) = false := by decide)
    (hst : starEach (e :: es) X.env = (false, eval e X.env) :: starEach es X.env := by rfl) (hpl : (backTo pos (starEach es X.env)).any (·.1) = false := by rfl) : PE X (.Call (.Name x p) (e :: es) [] pos) (tCall sp [] E t) := by
  obtain ⟨fd, G, b, _⟩ := F.fn
  exact pe_callG G gA (hr.mono hj) hg F.gl F.kp b .nil hx ha hdb hst hpl
end
end L2
/-! data with plans in it -/
namespace L2
open PySem PySem.Spec PyProof.Rows
inductive Dt where
  | non | bl (b : Bool) | int (i : Int) | str (x : Str) | lst (ds : List Dt) | tup (ds : List Dt) | dic | wrk (sc : Dt) | sup
def deedAdd : Dt → Bool
  | .tup (.str x :: _) => decide (x = "add") | _ => false
def okDeed : Dt → Bool
  | .tup (.str _ :: _) => true | _ => false
def rowDs : Dt → List Dt
  | .tup [_, _, _, .tup ds] => ds | _ => []
def okRow : Dt → Bool
  | .tup [_, _, _, .tup ds] => decide (ds.length ≤ 8) && ds.all okDeed | _ => false
/-- of the form of a script -/
def okSc : Dt → Bool
  | .tup rows => decide (rows.length ≤ 30) && rows.all okRow | _ => false
def hasAdd : Dt → Bool
  | .tup rows => rows.any fun r => (rowDs r).any deedAdd | _ => false
abbrev wkA (K : PySem.W.Frag) : Addr := He.ga K "WorkerPlan"
abbrev suA (K : PySem.W.Frag) : Addr := He.ga K "SupervisorPlan"
mutual
inductive Dd (K : PySem.W.Frag) (H : Hp) : V → Dt → Prop
  | non : Dd K H .non .non
  | bl (b : Bool) : Dd K H (.bl b) (.bl b)
  | int (i : Int) : Dd K H (.int i) (.int i)
  | str (x : Str) (h : x.length ≤ 1000 := by decide) : Dd K H (.str x) (.str x)
  | lst {a : Addr} {xs : List V} {ds : List Dt} : SqL K H a xs → DdAll K H xs ds → Dd K H (.ref a) (.lst ds)
  | tup {a : Addr} {xs : List V} {ds : List Dt} : SqT K H a xs → DdAll K H xs ds → Dd K H (.ref a) (.tup ds)
  | dic {a : Addr} : H a = some (.dK []) → Dd K H (.ref a) .dic
  | wrk {a dx : Addr} {fs : List (Str × V)} {v : V} {sc : Dt} : H a = some (.ins (wkA K) dx fs) → fs.lookup ("script" : Str) = some v → Dd K H v sc → okSc sc = true → Dd K H (.ref a) (.wrk sc)
  | sup {a dx : Addr} {fs : List (Str × V)} : H a = some (.ins (suA K) dx fs) → Dd K H (.ref a) .sup
inductive DdAll (K : PySem.W.Frag) (H : Hp) : List V → List Dt → Prop
  | nil : DdAll K H [] []
  | cons {v : V} {vs : List V} {d : Dt} {ds : List Dt} : Dd K H v d → DdAll K H vs ds → DdAll K H (v :: vs) (d :: ds)
end
theorem Same.sqL {K : PySem.W.Frag} {H H' : Hp} {a : Addr} {xs : List V} (e : Same H H') (h : SqL K H a xs) : SqL K H' a xs := by
  rcases h with (h | ⟨o, h⟩) | h
  · exact .inl (.inl (e _ _ h))
  · exact .inl (.inr ⟨o, e _ _ h⟩)
  · exact .inr h
mutual
theorem Dd.same {K : PySem.W.Frag} {H H' : Hp} (s : Same H H') : ∀ {v : V} {d : Dt}, Dd K H v d → Dd K H' v d
  | _, _, .non => .non
  | _, _, .bl b => .bl b
  | _, _, .int i => .int i
  | _, _, .str x h => .str x h
  | _, _, .lst h t => .lst (s.sqL h) (DdAll.same s t)
  | _, _, .tup h t => .tup (s.sqT h) (DdAll.same s t)
  | _, _, .dic h => .dic (s _ _ h)
  | _, _, .wrk h l t o => .wrk (s _ _ h) l (Dd.same s t) o
  | _, _, .sup h => .sup (s _ _ h)
theorem DdAll.same {K : PySem.W.Frag} {H H' : Hp} (s : Same H H') : ∀ {vs : List V} {ds : List Dt}, DdAll K H vs ds → DdAll K H' vs ds
  | _, _, .nil => .nil
  | _, _, .cons h t => .cons (Dd.same s h) (DdAll.same s t)
end
theorem DdAll.len {K : PySem.W.Frag} {H : Hp} {vs : List V} {ds : List Dt} (h : DdAll K H vs ds) : vs.length = ds.length := by
  induction ds generalizing vs with
  | nil => cases h; rfl
  | cons d ds ih => cases h with
    | cons _ t => rw [List.length_cons, List.length_cons, ih t]
theorem DdAll.get {K : PySem.W.Frag} {H : Hp} {vs : List V} {ds : List Dt} (h : DdAll K H vs ds) : ∀ {i : Nat} {v : V}, vs[i]? = some v → ∃ d, ds[i]? = some d ∧ Dd K H v d := by
  induction ds generalizing vs with
  | nil => cases h; intro i v e; simp at e
  | cons d ds ih => cases h with
    | cons a t =>
      intro i v e
      cases i with
      | zero => simp at e; exact ⟨d, rfl, e ▸ a⟩
      | succ i => simpa using ih t (by simpa using e)
theorem DdAll.at {K : PySem.W.Frag} {H : Hp} {vs : List V} {ds : List Dt} (h : DdAll K H vs ds) : ∀ {i : Nat} {d : Dt}, ds[i]? = some d → ∃ v, vs[i]? = some v ∧ Dd K H v d := by
  induction ds generalizing vs with
  | nil => intro i d e; simp at e
  | cons d0 ds ih => cases h with
    | cons a t =>
      intro i d e
      cases i with
      | zero => simp at e; exact ⟨_, rfl, e ▸ a⟩
      | succ i => simpa using ih t (by simpa using e)
theorem DdAll.app {K : PySem.W.Frag} {H : Hp} {vs ws : List V} {ds es : List Dt} (h : DdAll K H vs ds) (g : DdAll K H ws es) : DdAll K H (vs ++ ws) (ds ++ es) := by
  induction ds generalizing vs with
  | nil => cases h; exact g
  | cons d ds ih => cases h with
    | cons a t => exact .cons a (ih t)
theorem DdAll.take {K : PySem.W.Frag} {H : Hp} {vs : List V} {ds : List Dt} (h : DdAll K H vs ds) : ∀ k : Nat, DdAll K H (vs.take k) (ds.take k) := by
  induction ds generalizing vs with
  | nil => cases h; intro k; simpa using DdAll.nil
  | cons d ds ih => cases h with
    | cons a t => intro k; cases k with
      | zero => exact .nil
      | succ k => exact .cons a (ih t k)
theorem DdAll.drop {K : PySem.W.Frag} {H : Hp} {vs : List V} {ds : List Dt} (h : DdAll K H vs ds) : ∀ k : Nat, DdAll K H (vs.drop k) (ds.drop k) := by
  induction ds generalizing vs with
  | nil => cases h; intro k; simpa using DdAll.nil
  | cons d ds ih => cases h with
    | cons a t => intro k; cases k with
      | zero => exact .cons a t
      | succ k => exact ih t k
theorem DdAll.one {K : PySem.W.Frag} {H : Hp} {vs : List V} {a : Dt} (h : DdAll K H vs [a]) : ∃ v, vs = [v] ∧ Dd K H v a := by
  cases h with
  | cons h1 t => cases t; exact ⟨_, rfl, h1⟩
theorem DdAll.two {K : PySem.W.Frag} {H : Hp} {vs : List V} {a b : Dt} (h : DdAll K H vs [a, b]) : ∃ v u, vs = [v, u] ∧ Dd K H v a ∧ Dd K H u b := by
  cases h with
  | cons h1 t => obtain ⟨u, rfl, h2⟩ := t.one; exact ⟨_, u, rfl, h1, h2⟩
theorem DdAll.four {K : PySem.W.Frag} {H : Hp} {vs : List V} {a b c d : Dt} (h : DdAll K H vs [a, b, c, d]) : ∃ v u w z, vs = [v, u, w, z] ∧ Dd K H v a ∧ Dd K H u b ∧ Dd K H w c ∧ Dd K H z d := by
  cases h with
  | cons h1 t => cases t with
    | cons h2 t => obtain ⟨w, z, rfl, h3, h4⟩ := t.two; exact ⟨_, _, w, z, rfl, h1, h2, h3, h4⟩
/-! kinds -/
def kd : Dt → Nat
  | .non => 0 | .bl _ => 1 | .int _ => 2 | .str _ => 3 | .lst _ => 4 | .tup _ => 5 | .dic => 6 | .wrk _ => 7 | .sup => 8
theorem kd_lt (d : Dt) : kd d < 9 := by cases d <;> simp [kd]
def tyK (K : PySem.W.Frag) : Nat → Value
  | 0 => .type "NoneType" | 1 => .type "bool" | 2 => .type "int" | 3 => .type "str" | 4 => .type "list" | 5 => .type "tuple" | 6 => .type "dict" | 7 => .ref (wkA K) | _ => .ref (suA K)
def clK (K : PySem.W.Frag) : Nat → Value
  | 0 => .type "int" | 1 => .type "bool" | 2 => .type "str" | 3 => .type "tuple" | 4 => .ref (He.ga K "AnyWorker") | 5 => .ref (wkA K) | _ => .ref (suA K)
def tabK : Nat → Nat → Bool
  | 1, 0 => true | 2, 0 => true | 1, 1 => true | 3, 2 => true | 5, 3 => true | 7, 4 => true | 7, 5 => true | 8, 6 => true | _, _ => false
def kitD (K : PySem.W.Frag) : Bool := (List.range 9).all fun i => (List.range 7).all fun j => decide (PySem.W.kitOne K (tyK K i) (clK K j) = some (tabK i j))
structure PKn (K : PySem.W.Frag) : Prop where
  wk : C8.InsC K (wkA K)
  su : C8.InsC K (suA K)
  kit : ∀ i j, i < 9 → j < 7 → PySem.W.kitOne K (tyK K i) (clK K j) = some (tabK i j)
theorem kitD_ok {K : PySem.W.Frag} (h : kitD K = true) : ∀ i j, i < 9 → j < 7 → PySem.W.kitOne K (tyK K i) (clK K j) = some (tabK i j) := fun i j hi hj => by
  have z := List.all_eq_true.mp (List.all_eq_true.mp h i (List.mem_range.mpr hi)) j (List.mem_range.mpr hj)
  exact of_decide_eq_true z
section
variable {K : PySem.W.Frag} {H : Hp} {v : V} {d : Dt}
theorem Dd.ty (P : PKn K) (h : Dd K H v d) : TyX K H v (tyK K (kd d)) := by
  cases h with
  | non => exact .base .non
  | bl b => exact .base (.bl b)
  | int i => exact .base (.int i)
  | str x h => exact .base (.str x)
  | lst h t =>
    rcases h with (h | ⟨o, h⟩) | ⟨o, its, n, h, c, _⟩
    · exact .base (.lst h)
    · exact .base (.frz h)
    · exact .kList h c
  | tup h t =>
    rcases h with (h | ⟨o, h⟩) | ⟨o, its, n, h, c, _⟩
    · exact .base (.tup h)
    · exact .fTuple h
    · exact .kTuple h c
  | dic h => exact .base (.dK h)
  | wrk h _ _ _ => exact .base (.ins h P.wk.cl P.wk.ha P.wk.hn P.wk.htk P.wk.hm)
  | sup h => exact .base (.ins h P.su.cl P.su.ha P.su.hn P.su.htk P.su.hm)
/-- isinstance of such a value -/
theorem Dd.isi (P : PKn K) (h : Dd K H v d) (j : Nat) {c : V} {Q : VK} (hc : ClsV c (clK K j)) (q : Q (.bl (tabK (kd d) j)) H) (hj : j < 7 := by decide) : rIsi K [v, c] H Q := ⟨v, c, _, _, _, rfl, hc, h.ty P, P.kit _ _ (kd_lt d) hj, q⟩
end
/-! what the checks say -/
def isInt : Dt → Bool
  | .int _ => true | _ => false
def isBtw (lo hi : Int) : Dt → Bool
  | .int i => decide (lo ≤ i) && decide (i ≤ hi) | _ => false
def isStr : Dt → Bool
  | .str _ => true | _ => false
def isOne (ws : List Str) : Dt → Bool
  | .str x => ws.contains x | _ => false
def lettersS : Str := "abcdefghijklmnopqrstuvwxyz"
def signsS : Str := "abcdefghijklmnopqrstuvwxyz0123456789_"
def wordS (x : Str) : Bool := decide (1 ≤ x.length) && decide (x.length ≤ 20) && (match x.cps[0]? with
  | some c => decide (c ∈ lettersS.cps.toList)
  | none => false) && x.cps.toList.all fun c => decide (c ∈ signsS.cps.toList)
def isWord : Dt → Bool
  | .str x => wordS x | _ => false
def namesS : List Str := ["own", "sender", "about"]
def treeS : List Str := ["answer", "back", "ended", "down", "told"]
def reasonS : List Str := ["shutdown", "refused", "gave_up", "killed", "nobody"]
def isPlace (d : Dt) : Bool := isWord d && !isOne namesS d
def isSent (d : Dt) : Bool := isWord d && !isOne treeS d
def isVal (d : Dt) : Bool := isBtw (-1000000000000) 1000000000000 d
def isGiven (d : Dt) : Bool := isWord d && !isOne reasonS d
/-! what the scripts say -/
def dvalD : Dt → Bool
  | .tup [.str x, a] => decide (x = "plus") && isVal a
  | .tup _ => false
  | d => isVal d
def isBl : Dt → Bool
  | .bl _ => true | _ => false
def planD : Dt → Bool
  | .wrk sc => !hasAdd sc | _ => false
def itemD (k : Str) (d : Dt) : Bool :=
  if k = "sent word" then isSent d else if k = "value" then dvalD d else if k = "ticks" then isBtw 1 1000000000 d else if k = "truth" then isBl d else if k = "reason" then isGiven d else if k = "plan" then planD d else isWord d
def deedItems : List (Str × List Str) := [("note", ["word"]), ("send", ["word", "sent word", "value"]), ("ask", ["word", "sent word", "value"]), ("reply", ["value"]), ("later", ["ticks", "sent word", "value"]), ("cancel", ["word"]), ("link", ["word"]), ("unlink", ["word"]), ("monitor", ["word"]),
  ("unmonitor", ["word"]), ("trap", ["truth"]), ("mode", ["word"]), ("end", ["reason"]), ("add", ["word", "plan"]), ("remove", ["word"])]
def itemsD : List Str → List Dt → Bool
  | [], [] => true
  | k :: ks, d :: ds => itemD k d && itemsD ks ds
  | _, _ => false
def deedD : Dt → Bool
  | .tup (.str x :: ds) => (match deedItems.lookup x with
    | some ks => itemsD ks ds
    | none => false)
  | _ => false
def deedsD : Dt → Bool
  | .tup ds => decide (ds.length ≤ 8) && ds.all deedD | _ => false
def rowD : Dt → Bool
  | .tup [m, x, k, ds] => isWord m && isWord x && isBtw 1 1000 k && deedsD ds | _ => false
def keyD : Dt → Str × Str
  | .tup (.str m :: .str x :: _) => (m, x) | _ => ("", "")
/-- the place of the first wrong row -/
def wrongAt (seen : List (Str × Str)) (i : Nat) : List Dt → Option Nat
  | [] => none
  | r :: rs => if i = 30 then some i else if rowD r = false then some i else if keyD r ∈ seen then some i else wrongAt (keyD r :: seen) (i + 1) rs
def scriptD : Dt → Bool
  | .tup rows => (wrongAt [] 0 rows).isNone | _ => false
/-- a check of one value -/
def spChk (K : PySem.W.Frag) (f : Dt → Bool) : Sp := fun vs H Q _ => ∃ v d, vs = [v] ∧ Dd K H v d ∧ ∀ H', Same H H' → Q (.bl (f d)) H'
def spBtw (K : PySem.W.Frag) : Sp := fun vs H Q _ => ∃ v d lo hi, vs = [v, .int lo, .int hi] ∧ Dd K H v d ∧ ∀ H', Same H H' → Q (.bl (isBtw lo hi d)) H'
def spOne (K : PySem.W.Frag) : Sp := fun vs H Q _ => ∃ v d p ws, vs = [v, .ref p] ∧ Dd K H v d ∧ SqT K H p (ws.map V.str) ∧ ∀ H', Same H H' → Q (.bl (isOne ws d)) H'
end L2
/-! [e for x in it] over any walk whose turns leave what stands -/
namespace L2
open PySem PySem.Spec PyProof.Rows
section
variable {J : It} {n : Nat} {G : Hp → Prop} {Y : Nat → Hp → V → Hp → Prop}
/-- the values told by the turn -/
theorem comp_val (w : Walk J n G Y) {H : Hp} {f : Nat → V} {Q : Addr → Hp → Prop} (hn : n < sizeLine) {σ : St} {vs : List Nat} {g : TG} {te : TE} (hG : ∀ H', Same H H' → G H') (hY : ∀ i H x H', Y i H x H' → Same H H')
    (turn : ∀ (i : Nat) (x : V) (H1 H2 : Hp) (R : VK), i < n → Same H H1 → Y i H1 x H2 → (∀ H3, Same H2 H3 → R (f i) H3) → g x (wipe σ vs) H2 fun σ2 H3 => wipe σ2 vs = wipe σ vs ∧ te σ2 H3 R)
    (k : ∀ p H', Same H H' → H p = none → H' p = some (.lst ((List.range n).map f)) → Q p H') :
    ∀ D, H D = none → ∃ W : Nat → Nat → Hp → Prop, (∃ m, W 0 m (upd H D (.lst []))) ∧ ∀ i m H2, W i m H2 →
      (J.stop i H2 ∧ Q D H2) ∨ (J.go i H2 ∧ ∃ Nx : Hp → Prop, (∀ H', Nx H' → ∃ m', m' < m ∧ W (i + 1) m' H') ∧ ∀ v H', J.yld i H2 v H' → g v (wipe σ vs) H' fun σ2 H3 => wipe σ2 vs = wipe σ vs ∧ tYes σ2 H3 fun b H4 =>
        if b = true then te σ2 H4 fun y H5 => ∃ acc, H5 D = some (.lst acc) ∧ acc.length < sizeLine ∧ Nx (upd H5 D (.lst (acc ++ [y]))) else Nx H4) := fun D hD => by
  refine lc_it w (Qd := fun H2 => Q D H2) (fun i H2 => Same H H2 ∧ H2 D = some (.lst ((List.range i).map f))) ⟨Same.new hD, upd_same⟩ (fun i H2 _ h => hG H2 h.1) (fun i x H2 H3 hi h y => ?_) (fun H2 h => k D H2 h.1 hD h.2)
  obtain ⟨s1, hd⟩ := h
  have s2 := hY _ _ _ _ y
  have z := turn i x H2 H3 (fun y H5 => ∃ acc, H5 D = some (.lst acc) ∧ acc.length < sizeLine ∧ (Same H (upd H5 D (.lst (acc ++ [y]))) ∧ (upd H5 D (.lst (acc ++ [y]))) D = some (.lst ((List.range (i + 1)).map f)))) hi s1 y
    (fun H4 s3 => ⟨_, s3 _ _ (s2 _ _ hd), by simp only [List.length_map, List.length_range]; omega, fun b o e => by rw [upd_ne (ne_of_none e hD)]; exact s3 _ _ (s2 _ _ (s1 b o e)), by rw [upd_same, List.range_succ]; simp⟩)
  exact z
/-- .. told by what stands: P i v H, that stays -/
theorem comp_any (w : Walk J n G Y) {H : Hp} {P : Nat → V → Hp → Prop} {Q : Addr → Hp → Prop} (hn : n < sizeLine) {σ : St} {vs : List Nat} {g : TG} {te : TE} (hG : ∀ H', Same H H' → G H') (hY : ∀ i H x H', Y i H x H' → Same H H')
    (hP : ∀ i v H1 H2, Same H1 H2 → P i v H1 → P i v H2) (hD0 : ∀ i v H1 D xs ys, H D = none → H1 D = some (.lst xs) → P i v H1 → P i v (upd H1 D (.lst ys)))
    (turn : ∀ (i : Nat) (x : V) (H1 H2 : Hp) (R : VK), i < n → Same H H1 → Y i H1 x H2 → (∀ v H3, Same H2 H3 → P i v H3 → R v H3) → g x (wipe σ vs) H2 fun σ2 H3 => wipe σ2 vs = wipe σ vs ∧ te σ2 H3 R)
    (k : ∀ p H' xs, Same H H' → H p = none → H' p = some (.lst xs) → xs.length = n → (∀ i v, xs[i]? = some v → P i v H') → Q p H') :
    ∀ D, H D = none → ∃ W : Nat → Nat → Hp → Prop, (∃ m, W 0 m (upd H D (.lst []))) ∧ ∀ i m H2, W i m H2 →
      (J.stop i H2 ∧ Q D H2) ∨ (J.go i H2 ∧ ∃ Nx : Hp → Prop, (∀ H', Nx H' → ∃ m', m' < m ∧ W (i + 1) m' H') ∧ ∀ v H', J.yld i H2 v H' → g v (wipe σ vs) H' fun σ2 H3 => wipe σ2 vs = wipe σ vs ∧ tYes σ2 H3 fun b H4 =>
        if b = true then te σ2 H4 fun y H5 => ∃ acc, H5 D = some (.lst acc) ∧ acc.length < sizeLine ∧ Nx (upd H5 D (.lst (acc ++ [y]))) else Nx H4) := fun D hD => by
  refine lc_it w (Qd := fun H2 => Q D H2) (fun i H2 => Same H H2 ∧ ∃ xs, H2 D = some (.lst xs) ∧ xs.length = i ∧ ∀ j v, xs[j]? = some v → P j v H2) ⟨Same.new hD, [], upd_same, rfl, fun j v e => by simp at e⟩ (fun i H2 _ h => hG H2 h.1) (fun i x H2 H3 hi h y => ?_)
    (fun H2 h => let ⟨s, xs, h1, h2, h3⟩ := h; k D H2 xs s hD h1 h2 h3)
  obtain ⟨s1, xs, hd, hl, hp⟩ := h
  have s2 := hY _ _ _ _ y
  have z := turn i x H2 H3 (fun y H5 => ∃ acc, H5 D = some (.lst acc) ∧ acc.length < sizeLine ∧ (Same H (upd H5 D (.lst (acc ++ [y]))) ∧ ∃ xs, (upd H5 D (.lst (acc ++ [y]))) D = some (.lst xs) ∧ xs.length = i + 1 ∧ ∀ j v, xs[j]? = some v → P j v (upd H5 D (.lst (acc ++ [y]))))) hi s1 y
    (fun v H4 s3 pv => ⟨xs, s3 _ _ (s2 _ _ hd), by omega, fun b o e => by rw [upd_ne (ne_of_none e hD)]; exact s3 _ _ (s2 _ _ (s1 b o e)), xs ++ [v], upd_same, by simp [hl], fun j u e => ?_⟩)
  · exact z
  · rcases Nat.lt_or_ge j xs.length with hj | hj
    · rw [List.getElem?_append_left hj] at e
      exact hD0 _ _ _ _ _ _ hD (s3 _ _ (s2 _ _ hd)) (hP _ _ _ _ (fun b o q => s3 _ _ (s2 _ _ q)) (hp j u e))
    · rw [List.getElem?_append_right hj] at e
      have : j = i := by
        rcases Nat.lt_or_ge (j - xs.length) 1 with q | q
        · omega
        · rw [List.getElem?_eq_none (by simpa using q)] at e; cases e
      subst this
      rw [hl, Nat.sub_self] at e
      cases e
      exact hD0 _ _ _ _ _ _ hD (s3 _ _ (s2 _ _ hd)) pv
end
end L2
namespace L2
open PySem PySem.Spec PyProof.Rows
/-- the inner walk of a turn, and what each of its turns gives -/
structure In2 (H0 : Hp) (m : Nat) (f : Nat → Bool) (g1 : TG) (te : TE) (vs1 : List Nat) (σ2 : St) (J1 : It) : Prop where
  ex : ∃ (G1 : Hp → Prop) (Y1 : Nat → Hp → V → Hp → Prop), Walk J1 m G1 Y1 ∧ (∀ H', Same H0 H' → G1 H') ∧ (∀ j H x H', Y1 j H x H' → Same H H') ∧
    ∀ (j : Nat) (y : V) (H5 H6 : Hp) (R : VK), j < m → Same H0 H5 → Y1 j H5 y H6 → (∀ H7, Same H6 H7 → R (.bl (f j)) H7) → g1 y (wipe σ2 vs1) H6 fun σ3 H7 => wipe σ3 vs1 = wipe σ2 vs1 ∧ te σ3 H7 R
def acc2 (m : Nat → Nat) (f : Nat → Nat → Bool) (n : Nat) : List Bool := (List.range n).flatMap fun i => (List.range (m i)).map (f i)
theorem acc2_succ (m : Nat → Nat) (f : Nat → Nat → Bool) (n : Nat) : acc2 m f (n + 1) = acc2 m f n ++ (List.range (m n)).map (f n) := by
  unfold acc2
  rw [List.range_succ, List.flatMap_append]
  simp
section
variable {J : It} {n : Nat} {G : Hp → Prop} {Y : Nat → Hp → V → Hp → Prop}
/-- [a test for x in it for y in it2(x)] -/
theorem comp2_bool (w : Walk J n G Y) {H : Hp} {m : Nat → Nat} {f : Nat → Nat → Bool} {Q : Addr → Hp → Prop} (hn : (acc2 m f n).length < sizeLine) {σ : St} {vs vs1 : List Nat} {g g1 : TG} {wi1 : TI} {te : TE} (hG : ∀ H', Same H H' → G H') (hY : ∀ i H x H', Y i H x H' → Same H H')
    (turn : ∀ (i : Nat) (x : V) (H1 H2 : Hp) (C : St → It → Hp → Prop), i < n → Same H H1 → Y i H1 x H2 → (∀ σ2 J1 H4, Same H2 H4 → In2 H (m i) (f i) g1 te vs1 σ2 J1 → C σ2 J1 H4) → g x (wipe σ vs) H2 fun σ2 H3 => wipe σ2 vs = wipe σ vs ∧ wi1 σ2 H3 (C σ2))
    (k : ∀ p H', Same H H' → H p = none → H' p = some (.lst ((acc2 m f n).map V.bl)) → Q p H') :
    ∀ D, H D = none → ∃ W : Nat → Nat → Hp → Prop, (∃ m, W 0 m (upd H D (.lst []))) ∧ ∀ i m H, W i m H →
      (J.stop i H ∧ Q D H) ∨ (J.go i H ∧ ∃ Nx : Hp → Prop, (∀ H', Nx H' → ∃ m', m' < m ∧ W (i + 1) m' H') ∧ ∀ x H', J.yld i H x H' → g x (wipe σ vs) H' fun σ2 H2 => wipe σ2 vs = wipe σ vs ∧ tYes σ2 H2 fun b H3 =>
        if b = true then wi1 σ2 H3 fun J1 H4 => ∃ W1 : Nat → Nat → Hp → Prop, (∃ m, W1 0 m H4) ∧ ∀ j k H, W1 j k H →
          (J1.stop j H ∧ Nx H) ∨ (J1.go j H ∧ ∃ Nx1 : Hp → Prop, (∀ H', Nx1 H' → ∃ k', k' < k ∧ W1 (j + 1) k' H') ∧ ∀ x H', J1.yld j H x H' → g1 x (wipe σ2 vs1) H' fun σ3 H5 => wipe σ3 vs1 = wipe σ2 vs1 ∧ tYes σ3 H5 fun b H6 =>
            if b = true then te σ3 H6 fun y H7 => ∃ acc, H7 D = some (.lst acc) ∧ acc.length < sizeLine ∧ Nx1 (upd H7 D (.lst (acc ++ [y]))) else Nx1 H6)
        else Nx H3) := fun D hD => by
  have Dup : ∀ {H1 : Hp} (xs : List V), Same H H1 → Same H (upd H1 D (.lst xs)) := fun xs s b o e => by rw [upd_ne (ne_of_none e hD)]; exact s _ _ e
  refine ⟨fun i k H1 => k = n - i ∧ i ≤ n ∧ Same H H1 ∧ H1 D = some (.lst ((acc2 m f i).map V.bl)), ⟨n, by simp, Nat.zero_le _, Same.new hD, upd_same⟩, ?_⟩
  rintro i _ H1 ⟨rfl, hi, s1, d1⟩
  by_cases lt : i < n
  · refine .inr ⟨w.goes i H1 lt (hG _ s1), fun H' => Same H H' ∧ H' D = some (.lst ((acc2 m f (i + 1)).map V.bl)), fun H' q => ⟨n - (i + 1), by omega, rfl, lt, q.1, q.2⟩, fun x H2 y => ?_⟩
    have y2 := w.yields i H1 x H2 lt (hG _ s1) y
    have s2 := hY _ _ _ _ y2
    refine turn i x H1 H2 _ lt s1 y2 fun σ2 J1 H4 s4 z => ?_
    obtain ⟨G1, Y1, w1, hG1, hY1, t1⟩ := z
    have s04 : Same H H4 := fun b o e => s4 _ _ (s2 _ _ (s1 _ _ e))
    have d4 : H4 D = some (.lst ((acc2 m f i).map V.bl)) := s4 _ _ (s2 _ _ d1)
    have small : ∀ j, j < m i → (acc2 m f i ++ (List.range j).map (f i)).length < sizeLine := fun j hj => by
      have mono : ∀ a b, a ≤ b → (acc2 m f a).length ≤ (acc2 m f b).length := fun a b h => by
        induction h with
        | refl => exact Nat.le_refl _
        | step _ ih => rw [acc2_succ, List.length_append]; omega
      have := mono (i + 1) n lt
      rw [acc2_succ, List.length_append, List.length_map, List.length_range] at this
      rw [List.length_append, List.length_map, List.length_range]
      omega
    refine ⟨fun j k H5 => k = m i - j ∧ j ≤ m i ∧ Same H H5 ∧ H5 D = some (.lst ((acc2 m f i ++ (List.range j).map (f i)).map V.bl)), ⟨m i, by simp, Nat.zero_le _, s04, by simpa using d4⟩, ?_⟩
    rintro j _ H5 ⟨rfl, hj, s5, d5⟩
    by_cases lt1 : j < m i
    · refine .inr ⟨w1.goes j H5 lt1 (hG1 _ s5), fun H' => Same H H' ∧ H' D = some (.lst ((acc2 m f i ++ (List.range (j + 1)).map (f i)).map V.bl)), fun H' q => ⟨m i - (j + 1), by omega, rfl, lt1, q.1, q.2⟩, fun x H6 y => ?_⟩
      have y6 := w1.yields j H5 x H6 lt1 (hG1 _ s5) y
      have s6 := hY1 _ _ _ _ y6
      exact t1 j x H5 H6 _ lt1 s5 y6 fun H7 s7 => ⟨_, s7 _ _ (s6 _ _ d5), by rw [List.length_map]; exact small j lt1, Dup _ (fun b o e => s7 _ _ (s6 _ _ (s5 _ _ e))), by rw [upd_same, List.range_succ]; simp⟩
    · have e : j = m i := by omega
      subst e
      exact .inl ⟨w1.stops H5 (hG1 _ s5), s5, by rw [acc2_succ]; exact d5⟩
  · have e : i = n := by omega
    subst e
    exact .inl ⟨w.stops H1 (hG _ s1), k D H1 s1 hD d1⟩
end
end L2
namespace K53
open PySem PySem.Spec PyProof.Rows L2
abbrev PP : Program := PySem.Challenge.pw_watchtree_k53_scripts_told_apart
def top (i : Nat) : Stmt := PP.main.body.getD i (.Pass ⟨0, 0, 0, 0⟩)
def frees : List Str := ["int", "bool", "str", "tuple", "list", "isinstance", "len", "range", "enumerate", "zip", "all", "any", "sorted", "set", "max", "min"]
def cInts : List (Str × Int) := [("LARGEST_VALUE", 1000000000000), ("MOST_SIGNS", 20), ("MOST_ROWS", 30), ("MOST_DEEDS", 8), ("MOST_WAITING", 200), ("MOST_WORK", 1000), ("MOST_TICKS_LATER", 1000000000), ("MOST_TICKS", 1000000000), ("MOST_REFUSED", 100), ("MOST_RESTARTS", 20), ("MOST_CHILDREN", 12), ("MOST_LEVELS", 20), ("MOST_PLANS", 200)]
def cStrs : List (Str × Str) := [("LETTERS", lettersS), ("SIGNS", signsS)]
def cTups : List (Str × List Str) := [("DEED_NAMES", namesS), ("TREE_WORDS", treeS), ("TREE_REASONS", reasonS), ("RESTARTS", ["permanent", "transient", "temporary"]), ("STRATEGIES", ["one", "rest", "all"])]
def clss : List Str := ["AnyWorker", "WorkerPlan", "SupervisorPlan", "PlanError", "BadSetting", "BadChild", "BadScript"]
/-- what the module's names stand for -/
structure Txt (K : PySem.W.Frag) (mg : Str → Option Value) : Prop where
  fr : ∀ x ∈ frees, mg x = none
  ci : ∀ p ∈ cInts, ∃ u, mg p.1 = some u ∧ RelV (.int p.2) u
  cs : ∀ p ∈ cStrs, ∃ u, mg p.1 = some u ∧ RelV (.str p.2) u
  ct : ∀ p ∈ cTups, ∃ u, mg p.1 = some u ∧ RelV (.ref (He.ga K p.1)) u
  tq : ∀ p ∈ cTups, ∀ H, SqT K H (He.ga K p.1) (p.2.map V.str)
  cc : ∀ x ∈ clss, ∃ u, mg x = some u ∧ RelV (.ref (He.ga K x)) u
  pk : PKn K
  na : NoAttr K (wkA K) "script"
section
variable {K : PySem.W.Frag} {mg : Str → Option Value} (T : Txt K mg)
include T
theorem Txt.c_LARGEST_VALUE : ∃ u, mg "LARGEST_VALUE" = some u ∧ RelV (.int 1000000000000) u := T.ci ("LARGEST_VALUE", _) (by simp [cInts])
theorem Txt.c_MOST_SIGNS : ∃ u, mg "MOST_SIGNS" = some u ∧ RelV (.int 20) u := T.ci ("MOST_SIGNS", _) (by simp [cInts])
theorem Txt.c_MOST_ROWS : ∃ u, mg "MOST_ROWS" = some u ∧ RelV (.int 30) u := T.ci ("MOST_ROWS", _) (by simp [cInts])
theorem Txt.c_MOST_DEEDS : ∃ u, mg "MOST_DEEDS" = some u ∧ RelV (.int 8) u := T.ci ("MOST_DEEDS", _) (by simp [cInts])
theorem Txt.c_MOST_WAITING : ∃ u, mg "MOST_WAITING" = some u ∧ RelV (.int 200) u := T.ci ("MOST_WAITING", _) (by simp [cInts])
theorem Txt.c_MOST_WORK : ∃ u, mg "MOST_WORK" = some u ∧ RelV (.int 1000) u := T.ci ("MOST_WORK", _) (by simp [cInts])
theorem Txt.c_MOST_TICKS_LATER : ∃ u, mg "MOST_TICKS_LATER" = some u ∧ RelV (.int 1000000000) u := T.ci ("MOST_TICKS_LATER", _) (by simp [cInts])
theorem Txt.c_MOST_TICKS : ∃ u, mg "MOST_TICKS" = some u ∧ RelV (.int 1000000000) u := T.ci ("MOST_TICKS", _) (by simp [cInts])
theorem Txt.c_MOST_REFUSED : ∃ u, mg "MOST_REFUSED" = some u ∧ RelV (.int 100) u := T.ci ("MOST_REFUSED", _) (by simp [cInts])
theorem Txt.c_MOST_RESTARTS : ∃ u, mg "MOST_RESTARTS" = some u ∧ RelV (.int 20) u := T.ci ("MOST_RESTARTS", _) (by simp [cInts])
theorem Txt.c_LETTERS : ∃ u, mg "LETTERS" = some u ∧ RelV (.str lettersS) u := T.cs ("LETTERS", lettersS) (by simp [cStrs])
theorem Txt.c_SIGNS : ∃ u, mg "SIGNS" = some u ∧ RelV (.str signsS) u := T.cs ("SIGNS", signsS) (by simp [cStrs])
theorem Txt.c_DEED_NAMES : ∃ u, mg "DEED_NAMES" = some u ∧ RelV (.ref (He.ga K "DEED_NAMES")) u := T.ct ("DEED_NAMES", namesS) (by simp [cTups])
theorem Txt.c_TREE_WORDS : ∃ u, mg "TREE_WORDS" = some u ∧ RelV (.ref (He.ga K "TREE_WORDS")) u := T.ct ("TREE_WORDS", treeS) (by simp [cTups])
theorem Txt.c_TREE_REASONS : ∃ u, mg "TREE_REASONS" = some u ∧ RelV (.ref (He.ga K "TREE_REASONS")) u := T.ct ("TREE_REASONS", reasonS) (by simp [cTups])
theorem Txt.c_RESTARTS : ∃ u, mg "RESTARTS" = some u ∧ RelV (.ref (He.ga K "RESTARTS")) u := T.ct ("RESTARTS", ["permanent", "transient", "temporary"]) (by simp [cTups])
theorem Txt.c_STRATEGIES : ∃ u, mg "STRATEGIES" = some u ∧ RelV (.ref (He.ga K "STRATEGIES")) u := T.ct ("STRATEGIES", ["one", "rest", "all"]) (by simp [cTups])
theorem Txt.c_AnyWorker : ∃ u, mg "AnyWorker" = some u ∧ RelV (.ref (He.ga K "AnyWorker")) u := T.cc "AnyWorker" (by simp [clss])
theorem Txt.c_WorkerPlan : ∃ u, mg "WorkerPlan" = some u ∧ RelV (.ref (He.ga K "WorkerPlan")) u := T.cc "WorkerPlan" (by simp [clss])
theorem Txt.c_SupervisorPlan : ∃ u, mg "SupervisorPlan" = some u ∧ RelV (.ref (He.ga K "SupervisorPlan")) u := T.cc "SupervisorPlan" (by simp [clss])
theorem Txt.c_PlanError : ∃ u, mg "PlanError" = some u ∧ RelV (.ref (He.ga K "PlanError")) u := T.cc "PlanError" (by simp [clss])
theorem Txt.c_BadSetting : ∃ u, mg "BadSetting" = some u ∧ RelV (.ref (He.ga K "BadSetting")) u := T.cc "BadSetting" (by simp [clss])
theorem Txt.c_BadScript : ∃ u, mg "BadScript" = some u ∧ RelV (.ref (He.ga K "BadScript")) u := T.cc "BadScript" (by simp [clss])
end
section
variable {P : Program} {w : World} {K : PySem.W.Frag} {mg : Str → Option Value} {base : Heap}
abbrev s_is_integer : Stmt := (top 10)
def N_is_integer : List Str := ["value"]
theorem sc_is_integer : FnScope N_is_integer ["value"] (defScope s_is_integer) := ⟨rfl, rfl, rfl, by decide +kernel, rfl, by decide +kernel, by decide +kernel⟩
abbrev s_is_between : Stmt := (top 11)
def N_is_between : List Str := ["value", "low", "high"]
theorem sc_is_between : FnScope N_is_between ["value", "low", "high"] (defScope s_is_between) := ⟨rfl, rfl, rfl, by decide +kernel, rfl, by decide +kernel, by decide +kernel⟩
abbrev s_is_one_of : Stmt := (top 12)
def N_is_one_of : List Str := ["value", "words"]
theorem sc_is_one_of : FnScope N_is_one_of ["value", "words"] (defScope s_is_one_of) := ⟨rfl, rfl, rfl, by decide +kernel, rfl, by decide +kernel, by decide +kernel⟩
abbrev s_is_word : Stmt := (top 13)
def N_is_word : List Str := ["value", "sign"]
theorem sc_is_word : FnScope N_is_word ["value"] (defScope s_is_word) := ⟨rfl, rfl, rfl, by decide +kernel, rfl, by decide +kernel, by decide +kernel⟩
abbrev s_is_place_name : Stmt := (top 14)
def N_is_place_name : List Str := ["value"]
theorem sc_is_place_name : FnScope N_is_place_name ["value"] (defScope s_is_place_name) := ⟨rfl, rfl, rfl, by decide +kernel, rfl, by decide +kernel, by decide +kernel⟩
abbrev s_is_sent_word : Stmt := (top 15)
def N_is_sent_word : List Str := ["value"]
theorem sc_is_sent_word : FnScope N_is_sent_word ["value"] (defScope s_is_sent_word) := ⟨rfl, rfl, rfl, by decide +kernel, rfl, by decide +kernel, by decide +kernel⟩
abbrev s_is_sent_value : Stmt := (top 16)
def N_is_sent_value : List Str := ["value"]
theorem sc_is_sent_value : FnScope N_is_sent_value ["value"] (defScope s_is_sent_value) := ⟨rfl, rfl, rfl, by decide +kernel, rfl, by decide +kernel, by decide +kernel⟩
abbrev s_is_given_reason : Stmt := (top 17)
def N_is_given_reason : List Str := ["value"]
theorem sc_is_given_reason : FnScope N_is_given_reason ["value"] (defScope s_is_given_reason) := ⟨rfl, rfl, rfl, by decide +kernel, rfl, by decide +kernel, by decide +kernel⟩
theorem inV_str (x : Str) (ws : List Str) : inV (.str x) (ws.map V.str) = ws.contains x := by
  unfold inV
  rw [List.any_map, List.contains_eq_any_beq]
  congr 1
  funext y
  show (y == x) = (x == y)
  exact BEq.comm
theorem ok_is_integer (F : Has K mg "is_integer" s_is_integer) (T : Txt K mg) : FnQ P w K mg base CX0 1 "is_integer" ["value"] (spChk K isInt) := by
  refine F.q sc_is_integer (fun _ _ _ _ _ _ us hl => match us, hl with | [_], _ => rfl) (fun vs H Q E h => by obtain ⟨v, d, rfl, _⟩ := h; rfl) (fun cdv A outer s H vs Q E hr h => ?_)
  obtain ⟨v, d, rfl, hd, k⟩ := h
  have gI : mg "isinstance" = none := T.fr _ (by simp [frees])
  refine ⟨_, PSs.nox (pss_one (ps_ret (pe_and (pe_callB call_isi (by rfl) gI boot_isinstance (pa_cons (pv 0) (pa_cons (pe_bltn (v := .ty "int") (by rfl) (T.fr "int" (by simp [frees])) PyProof.Rows.boot_int rfl) pa_nil))) (pe_one (pe_not (pe_callB call_isi (by rfl) gI boot_isinstance (pa_cons (pv 0) (pa_cons (pe_bltn (v := .ty "bool") (by rfl) (T.fr "bool" (by simp [frees])) PyProof.Rows.boot_bool rfl) pa_nil)))))))), ?_⟩
  refine ⟨_, rfl, _, _, _, _, _, rfl, .ty _, (hd).ty T.pk, T.pk.kit _ 0 (kd_lt _) (by decide), _, rfl, ?_⟩
  cases d with
  | int i => exact if_yes rfl ⟨_, rfl, _, _, _, _, _, rfl, .ty _, (hd).ty T.pk, T.pk.kit _ 1 (kd_lt _) (by decide), _, rfl, k H (Same.refl H)⟩
  | bl b => exact if_yes rfl ⟨_, rfl, _, _, _, _, _, rfl, .ty _, (hd).ty T.pk, T.pk.kit _ 1 (kd_lt _) (by decide), _, rfl, k H (Same.refl H)⟩
  | _ => exact if_no rfl (k H (Same.refl H))
theorem ok_is_between (F : Has K mg "is_between" s_is_between) (T : Txt K mg) (F_is_integer : FnQ P w K mg base CX0 1 "is_integer" ["value"] (spChk K isInt)) : FnQ P w K mg base CX0 2 "is_between" ["value", "low", "high"] (spBtw K) := by
  refine F.q sc_is_between (fun _ _ _ _ _ _ us hl => match us, hl with | [_, _, _], _ => rfl) (fun vs H Q E h => by obtain ⟨v, d, lo, hi, rfl, _⟩ := h; rfl) (fun cdv A outer s H vs Q E hr h => ?_)
  obtain ⟨v, d, lo, hi, rfl, hd, k⟩ := h
  refine ⟨_, PSs.nox (pss_one (ps_ret (pe_and (pe_f F_is_integer hr pass0 (pa_cons (pv 0) pa_nil)) (pe_one (pe_chain op_le op_le (pv 1) (pv 0) (pv 2)))))), ?_⟩
  refine ⟨_, rfl, v, d, rfl, hd, fun H' s => ⟨_, rfl, ?_⟩⟩
  cases d with
  | int i =>
    cases hd
    refine if_yes rfl ⟨_, rfl, _, rfl, _, _, rfl, rfl, _, rfl, ?_⟩
    by_cases c : lo ≤ i
    · exact if_yes (decide_eq_true c) ⟨_, rfl, _, _, rfl, rfl, by have z := k H' s; simp only [isBtw, decide_eq_true c, Bool.true_and] at z; exact z⟩
    · exact if_no (decide_eq_false c) (by have z := k H' s; simp only [isBtw, decide_eq_false c, Bool.false_and] at z; exact z)
  | _ => exact if_no rfl (k H' s)
theorem ok_is_one_of (F : Has K mg "is_one_of" s_is_one_of) (T : Txt K mg) : FnQ P w K mg base CX0 1 "is_one_of" ["value", "words"] (spOne K) := by
  refine F.q sc_is_one_of (fun _ _ _ _ _ _ us hl => match us, hl with | [_, _], _ => rfl) (fun vs H Q E h => by obtain ⟨v, d, p, ws, rfl, _⟩ := h; rfl) (fun cdv A outer s H vs Q E hr h => ?_)
  obtain ⟨v, d, p, ws, rfl, hd, hw, k⟩ := h
  have gI : mg "isinstance" = none := T.fr _ (by simp [frees])
  refine ⟨_, PSs.nox (pss_one (ps_ret (pe_and (pe_callB call_isi (by rfl) gI boot_isinstance (pa_cons (pv 0) (pa_cons (pe_bltn (v := .ty "str") (by rfl) (T.fr "str" (by simp [frees])) PyProof.Rows.boot_str rfl) pa_nil))) (pe_one (pe_cmpR op_in_seq (pv 0) (pv 1) (by first | exact nomark _ | rfl)))))), ?_⟩
  refine ⟨_, rfl, _, _, _, _, _, rfl, .ty _, (hd).ty T.pk, T.pk.kit _ 2 (kd_lt _) (by decide), _, rfl, ?_⟩
  cases d with
  | str x =>
    cases hd
    refine if_yes rfl ⟨_, rfl, _, rfl, p, _, rfl, .inr hw, rfl, (by simp [flatV]), ?_⟩
    have z := k H (Same.refl H)
    simp only [isOne, ← inV_str] at z
    exact z
  | _ => exact if_no rfl (k H (Same.refl H))
theorem ok_is_word (F : Has K mg "is_word" s_is_word) (T : Txt K mg) : FnQ P w K mg base CX0 1 "is_word" ["value"] (spChk K isWord) := by
  refine F.q sc_is_word (fun _ _ _ _ _ _ us hl => match us, hl with | [_], _ => rfl) (fun vs H Q E h => by obtain ⟨v, d, rfl, _⟩ := h; rfl) (fun cdv A outer s H vs Q E hr h => ?_)
  obtain ⟨v, d, rfl, hd, k⟩ := h
  have gI : mg "isinstance" = none := T.fr _ (by simp [frees])
  have gL : mg "len" = none := T.fr _ (by simp [frees])
  refine ⟨_, PSs.nox (pss_cons (ps_if (pw_or (pt_not (pt_val (pe_callB call_isi (by rfl) gI boot_isinstance (pa_cons (pv 0) (pa_cons (pe_bltn (v := .ty "str") (by rfl) (T.fr "str" (by simp [frees])) PyProof.Rows.boot_str rfl) pa_nil))))) (pw_or1 (pt_not (pt_chain op_le op_le pe_int (pe_callB call_len_str (by rfl) gL boot_len (pa_cons (pv 0) pa_nil)) (C8.pe_gc (by rfl) T.c_MOST_SIGNS))))).pt
  (pss_one (ps_ret pe_bl))
  pss_nil)
  (pss_one (ps_ret (pe_and (pe_cmpR op_in_sign (pe_item_str (pv 0) pe_int (fun _ _ => rfl)) (C8.pe_gc (by rfl) T.c_LETTERS) (by first | exact nomark _ | rfl)) (pe_one (pe_callB (cr_all rfl) (by rfl) (T.fr "all" (by simp [frees])) boot_all (pa_cons (pe_lc (own := [("sign", 1)]) (tt := tYes) rfl sc_is_word.nd (pi_str (pv 0)) (blkOk_by (N := N_is_word) (sc := defScope s_is_word) (by decide +kernel)) (fun _ _ _ _ _ => (pg_name (i := 1) sc_is_word.nd rfl (by first | exact .inl rfl | exact .inr rfl))) (fun _ _ _ _ _ => pts_nil) (fun _ _ _ _ _ => (pe_cmpR op_in_sign (pv 1) (C8.pe_gc (by rfl) T.c_SIGNS) (by first | exact nomark _ | rfl)))) pa_nil))))))), ?_⟩
  refine ⟨_, rfl, _, _, _, _, _, rfl, .ty _, (hd).ty T.pk, T.pk.kit _ 2 (kd_lt _) (by decide), _, rfl, ?_⟩
  cases d with
  | str x =>
    cases hd
    rename_i few
    refine if_no rfl ?_
    refine ⟨_, rfl, x, rfl, Nat.le_of_lt (small1000 few), _, _, rfl, rfl, _, rfl, ?_⟩
    by_cases c1 : (1 : Int) ≤ (x.length : Int)
    · refine if_yes (decide_eq_true c1) ?_
      refine ⟨_, _, rfl, rfl, _, rfl, ?_⟩
      by_cases c2 : (x.length : Int) ≤ 20
      · refine if_no (by simpa using c2) ?_
        have p0 : 0 < x.cps.size := by have : x.length = x.cps.size := rfl; omega
        obtain ⟨c, hc⟩ : ∃ c, x.cps[0]? = some c := ⟨x.cps[0], by simp [p0]⟩
        have e1 : decide (1 ≤ x.length) = true := decide_eq_true (by omega)
        have e2 : decide (x.length ≤ 20) = true := decide_eq_true (by omega)
        refine ⟨_, rfl, x, 0, c, rfl, rfl, by decide, by decide, by omega, hc, c, lettersS, rfl, rfl, _, rfl, ?_⟩
        by_cases c3 : c ∈ lettersS.cps.toList
        · refine if_yes (decide_eq_true c3) ?_
          refine ⟨_, rfl, x, rfl, comp_val walk_str (f := fun i => .bl (match x.cps[i]? with
            | some c => decide (c ∈ signsS.cps.toList)
            | none => false)) ?_ (fun _ _ => True.intro) (fun i H x H' y b o e => by rw [y.1]; exact e) ?_ ?_⟩
          · have := small1000 few
            exact this
          · rintro i v H1 H2 R hi s1 ⟨rfl, c, hc2, rfl⟩ r
            refine ⟨rfl, _, rfl, c, signsS, rfl, rfl, ?_⟩
            have z := r H2 (Same.refl H2)
            simp only [hc2] at z
            exact z
          · intro p H' s1 n1 l1
            have em : ((List.range x.cps.size).map fun i => V.bl (match x.cps[i]? with
              | some c => decide (c ∈ signsS.cps.toList)
              | none => false)) = (x.cps.toList.map fun c => decide (c ∈ signsS.cps.toList)).map V.bl := by
              apply List.ext_getElem
              · simp
              · intro i h1 h2
                simp at h1
                simp [h1]
            rw [em] at l1
            refine ⟨p, _, rfl, SqL.of l1, ?_⟩
            have z := k H' s1
            simp only [isWord, wordS, e1, e2, hc, decide_eq_true c3, Bool.and_true, Bool.true_and] at z
            rw [List.all_map]
            exact z
        · refine if_no (decide_eq_false c3) ?_
          have z := k H (Same.refl H)
          simp only [isWord, wordS, e1, e2, hc, decide_eq_false c3, Bool.and_false, Bool.false_and] at z
          exact z
      · refine if_yes (by simpa using c2) ?_
        have z := k H (Same.refl H)
        simp only [isWord, wordS, decide_eq_false (show ¬ x.length ≤ 20 by omega), Bool.and_false, Bool.false_and] at z
        exact z
    · refine if_no (decide_eq_false c1) ?_
      have z := k H (Same.refl H)
      simp only [isWord, wordS, decide_eq_false (show ¬ 1 ≤ x.length by omega), Bool.false_and] at z
      exact ⟨_, rfl, if_yes rfl z⟩
  | _ => exact if_yes rfl (if_yes rfl (k H (Same.refl H)))
theorem ok_is_place_name (F : Has K mg "is_place_name" s_is_place_name) (T : Txt K mg) (F_is_word : FnQ P w K mg base CX0 1 "is_word" ["value"] (spChk K isWord)) : FnQ P w K mg base CX0 2 "is_place_name" ["value"] (spChk K isPlace) := by
  refine F.q sc_is_place_name (fun _ _ _ _ _ _ us hl => match us, hl with | [_], _ => rfl) (fun vs H Q E h => by obtain ⟨v, d, rfl, _⟩ := h; rfl) (fun cdv A outer s H vs Q E hr h => ?_)
  obtain ⟨v, d, rfl, hd, k⟩ := h
  refine ⟨_, PSs.nox (pss_one (ps_ret (pe_and (pe_f F_is_word hr pass0 (pa_cons (pv 0) pa_nil)) (pe_one (pe_cmpR op_notIn_seq (pv 0) (C8.pe_gc (by rfl) T.c_DEED_NAMES) (by first | exact nomark _ | rfl)))))), ?_⟩
  refine ⟨_, rfl, v, d, rfl, hd, fun H' s => ⟨_, rfl, ?_⟩⟩
  have z := k H' s
  have hw : ∀ H, SqT K H (He.ga K "DEED_NAMES") (namesS.map V.str) := T.tq ("DEED_NAMES", namesS) (by simp [cTups])
  cases d with
  | str x =>
    cases hd
    by_cases c : isWord (.str x) = true
    · refine if_yes c ⟨_, rfl, _, _, rfl, .inr (hw H'), rfl, by simp [flatV], ?_⟩
      rw [inV_str]
      simp only [isPlace, c, Bool.true_and] at z
      exact z
    · have c : isWord (.str x) = false := by simpa using c
      refine if_no c ?_
      simp only [isPlace, c, Bool.false_and] at z
      exact z
  | _ => exact if_no rfl z
theorem ok_is_sent_word (F : Has K mg "is_sent_word" s_is_sent_word) (T : Txt K mg) (F_is_word : FnQ P w K mg base CX0 1 "is_word" ["value"] (spChk K isWord)) : FnQ P w K mg base CX0 2 "is_sent_word" ["value"] (spChk K isSent) := by
  refine F.q sc_is_sent_word (fun _ _ _ _ _ _ us hl => match us, hl with | [_], _ => rfl) (fun vs H Q E h => by obtain ⟨v, d, rfl, _⟩ := h; rfl) (fun cdv A outer s H vs Q E hr h => ?_)
  obtain ⟨v, d, rfl, hd, k⟩ := h
  refine ⟨_, PSs.nox (pss_one (ps_ret (pe_and (pe_f F_is_word hr pass0 (pa_cons (pv 0) pa_nil)) (pe_one (pe_cmpR op_notIn_seq (pv 0) (C8.pe_gc (by rfl) T.c_TREE_WORDS) (by first | exact nomark _ | rfl)))))), ?_⟩
  refine ⟨_, rfl, v, d, rfl, hd, fun H' s => ⟨_, rfl, ?_⟩⟩
  have z := k H' s
  have hw : ∀ H, SqT K H (He.ga K "TREE_WORDS") (treeS.map V.str) := T.tq ("TREE_WORDS", treeS) (by simp [cTups])
  cases d with
  | str x =>
    cases hd
    by_cases c : isWord (.str x) = true
    · refine if_yes c ⟨_, rfl, _, _, rfl, .inr (hw H'), rfl, by simp [flatV], ?_⟩
      rw [inV_str]
      simp only [isSent, c, Bool.true_and] at z
      exact z
    · have c : isWord (.str x) = false := by simpa using c
      refine if_no c ?_
      simp only [isSent, c, Bool.false_and] at z
      exact z
  | _ => exact if_no rfl z
theorem ok_is_given_reason (F : Has K mg "is_given_reason" s_is_given_reason) (T : Txt K mg) (F_is_word : FnQ P w K mg base CX0 1 "is_word" ["value"] (spChk K isWord)) : FnQ P w K mg base CX0 2 "is_given_reason" ["value"] (spChk K isGiven) := by
  refine F.q sc_is_given_reason (fun _ _ _ _ _ _ us hl => match us, hl with | [_], _ => rfl) (fun vs H Q E h => by obtain ⟨v, d, rfl, _⟩ := h; rfl) (fun cdv A outer s H vs Q E hr h => ?_)
  obtain ⟨v, d, rfl, hd, k⟩ := h
  refine ⟨_, PSs.nox (pss_one (ps_ret (pe_and (pe_f F_is_word hr pass0 (pa_cons (pv 0) pa_nil)) (pe_one (pe_cmpR op_notIn_seq (pv 0) (C8.pe_gc (by rfl) T.c_TREE_REASONS) (by first | exact nomark _ | rfl)))))), ?_⟩
  refine ⟨_, rfl, v, d, rfl, hd, fun H' s => ⟨_, rfl, ?_⟩⟩
  have z := k H' s
  have hw : ∀ H, SqT K H (He.ga K "TREE_REASONS") (reasonS.map V.str) := T.tq ("TREE_REASONS", reasonS) (by simp [cTups])
  cases d with
  | str x =>
    cases hd
    by_cases c : isWord (.str x) = true
    · refine if_yes c ⟨_, rfl, _, _, rfl, .inr (hw H'), rfl, by simp [flatV], ?_⟩
      rw [inV_str]
      simp only [isGiven, c, Bool.true_and] at z
      exact z
    · have c : isWord (.str x) = false := by simpa using c
      refine if_no c ?_
      simp only [isGiven, c, Bool.false_and] at z
      exact z
  | _ => exact if_no rfl z
theorem ok_is_sent_value (F : Has K mg "is_sent_value" s_is_sent_value) (T : Txt K mg) (F_is_between : FnQ P w K mg base CX0 2 "is_between" ["value", "low", "high"] (spBtw K)) : FnQ P w K mg base CX0 3 "is_sent_value" ["value"] (spChk K isVal) := by
  refine F.q sc_is_sent_value (fun _ _ _ _ _ _ us hl => match us, hl with | [_], _ => rfl) (fun vs H Q E h => by obtain ⟨v, d, rfl, _⟩ := h; rfl) (fun cdv A outer s H vs Q E hr h => ?_)
  obtain ⟨v, d, rfl, hd, k⟩ := h
  refine ⟨_, PSs.nox (pss_one (ps_ret (pe_f F_is_between hr pass0 (pa_cons (pv 0) (pa_cons (pe_un un_neg (C8.pe_gc (by rfl) T.c_LARGEST_VALUE)) (pa_cons (C8.pe_gc (by rfl) T.c_LARGEST_VALUE) pa_nil)))))), ?_⟩
  exact ⟨_, rfl, _, rfl, v, d, _, _, rfl, hd, k⟩
end
end K53
/-! zip of a tuple and a list -/
namespace L2
open PySem PySem.Spec PyProof.Rows
/-- the tuple at a and the list at b, item by item, in new pairs -/
def ItzM (K : PySem.W.Frag) (a b : Addr) : It where
  go := fun i H => ∃ (us ws : List V), SqT K H a us ∧ SqL K H b ws ∧ i < us.length ∧ i < ws.length
  yld := fun i H v H' => ∃ T x y, v = .ref T ∧ H T = none ∧ H' = upd H T (.tup [x, y]) ∧ (∀ us, SqT K H a us → us[i]? = some x) ∧ ∀ ws, SqL K H b ws → ws[i]? = some y
  stop := fun i H => ∃ (us ws : List V), SqT K H a us ∧ SqL K H b ws ∧ i ≤ us.length ∧ i ≤ ws.length ∧ (i = us.length ∨ i = ws.length)
abbrev StM (z TI TO i1 i2 a b : Addr) : Nat → Heap → Prop := fun i h => IsZip h z TI TO .none ∧ PySem.IsTupOf2 h TI (.ref i1) (.ref i2) ∧ (∃ p q, PySem.IsTupOf2 h TO p q) ∧ h.IsTupleIter i1 a i ∧ h.IsListIter i2 b i
theorem turnM {P : Program} {w : World} {K : PySem.W.Frag} {elts : List Expr} {kk : Nat} {tpos : Pos} {a b z TI TO i1 i2 : Addr} (S : PySem.ZipSep2 z TI TO i1 i2 [i1, a] [i2, b]) (na : a ≠ i1) (nb : b ≠ i2) :
    Turn P w K (.Tuple elts kk tpos) (ItzM K a b) [z, TI, TO, i1, i2] z (StM z TI TO i1 i2 a b) where
  mem := by simp
  obj := by
    rintro i h ⟨g1, g2, ⟨p, q, g3⟩, ⟨o1, e1, _, d1⟩, ⟨o2, e2, _, d2⟩⟩ c hc
    simp only [List.mem_cons, List.not_mem_nil, or_false] at hc
    rcases hc with rfl | rfl | rfl | rfl | rfl
    · exact ⟨_, g1, by rintro _ ⟨⟩⟩
    · exact ⟨_, g2, by rintro _ ⟨⟩⟩
    · exact ⟨_, g3, by rintro _ ⟨⟩⟩
    · exact ⟨o1, e1, by rintro _ j; rw [d1] at j; cases j⟩
    · exact ⟨o2, e2, by rintro _ j; rw [d2] at j; cases j⟩
  keep := by
    rintro i h h2 ⟨g1, g2, ⟨p, q, g3⟩, g4, g5⟩ kp
    exact ⟨kp _ (by simp) _ g1, kp _ (by simp) _ g2, ⟨p, q, kp _ (by simp) _ g3⟩, g4.at (kp i1 (by simp)), g5.at (kp i2 (by simp))⟩
  item := by
    rintro X rfl rfl rfl calm i pins s σ H E I apart ⟨g1, g2, ⟨p, q, g3⟩, g4, g5⟩ ⟨us, ws, hu, hw, lu, lw⟩
    obtain ⟨ts, rt, pt, _⟩ := I.tuple hu
    obtain ⟨ls, rl, pl, _⟩ := I.list hw
    have free := I.ok.hd calm
    have zl : z < s.heap.objs.size := Heap.lt_size g1
    obtain ⟨x, hx⟩ : ∃ x, us[i]? = some x := ⟨us[i], by simp [lu]⟩
    obtain ⟨y, hy⟩ : ∃ y, ws[i]? = some y := ⟨ws[i], by simp [lw]⟩
    have len1 : ts.toArray.size = us.length := by simpa using rt.length.symm
    have len2 : ls.toArray.size = ws.length := by simpa using rl.length.symm
    refine PySem.wpAny_pyNext_zipD2_item S (Draws.tuple (A := X.A.in1) free i1 a na ts.toArray) (Draws.list (A := X.A.in1) free i2 b nb ls.toArray) g1 g2 g3 (i := i) ⟨g4, pt⟩ ⟨g5, pl.isList⟩ (by omega) (by omega) ?_
    rintro u v h1 tk eu ev j1 j2 ⟨j3, _⟩ ⟨j4, _⟩ j5 _ kp
    obtain ⟨u2, gu, ru⟩ := rt.get hx
    obtain ⟨v2, gv, rv⟩ := rl.get hy
    have qu : u2 = u := by simpa [gu] using eu
    have qv : v2 = v := by simpa [gv] using ev
    subst qu qv
    refine ⟨_, rfl, wpAny_letOwnedTupleGo_zip (s := { s with heap := h1, toks := tk }) j1 fun h2 j6 sb => ?_⟩
    have at_new : h2.get? s.heap.objs.size = some { cls := .type "tuple", data := .seq #[u2, v2] } := (sb.2 _ (Nat.ne_of_gt zl)).trans j5
    have fresh := I.hok.fresh (Nat.le_refl s.heap.objs.size)
    have J : Inv X pins σ (upd H s.heap.objs.size (.tup [x, y])) { s with heap := h2, toks := tk } := by
      refine I.turnedNew (ch := [z, TI, TO, i1, i2]) (fun c o hc e => ?_) apart (Nat.le_refl _) ⟨(by show 2 ≤ sizeLine; decide), [u2, v2], .cons ru (.cons rv .nil), ⟨_, at_new, rfl, _, rfl⟩⟩
      simp only [List.mem_cons, List.not_mem_nil, or_false, not_or] at hc
      exact (sb.2 c hc.1).trans (kp c o hc.1 hc.2.2.1 hc.2.2.2.1 hc.2.2.2.2 e)
    refine ⟨.ref s.heap.objs.size, _, J, rfl, ⟨_, x, y, rfl, fresh, rfl, fun l hl => by rw [I.tuple_inj hl hu]; exact hx, fun l hl => by rw [I.list_inj hl hw]; exact hy⟩, ⟨j6, ?_, ⟨u2, v2, ?_⟩, ?_, ?_⟩, fun c hc => ?_⟩
    · exact (sb.2 _ S.TIz).trans (kp _ _ S.TIz S.TITO S.TIi1 S.TIi2 g2)
    · exact (sb.2 _ S.TOz).trans j2
    · exact j3.at fun o e => (sb.2 _ S.zi1.symm).trans e
    · exact j4.at fun o e => (sb.2 _ S.zi2.symm).trans e
    · have lt : c < s.heap.objs.size := by
        simp only [List.mem_cons, List.not_mem_nil, or_false] at hc
        rcases hc with rfl | rfl | rfl | rfl | rfl
        · exact zl
        · exact Heap.lt_size g2
        · exact Heap.lt_size g3
        · obtain ⟨_, e, _⟩ := g4; exact Heap.lt_size e
        · obtain ⟨_, e, _⟩ := g5; exact Heap.lt_size e
      rw [upd_ne (Nat.ne_of_lt lt)]
      exact (apart c hc).1
  done := by
    rintro X rfl rfl rfl calm i pins s σ H E I apart ⟨g1, g2, ⟨p, q, g3⟩, g4, g5⟩ ⟨us, ws, hu, hw, lu, lw, fin⟩
    obtain ⟨ts, rt, pt, _⟩ := I.tuple hu
    obtain ⟨ls, rl, pl, _⟩ := I.list hw
    have free := I.ok.hd calm
    have len1 : ts.toArray.size = us.length := by simpa using rt.length.symm
    have len2 : ls.toArray.size = ws.length := by simpa using rl.length.symm
    refine PySem.wpAny_pyNext_zipD2_end S (Draws.tuple (A := X.A.in1) free i1 a na ts.toArray) (Draws.list (A := X.A.in1) free i2 b nb ls.toArray) g1 g2 g3 (i := i) ⟨g4, pt⟩ ⟨g5, pl.isList⟩ (by omega) (by omega) (by omega) fun h1 tk kp => ⟨rfl, ?_⟩
    refine I.turnedL (t' := tk) (ch := [z, TI, TO, i1, i2]) (fun c o hc e => ?_) apart
    simp only [List.mem_cons, List.not_mem_nil, or_false, not_or] at hc
    exact kp c o hc.1 hc.2.2.1 hc.2.2.2.1 hc.2.2.2.2 e
  self := fun A i s Q E st h => wpAny_pyIter_zip st.1 h
def iZipM (K : PySem.W.Frag) (ta : TA) : TI := fun σ H R => ta σ H fun vs H1 => ∃ a b us ws, vs = [.ref a, .ref b] ∧ SqT K H1 a us ∧ SqL K H1 b ws ∧ R (ItzM K a b) H1
theorem pi_zipM {X : Cx} {e e2 : Expr} {ta : TA} {p pos tpos : Pos} {elts : List Expr} {kk : Nat} (hg : Gl X "zip") (hm : X.mg "zip" = none) (ha : PA X [e, e2] ta) (hs : starEach [e, e2] X.env = (false, eval e X.env) :: starEach [e2] X.env := by rfl)
    (hpl : (backTo pos (starEach [e2] X.env)).any (·.1) = false := by rfl) : PI X (.Tuple elts kk tpos) (.Call (.Name "zip" p) [e, e2] [] pos) (iZipM X.K ta) := by
  refine ⟨fun pins s σ H R I h => Call_ (ld_blt I hg hm PyProof.Rows.boot_zip (PyProof.Rows.callWith_type1 (thn (ha.run pos pins s σ H _ I h) ?_) hs hpl))⟩
  rintro us s1 ⟨vs, H1, I1, r1, a, b, xs, ys, rfl, hu, hw, q⟩
  obtain ⟨u1, u2, rfl, r2, r3⟩ := vals2 r1
  cases (show u1 = Value.ref a from r2)
  cases (show u2 = Value.ref b from r3)
  obtain ⟨ts, rt, pt, _⟩ := I1.tuple hu
  obtain ⟨ls, rl, pl, _⟩ := I1.list hw
  have la : a < s1.heap.objs.size := by obtain ⟨_, e, _⟩ := id pt; exact Heap.lt_size e
  have lb : b < s1.heap.objs.size := pl.lt
  refine PySem.zip_begins2 (PySem.begins_tuple a ts.toArray) (PySem.begins_list b ls.toArray) pt pl.isList fun h1 g1 g2 g3 g4 g5 _ kp => wpAny_pyIter_zip g1 ?_
  refine ⟨_, _, _, _, H1, rfl, I1.kept (t' := s1.toks) kp, turnM (zip_sep2 (N := s1.heap.objs.size) (fp1 := [a]) (fp2 := [b]) (by simpa using la) (by simpa using lb)) (Nat.ne_of_lt la) (Nat.ne_of_lt (Nat.lt_succ_of_lt lb)), ⟨g1, g2, ⟨_, _, g3⟩, ⟨_, g4, rfl, rfl⟩, ⟨_, g5, rfl, rfl⟩⟩, fun c hc => ?_, q⟩
  have ge : s1.heap.objs.size ≤ c := by
    simp only [List.mem_cons, List.not_mem_nil, or_false] at hc
    rcases hc with rfl | rfl | rfl | rfl | rfl
    · exact Nat.le_add_right _ 4
    · exact Nat.le_add_right _ 2
    · exact Nat.le_add_right _ 3
    · exact Nat.le_refl _
    · exact Nat.le_add_right _ 1
  exact I1.fpOk ge (I1.hok.fresh ge)
theorem walk_zipM {K : PySem.W.Frag} {a b : Addr} {us ws : List V} (hl : us.length = ws.length) : Walk (ItzM K a b) us.length (fun H => SqT K H a us ∧ SqL K H b ws) (YPair (fun i => us[i]?) (fun i => ws[i]?)) := by
  refine ⟨fun i H hi q => ⟨us, ws, q.1, q.2, hi, by omega⟩, fun H q => ⟨us, ws, q.1, q.2, Nat.le_refl _, by omega, .inl rfl⟩, fun i H v H2 hi q y => ?_⟩
  obtain ⟨T, x, z, e1, e2, e3, e4, e5⟩ := y
  exact ⟨T, x, z, e1, e2, e3, e4 us q.1, e5 ws q.2⟩
end L2
/-! rules with K given by name, for the inside of a comprehension -/
namespace L2
open PySem PySem.Spec PyProof.Rows
section
variable {X : Cx}
theorem pi_tupK (K : PySem.W.Frag) {tg l : Expr} {tl : TE} (hl : PE X l tl) (h : X.K = K := by rfl) : PI X tg l (iTup K tl) := by
  subst h; exact pi_tup hl
theorem pi_listK (K : PySem.W.Frag) {tg l : Expr} {tl : TE} (hl : PE X l tl) (h : X.K = K := by rfl) : PI X tg l (iList K tl) := by
  subst h; exact pi_list hl
theorem ix_tupK (K : PySem.W.Frag) (h : X.K = K := by rfl) : IxR X (rIxT K) := by
  subst h; exact ix_tup
theorem ix_listK (K : PySem.W.Frag) (h : X.K = K := by rfl) : IxR X (rIxL K) := by
  subst h; exact ix_list
theorem op_inK (K : PySem.W.Frag) (h : X.K = K := by rfl) : OpR X (compareOp .In) (rIn K false) := by
  subst h; exact op_in_seq
theorem cr_isiK (K : PySem.W.Frag) (h : X.K = K := by rfl) : CallR X (.builtin "isinstance") (rIsi K) := by
  subst h; exact call_isi
theorem pe_fldK (K : PySem.W.Frag) {e : Expr} {ta : TE} {f : Str} {pos : Pos} (he : PE X e ta) (hb : attributeBase e f X.env (eval e X.env) = eval e X.env) (h : X.K = K := by rfl) : PE X (.Attribute e f pos) (tFld K ta f) := by
  subst h; exact pe_fld he hb
theorem pg_tupK (K : PySem.W.Frag) (n : Nat) {es : List Expr} {m : Nat} {t : TGs} {pos : Pos} (hc : X.calm = true) (q : PGs X es t) (h : X.K = K := by rfl) (hn : (assignEach es X.env).length = n := by rfl) (hst : (assignEach es X.env).findIdx? (·.1) = none := by rfl) : PG X (.Tuple es m pos) (gTup K n t) := by
  subst h; exact pg_tup hc q hn hst
end
end L2
namespace K53
open PySem PySem.Spec PyProof.Rows L2
/-- the table of the deeds -/
structure Tab (K : PySem.W.Frag) (w : World) (mg : Str → Option Value) : Prop where
  gl : ∃ u, mg "DEED_ITEMS" = some u ∧ RelV (.ref (He.ga K "DEED_ITEMS")) u
  kd : ∃ es n, KDict K w (He.ga K "DEED_ITEMS") es n
  at_ : ∀ x ks, deedItems.lookup x = some ks → ∃ a, PySem.W.nsIn K (He.ga K "DEED_ITEMS") x = some (some (.ref a)) ∧ ∀ H, SqT K H a (ks.map V.str)
  no : ∀ x, deedItems.lookup x = none → PySem.W.nsIn K (He.ga K "DEED_ITEMS") x = some none
section
variable {P : Program} {w : World} {K : PySem.W.Frag} {mg : Str → Option Value} {base : Heap}
abbrev s_is_deed : Stmt := (top 30)
def N_is_deed : List Str := ["value", "sort", "items", "kinds", "kind", "item"]
theorem sc_is_deed : FnScope N_is_deed ["value"] (defScope s_is_deed) := ⟨rfl, rfl, rfl, by decide +kernel, rfl, by decide +kernel, by decide +kernel⟩
abbrev s_is_item : Stmt := (top 31)
def N_is_item : List Str := ["kind", "item"]
theorem sc_is_item : FnScope N_is_item ["kind", "item"] (defScope s_is_item) := ⟨rfl, rfl, rfl, by decide +kernel, rfl, by decide +kernel, by decide +kernel⟩
abbrev s_is_deed_value : Stmt := (top 32)
def N_is_deed_value : List Str := ["value", "sign", "amount"]
theorem sc_is_deed_value : FnScope N_is_deed_value ["value"] (defScope s_is_deed_value) := ⟨rfl, rfl, rfl, by decide +kernel, rfl, by decide +kernel, by decide +kernel⟩
abbrev s_has_add : Stmt := (top 33)
def N_has_add : List Str := ["script", "row", "deed"]
theorem sc_has_add : FnScope N_has_add ["script"] (defScope s_has_add) := ⟨rfl, rfl, rfl, by decide +kernel, rfl, by decide +kernel, by decide +kernel⟩
abbrev s_is_row : Stmt := (top 34)
def N_is_row : List Str := ["value", "mode", "word", "work", "deeds"]
theorem sc_is_row : FnScope N_is_row ["value"] (defScope s_is_row) := ⟨rfl, rfl, rfl, by decide +kernel, rfl, by decide +kernel, by decide +kernel⟩
abbrev s_are_deeds : Stmt := (top 35)
def N_are_deeds : List Str := ["value", "deed"]
theorem sc_are_deeds : FnScope N_are_deeds ["value"] (defScope s_are_deeds) := ⟨rfl, rfl, rfl, by decide +kernel, rfl, by decide +kernel, by decide +kernel⟩
abbrev s_wrong_row : Stmt := (top 36)
def N_wrong_row : List Str := ["script", "seen", "index", "row"]
theorem sc_wrong_row : FnScope N_wrong_row ["script"] (defScope s_wrong_row) := ⟨rfl, rfl, rfl, by decide +kernel, rfl, by decide +kernel, by decide +kernel⟩
abbrev s_is_script : Stmt := (top 37)
def N_is_script : List Str := ["value"]
theorem sc_is_script : FnScope N_is_script ["value"] (defScope s_is_script) := ⟨rfl, rfl, rfl, by decide +kernel, rfl, by decide +kernel, by decide +kernel⟩
abbrev s_check_script : Stmt := (top 38)
def N_check_script : List Str := ["script", "index"]
theorem sc_check_script : FnScope N_check_script ["script"] (defScope s_check_script) := ⟨rfl, rfl, rfl, by decide +kernel, rfl, by decide +kernel, by decide +kernel⟩
abbrev s_row_for : Stmt := (top 39)
def N_row_for : List Str := ["script", "mode", "word"]
theorem sc_row_for : FnScope N_row_for ["script", "mode", "word"] (defScope s_row_for) := ⟨rfl, rfl, rfl, by decide +kernel, rfl, by decide +kernel, by decide +kernel⟩
abbrev s_found_row : Stmt := (top 40)
def N_found_row : List Str := ["script", "mode", "word", "row"]
theorem sc_found_row : FnScope N_found_row ["script", "mode", "word"] (defScope s_found_row) := ⟨rfl, rfl, rfl, by decide +kernel, rfl, by decide +kernel, by decide +kernel⟩
abbrev s_words_of : Stmt := (top 41)
def N_words_of : List Str := ["script", "row"]
theorem sc_words_of : FnScope N_words_of ["script"] (defScope s_words_of) := ⟨rfl, rfl, rfl, by decide +kernel, rfl, by decide +kernel, by decide +kernel⟩
theorem tup_len {H : Hp} {v : V} {ds : List Dt} (h : Dd K H v (.tup ds)) : ∃ a xs, v = .ref a ∧ SqT K H a xs ∧ DdAll K H xs ds ∧ xs.length = ds.length := by
  cases h with
  | tup h t => exact ⟨_, _, rfl, h, t, t.len⟩
theorem dval_len : ∀ ds : List Dt, ds.length ≠ 2 → dvalD (.tup ds) = false
  | [], _ => rfl
  | [a], _ => by cases a <;> rfl
  | [a, b], h => absurd rfl h
  | a :: b :: c :: r, _ => by cases a <;> rfl
theorem ok_is_deed_value (F : Has K mg "_is_deed_value" s_is_deed_value) (T : Txt K mg) (F_is_sent_value : FnQ P w K mg base CX0 3 "is_sent_value" ["value"] (spChk K isVal)) : FnQ P w K mg base CX0 4 "_is_deed_value" ["value"] (spChk K dvalD) := by
  refine F.q sc_is_deed_value (fun _ _ _ _ _ _ us hl => match us, hl with | [_], _ => rfl) (fun vs H Q E h => by obtain ⟨v, d, rfl, _⟩ := h; rfl) (fun cdv A outer s H vs Q E hr h => ?_)
  obtain ⟨v, d, rfl, hd, k⟩ := h
  have gI : mg "isinstance" = none := T.fr _ (by simp [frees])
  have gL : mg "len" = none := T.fr _ (by simp [frees])
  refine ⟨_, PSs.nox (pss_cons (ps_if (pt_not (pt_val (pe_callB call_isi (by rfl) gI boot_isinstance (pa_cons (pv 0) (pa_cons (pe_bltn (v := .ty "tuple") (by rfl) (T.fr "tuple" (by simp [frees])) PyProof.Rows.boot_tuple rfl) pa_nil)))))
  (pss_one (ps_ret (pe_f F_is_sent_value hr pass0 (pa_cons (pv 0) pa_nil))))
  pss_nil)
  (pss_cons (ps_if (pt_cmpR op_ne (pe_callB call_len_seq (by rfl) gL boot_len (pa_cons (pv 0) pa_nil)) pe_int (by first | exact nomark _ | rfl))
  (pss_one (ps_ret pe_bl))
  pss_nil)
  (pss_cons (ps_asg (pv 0) (pg_tup rfl (pgs_cons (pg_name (i := 1) sc_is_deed_value.nd rfl (by first | exact .inl rfl | exact .inr rfl)) (pgs_cons (pg_name (i := 2) sc_is_deed_value.nd rfl (by first | exact .inl rfl | exact .inr rfl)) pgs_nil))))
  (pss_one (ps_ret (pe_and (pe_callB call_isi (by rfl) gI boot_isinstance (pa_cons (pv 1) (pa_cons (pe_bltn (v := .ty "str") (by rfl) (T.fr "str" (by simp [frees])) PyProof.Rows.boot_str rfl) pa_nil))) (pe_and (pe_cmpR op_eq (pv 1) pe_str (by first | exact nomark _ | rfl)) (pe_one (pe_f F_is_sent_value hr pass0 (pa_cons (pv 2) pa_nil)))))))))), ?_⟩
  refine ⟨_, rfl, _, _, _, _, _, rfl, .ty _, (hd).ty T.pk, T.pk.kit _ 3 (kd_lt _) (by decide), _, rfl, ?_⟩
  cases d with
  | tup ds =>
    obtain ⟨a, xs, rfl, hx, ha, hl⟩ := tup_len hd
    refine if_no rfl ⟨_, rfl, a, _, rfl, .inr hx, rfl, _, rfl, ?_⟩
    by_cases l2 : ds.length = 2
    case neg =>
      have z := k H (Same.refl H)
      rw [dval_len ds l2] at z
      exact if_yes (by rw [hl]; simp; omega) z
    match ds, hl, ha, l2 with
    | [s1, a1], hl, ha, _ =>
      obtain ⟨v1, v2, rfl, h1, h2⟩ := ha.two
      refine if_no rfl ?_
      refine ⟨_, rfl, a, _, rfl, hx, rfl, _, _, rfl, _, _, rfl, ?_⟩
      refine ⟨rfl, _, rfl, _, _, _, _, _, rfl, .ty _, (h1).ty T.pk, T.pk.kit _ 2 (kd_lt _) (by decide), _, rfl, ?_⟩
      cases s1 with
      | str x =>
        cases h1
        refine if_yes rfl ⟨_, rfl, rfl, _, rfl, ?_⟩
        by_cases c : x = "plus"
        · subst c
          exact if_yes (decide_eq_true rfl) ⟨_, rfl, v2, a1, rfl, h2, k⟩
        · have z := k H (Same.refl H)
          simp only [dvalD, decide_eq_false c, Bool.false_and] at z
          exact if_no (by simpa using c) z
      | _ => exact if_no rfl (k H (Same.refl H))
  | _ => exact if_yes rfl ⟨_, rfl, v, _, rfl, hd, k⟩
theorem acc2_rows (rows : List Dt) : acc2 (fun i => (rowDs (rows.getD i .non)).length) (fun i j => deedAdd ((rowDs (rows.getD i .non)).getD j .non)) rows.length = rows.flatMap fun r => (rowDs r).map deedAdd := by
  unfold acc2
  have e : ∀ r : Dt, (List.range (rowDs r).length).map (fun j => deedAdd ((rowDs r).getD j .non)) = (rowDs r).map deedAdd := fun r => by
    have z := congrArg (List.map deedAdd) (range_getD (rowDs r) .non)
    rw [List.map_map] at z
    exact z
  have z : (List.range rows.length).flatMap (fun i => (rowDs (rows.getD i .non)).map deedAdd) = rows.flatMap fun r => (rowDs r).map deedAdd := by
    have y := congrArg (List.flatMap fun r => (rowDs r).map deedAdd) (range_getD rows .non)
    rw [List.flatMap_map] at y
    exact y
  rw [← z]
  congr 1
  funext i
  exact e _
theorem hasAdd_flat (rows : List Dt) : hasAdd (.tup rows) = (rows.flatMap fun r => (rowDs r).map deedAdd).any id := by
  unfold hasAdd
  rw [List.any_flatMap]
  simp
theorem okRow_ds {r : Dt} (h : okRow r = true) : (rowDs r).length ≤ 8 ∧ (∀ d ∈ rowDs r, okDeed d = true) ∧ ∃ a b c, r = .tup [a, b, c, .tup (rowDs r)] := by
  unfold okRow at h
  split at h
  · simp only [Bool.and_eq_true, decide_eq_true_eq, List.all_eq_true] at h
    exact ⟨h.1, h.2, _, _, _, rfl⟩
  · cases h
theorem ok_has_add (F : Has K mg "_has_add" s_has_add) (T : Txt K mg) : FnQ P w K mg base CX0 1 "_has_add" ["script"] (fun vs H Q _ => ∃ v d, vs = [v] ∧ Dd K H v d ∧ okSc d = true ∧ ∀ H', Same H H' → Q (.bl (hasAdd d)) H') := by
  refine F.q sc_has_add (fun _ _ _ _ _ _ us hl => match us, hl with | [_], _ => rfl) (fun vs H Q E h => by obtain ⟨v, d, rfl, _⟩ := h; rfl) (fun cdv A outer s H vs Q E hr h => ?_)
  obtain ⟨v, d, rfl, hd, ok, k⟩ := h
  obtain ⟨rows, rfl⟩ : ∃ rows, d = .tup rows := by cases d <;> first | exact ⟨_, rfl⟩ | exact absurd ok (by simp [okSc])
  obtain ⟨a, xs, rfl, hx, ha, hl⟩ := tup_len hd
  have ok2 : rows.length ≤ 30 ∧ ∀ r ∈ rows, okRow r = true := by simpa [okSc] using ok
  obtain ⟨few, okr⟩ := ok2
  refine ⟨_, PSs.nox (pss_one (ps_ret (pe_callB (cr_any rfl) (by rfl) (T.fr "any" (by simp [frees])) boot_any (pa_cons (pe_lc2 (own := [("row", 1), ("deed", 2)]) (vs1 := [2]) (g := gName 1) (g1 := gName 2) (tt := tYes) (tt1 := tYes) rfl sc_has_add.nd (pi_tup (pv 0)) (blkOk_by (N := N_has_add) (sc := defScope s_has_add) (by decide +kernel)) (by decide) (fun _ _ _ _ _ => (pg_name (i := 1) sc_has_add.nd rfl (by first | exact .inl rfl | exact .inr rfl))) (fun _ _ _ _ _ => pts_nil) (fun _ _ _ _ _ => (pi_tupK K (pe_ix (ix_tupK K) (pv 1) pe_int (fun _ _ => rfl)))) (fun _ _ _ _ _ => (pg_name (i := 2) sc_has_add.nd rfl (by first | exact .inl rfl | exact .inr rfl))) (fun _ _ _ _ _ => pts_nil) (fun _ _ _ _ _ => (pe_cmpR op_eq (pe_ix (ix_tupK K) (pv 2) pe_int (fun _ _ => rfl)) pe_str (by first | exact nomark _ | rfl)))) pa_nil)))), ?_⟩
  refine ⟨_, rfl, a, rfl, ⟨_, hx⟩, comp2_bool walk_tup (m := fun i => (rowDs (rows.getD i .non)).length) (f := fun i j => deedAdd ((rowDs (rows.getD i .non)).getD j .non)) ?_ (fun H' s => s.sqT hx) (fun i H x H' y b o e => by rw [y.1]; exact e) ?_ ?_⟩
  · rw [hl, acc2_rows]
    have : ∀ l : List Dt, (∀ r ∈ l, okRow r = true) → (l.flatMap fun r => (rowDs r).map deedAdd).length ≤ 8 * l.length := by
      intro l
      induction l with
      | nil => intro _; exact Nat.le_refl _
      | cons r l ih =>
        intro h
        have z := (okRow_ds (h r (by simp))).1
        have y := ih fun q hq => h q (by simp [hq])
        simp only [List.flatMap_cons, List.length_append, List.length_map, List.length_cons]
        omega
    have z := this rows okr
    exact small1000 (by omega)
  · rintro i x H1 H2 C hi s1 ⟨rfl, ex⟩ c
    obtain ⟨r, er, hr2⟩ := ha.get ex
    have mr : r ∈ rows := List.mem_of_getElem? er
    obtain ⟨_, okd, a1, b1, c1, e1⟩ := okRow_ds (okr r mr)
    rw [e1] at hr2
    obtain ⟨p, ys, rfl, hp, hy, _⟩ := tup_len hr2
    obtain ⟨v1, v2, v3, v4, rfl, _, _, _, h4⟩ := hy.four
    obtain ⟨q, ws, rfl, hq, hw, lw⟩ := tup_len h4
    have eg : rows.getD i .non = r := by rw [List.getD_eq_getElem?_getD, er]; rfl
    refine ⟨rfl, _, rfl, p, _, _, _, rfl, rfl, s1.sqT hp, rfl, q, rfl, ⟨_, s1.sqT hq⟩, c _ _ _ (Same.refl _) ⟨fun H => SqT K H q ws, YAt ws, (by rw [eg, ← lw]; exact walk_tup), fun H' s => s.sqT hq, fun i H x H' y b o e => by rw [y.1]; exact e, ?_⟩⟩
    rintro j y H5 H6 R hj s5 ⟨rfl, ey⟩ fin
    obtain ⟨d, ed, hdd⟩ := hw.get ey
    have z := fin H6 (Same.refl _)
    have eg2 : (rowDs r).getD j .non = d := by rw [List.getD_eq_getElem?_getD, ed]; rfl
    rw [eg, eg2] at z
    have od := okd d (List.mem_of_getElem? ed)
    obtain ⟨x, rest, rfl⟩ : ∃ x rest, d = .tup (.str x :: rest) := by
      unfold okDeed at od
      split at od
      · exact ⟨_, _, rfl⟩
      · cases od
    obtain ⟨u, zs, rfl, hu, hz, _⟩ := tup_len hdd
    cases hz with
    | cons hx1 ht =>
      cases hx1
      refine ⟨rfl, _, rfl, u, _, _, .str x, rfl, rfl, s5.sqT hu, at_of (j := 0) rfl rfl, rfl, ?_⟩
      have eq : decide (V.str x = V.str "add") = decide (x = "add") := by simp
      rw [eq]
      exact z
  · intro p H' s1 n1 l1
    rw [hl, acc2_rows] at l1
    refine ⟨p, _, rfl, SqL.of l1, ?_⟩
    have z := k H' s1
    rw [hasAdd_flat] at z
    exact z
abbrev spItem (K : PySem.W.Frag) : Sp := fun vs H Q _ => ∃ x v d, vs = [.str x, v] ∧ Dd K H v d ∧ ∀ H', Same H H' → Q (.bl (itemD x d)) H'
theorem ok_is_item (F : Has K mg "_is_item" s_is_item) (T : Txt K mg) (F_is_sent_word : FnQ P w K mg base CX0 2 "is_sent_word" ["value"] (spChk K isSent)) (F_is_deed_value : FnQ P w K mg base CX0 4 "_is_deed_value" ["value"] (spChk K dvalD))
    (F_is_between : FnQ P w K mg base CX0 2 "is_between" ["value", "low", "high"] (spBtw K)) (F_is_given_reason : FnQ P w K mg base CX0 2 "is_given_reason" ["value"] (spChk K isGiven)) (F_is_word : FnQ P w K mg base CX0 1 "is_word" ["value"] (spChk K isWord))
    (F_has_add : FnQ P w K mg base CX0 1 "_has_add" ["script"] (fun vs H Q _ => ∃ v d, vs = [v] ∧ Dd K H v d ∧ okSc d = true ∧ ∀ H', Same H H' → Q (.bl (hasAdd d)) H')) :
    FnQ P w K mg base CX0 5 "_is_item" ["kind", "item"] (spItem K) := by
  refine F.q sc_is_item (fun _ _ _ _ _ _ us hl => match us, hl with | [_, _], _ => rfl) (fun vs H Q E h => by obtain ⟨x, v, d, rfl, _⟩ := h; rfl) (fun cdv A outer s H vs Q E hr h => ?_)
  obtain ⟨x, v, d, rfl, hd, k⟩ := h
  have gI : mg "isinstance" = none := T.fr _ (by simp [frees])
  refine ⟨_, PSs.nox (pss_cons (ps_if (pt_cmpR op_eq (pv 0) pe_str (by first | exact nomark _ | rfl))
  (pss_one (ps_ret (pe_f F_is_sent_word hr pass0 (pa_cons (pv 1) pa_nil))))
  pss_nil)
  (pss_cons (ps_if (pt_cmpR op_eq (pv 0) pe_str (by first | exact nomark _ | rfl))
  (pss_one (ps_ret (pe_f F_is_deed_value hr pass0 (pa_cons (pv 1) pa_nil))))
  pss_nil)
  (pss_cons (ps_if (pt_cmpR op_eq (pv 0) pe_str (by first | exact nomark _ | rfl))
  (pss_one (ps_ret (pe_f F_is_between hr pass0 (pa_cons (pv 1) (pa_cons pe_int (pa_cons (C8.pe_gc (by rfl) T.c_MOST_TICKS_LATER) pa_nil))))))
  pss_nil)
  (pss_cons (ps_if (pt_cmpR op_eq (pv 0) pe_str (by first | exact nomark _ | rfl))
  (pss_one (ps_ret (pe_callB call_isi (by rfl) gI boot_isinstance (pa_cons (pv 1) (pa_cons (pe_bltn (v := .ty "bool") (by rfl) (T.fr "bool" (by simp [frees])) PyProof.Rows.boot_bool rfl) pa_nil)))))
  pss_nil)
  (pss_cons (ps_if (pt_cmpR op_eq (pv 0) pe_str (by first | exact nomark _ | rfl))
  (pss_one (ps_ret (pe_f F_is_given_reason hr pass0 (pa_cons (pv 1) pa_nil))))
  pss_nil)
  (pss_cons (ps_if (pt_cmpR op_eq (pv 0) pe_str (by first | exact nomark _ | rfl))
  (pss_one (ps_ret (pe_and (pe_callB call_isi (by rfl) gI boot_isinstance (pa_cons (pv 1) (pa_cons (C8.pe_gc (by rfl) T.c_AnyWorker) pa_nil))) (pe_one (pe_not (pe_f F_has_add hr pass0 (pa_cons (pe_fld (pv 1) rfl) pa_nil)))))))
  pss_nil)
  (pss_one (ps_ret (pe_f F_is_word hr pass0 (pa_cons (pv 1) pa_nil)))))))))), ?_⟩
  have dec : ∀ y : Str, decide (V.str x = V.str y) = decide (x = y) := fun y => by simp
  have no : ∀ {y : Str}, ¬ x = y → decide (V.str x = V.str y) = false := fun c => by rw [dec]; exact decide_eq_false c
  by_cases c1 : x = "sent word"
  · subst c1
    exact ⟨_, rfl, rfl, _, rfl, if_yes rfl ⟨_, rfl, v, d, rfl, hd, k⟩⟩
  by_cases c2 : x = "value"
  · subst c2
    exact ⟨_, rfl, rfl, _, rfl, if_no rfl ⟨_, rfl, rfl, _, rfl, if_yes rfl ⟨_, rfl, v, d, rfl, hd, k⟩⟩⟩
  by_cases c3 : x = "ticks"
  · subst c3
    exact ⟨_, rfl, rfl, _, rfl, if_no rfl ⟨_, rfl, rfl, _, rfl, if_no rfl ⟨_, rfl, rfl, _, rfl, if_yes rfl ⟨_, rfl, v, d, _, _, rfl, hd, k⟩⟩⟩⟩
  by_cases c4 : x = "truth"
  · subst c4
    refine ⟨_, rfl, rfl, _, rfl, if_no rfl ⟨_, rfl, rfl, _, rfl, if_no rfl ⟨_, rfl, rfl, _, rfl, if_no rfl ⟨_, rfl, rfl, _, rfl, if_yes rfl ?_⟩⟩⟩⟩
    refine ⟨_, rfl, _, _, _, _, _, rfl, .ty _, (hd).ty T.pk, T.pk.kit _ 1 (kd_lt _) (by decide), ?_⟩
    cases d <;> exact k H (Same.refl H)
  by_cases c5 : x = "reason"
  · subst c5
    exact ⟨_, rfl, rfl, _, rfl, if_no rfl ⟨_, rfl, rfl, _, rfl, if_no rfl ⟨_, rfl, rfl, _, rfl, if_no rfl ⟨_, rfl, rfl, _, rfl, if_no rfl ⟨_, rfl, rfl, _, rfl, if_yes rfl ⟨_, rfl, v, d, rfl, hd, k⟩⟩⟩⟩⟩⟩
  by_cases c6 : x = "plan"
  · subst c6
    refine ⟨_, rfl, rfl, _, rfl, if_no rfl ⟨_, rfl, rfl, _, rfl, if_no rfl ⟨_, rfl, rfl, _, rfl, if_no rfl ⟨_, rfl, rfl, _, rfl, if_no rfl ⟨_, rfl, rfl, _, rfl, if_no rfl ⟨_, rfl, rfl, _, rfl, if_yes rfl ?_⟩⟩⟩⟩⟩⟩
    refine ⟨_, rfl, _, _, _, _, _, rfl, .own _, (hd).ty T.pk, T.pk.kit _ 4 (kd_lt _) (by decide), _, rfl, ?_⟩
    cases d with
    | wrk sc =>
      cases hd with
      | wrk h l t o =>
        refine if_yes rfl ⟨_, rfl, _, _, _, _, _, rfl, h, T.pk.wk.cl, T.na, l, _, sc, rfl, t, o, fun H' s => ⟨_, rfl, k H' s⟩⟩
    | _ => exact if_no rfl (k H (Same.refl H))
  have z : ∀ H', Same H H' → Q (.bl (isWord d)) H' := fun H' s => by
    have y := k H' s
    unfold itemD at y
    rw [if_neg c1, if_neg c2, if_neg c3, if_neg c4, if_neg c5, if_neg c6] at y
    exact y
  exact ⟨_, rfl, rfl, _, rfl, if_no (no c1) ⟨_, rfl, rfl, _, rfl, if_no (no c2) ⟨_, rfl, rfl, _, rfl, if_no (no c3) ⟨_, rfl, rfl, _, rfl, if_no (no c4) ⟨_, rfl, rfl, _, rfl, if_no (no c5) ⟨_, rfl, rfl, _, rfl, if_no (no c6) ⟨_, rfl, v, d, rfl, hd, z⟩⟩⟩⟩⟩⟩⟩
theorem items_all : ∀ (ks : List Str) (ds : List Dt), ks.length = ds.length → itemsD ks ds = ((List.range ks.length).map fun i => itemD (ks.getD i "") (ds.getD i .non)).all id
  | [], [], _ => rfl
  | k :: ks, d :: ds, h => by
    have ih := items_all ks ds (by simpa using h)
    rw [List.length_cons, List.range_succ_eq_map, List.map_cons, List.map_map, List.all_cons]
    show (itemD k d && itemsD ks ds) = _
    rw [ih]
    rfl
theorem items_len : ∀ (ks : List Str) (ds : List Dt), ks.length ≠ ds.length → itemsD ks ds = false
  | [], [], h => absurd rfl h
  | [], _ :: _, _ => rfl
  | _ :: _, [], _ => rfl
  | k :: ks, d :: ds, h => by
    show (itemD k d && itemsD ks ds) = _
    rw [items_len ks ds (fun e => h (by simp [e])), Bool.and_false]
theorem lookup_mem : ∀ {l : List (Str × List Str)} {x : Str} {ks : List Str}, l.lookup x = some ks → (x, ks) ∈ l
  | (y, zs) :: l, x, ks, h => by
    rw [List.lookup_cons] at h
    cases q : x == y with
    | true => rw [q] at h; cases h; rw [eq_of_beq q]; exact List.mem_cons_self
    | false => rw [q] at h; exact List.mem_cons_of_mem _ (lookup_mem h)
theorem items_few : ∀ p ∈ deedItems, p.2.length ≤ 3 := by decide +kernel
theorem ok_is_deed (F : Has K mg "is_deed" s_is_deed) (T : Txt K mg) (TD : Tab K w mg) (F_is_item : FnQ P w K mg base CX0 5 "_is_item" ["kind", "item"] (spItem K)) : FnQ P w K mg base CX0 6 "is_deed" ["value"] (spChk K deedD) := by
  refine F.q sc_is_deed (fun _ _ _ _ _ _ us hl => match us, hl with | [_], _ => rfl) (fun vs H Q E h => by obtain ⟨v, d, rfl, _⟩ := h; rfl) (fun cdv A outer s H vs Q E hr h => ?_)
  obtain ⟨v, d, rfl, hd, k⟩ := h
  have gI : mg "isinstance" = none := T.fr _ (by simp [frees])
  have gL : mg "len" = none := T.fr _ (by simp [frees])
  obtain ⟨es, n, DD⟩ := TD.kd
  refine ⟨_, PSs.nox (pss_cons (ps_if (pw_or (pt_not (pt_val (pe_callB call_isi (by rfl) gI boot_isinstance (pa_cons (pv 0) (pa_cons (pe_bltn (v := .ty "tuple") (by rfl) (T.fr "tuple" (by simp [frees])) PyProof.Rows.boot_tuple rfl) pa_nil))))) (pw_or1 (pt_cmpR op_eq (pe_callB call_len_seq (by rfl) gL boot_len (pa_cons (pv 0) pa_nil)) pe_int (by first | exact nomark _ | rfl)))).pt
  (pss_one (ps_ret pe_bl))
  pss_nil)
  (pss_cons (ps_asg (pv 0) (pg_rest (k := 1) rfl (pgs_cons (pg_name (i := 1) sc_is_deed.nd rfl (by first | exact .inl rfl | exact .inr rfl)) (pgs_rest (pg_name (i := 2) sc_is_deed.nd rfl (by first | exact .inl rfl | exact .inr rfl)) pgs_nil))))
  (pss_cons (ps_if (pw_or (pt_not (pt_val (pe_callB call_isi (by rfl) gI boot_isinstance (pa_cons (pv 1) (pa_cons (pe_bltn (v := .ty "str") (by rfl) (T.fr "str" (by simp [frees])) PyProof.Rows.boot_str rfl) pa_nil))))) (pw_or1 (pt_cmpR (op_notIn_kd DD) (pv 1) (C8.pe_gc (by rfl) TD.gl) (by first | exact nomark _ | rfl)))).pt
  (pss_one (ps_ret pe_bl))
  pss_nil)
  (pss_cons (ps_set (i := 3) sc_is_deed.nd rfl (by first | exact .inl rfl | exact .inr rfl) (pe_ix ix_kdict (C8.pe_gc (by rfl) TD.gl) (pv 1) (fun _ _ => rfl)))
  (pss_one (ps_ret (pe_and (pe_cmpR op_eq (pe_callB call_len_seq (by rfl) gL boot_len (pa_cons (pv 2) pa_nil)) (pe_callB call_len_seq (by rfl) gL boot_len (pa_cons (pv 3) pa_nil)) (by first | exact nomark _ | rfl)) (pe_one (pe_callB (cr_all rfl) (by rfl) (T.fr "all" (by simp [frees])) boot_all (pa_cons (pe_lc (own := [("kind", 4), ("item", 5)]) (tt := tYes) rfl sc_is_deed.nd (pi_zipM (by rfl) (T.fr "zip" (by simp [frees])) (pa_cons (pv 3) (pa_cons (pv 2) pa_nil))) (blkOk_by (N := N_is_deed) (sc := defScope s_is_deed) (by decide +kernel)) (fun _ _ _ _ _ => (pg_tupK K 2 rfl (pgs_cons (pg_name (i := 4) sc_is_deed.nd rfl (by first | exact .inl rfl | exact .inr rfl)) (pgs_cons (pg_name (i := 5) sc_is_deed.nd rfl (by first | exact .inl rfl | exact .inr rfl)) pgs_nil)))) (fun _ _ _ _ _ => pts_nil) (fun _ _ _ _ _ => (pe_f F_is_item hr pass0 (pa_cons (pv 4) (pa_cons (pv 5) pa_nil))))) pa_nil)))))))))), ?_⟩
  refine ⟨_, rfl, _, _, _, _, _, rfl, .ty _, (hd).ty T.pk, T.pk.kit _ 3 (kd_lt _) (by decide), _, rfl, ?_⟩
  cases d with
  | tup ds =>
    obtain ⟨a, xs, rfl, hx, ha, hl⟩ := tup_len hd
    refine if_no rfl ⟨_, rfl, a, _, rfl, .inr hx, rfl, _, rfl, ?_⟩
    cases ha with
    | nil => exact if_yes rfl (k H (Same.refl H))
    | @cons v0 vs d0 ds h0 ht =>
      refine if_no (decide_eq_false fun e => by injection e with e; simp at e; omega) ?_
      refine ⟨_, rfl, a, _, rfl, hx, Nat.succ_le_succ (Nat.zero_le _), fun p H1 s1 n1 l1 => ?_⟩
      refine ⟨_, _, rfl, _, _, rfl, rfl, _, rfl, _, _, _, _, _, rfl, .ty _, ((h0.same s1)).ty T.pk, T.pk.kit _ 2 (kd_lt _) (by decide), _, rfl, ?_⟩
      cases d0 with
      | str x =>
        cases h0
        refine if_no rfl ?_
        cases lk : deedItems.lookup x with
        | none =>
          have z := k H1 s1
          simp only [deedD, lk] at z
          exact ⟨_, rfl, x, _, rfl, rfl, TD.no x lk, _, rfl, if_yes rfl z⟩
        | some ks =>
          obtain ⟨b, hb, hk⟩ := TD.at_ x ks lk
          have few : ks.length ≤ 3 := items_few _ (lookup_mem lk)
          refine ⟨_, rfl, x, _, rfl, rfl, hb, _, rfl, if_no rfl ?_⟩
          refine ⟨_, rfl, _, x, .ref b, rfl, rfl, ⟨es, n, _, DD.at_, DD.lit, hb, rfl⟩, ?_⟩
          have z0 : ∀ H', Same H H' → Q (.bl (itemsD ks ds)) H' := fun H' s => by
            have z := k H' s
            simp only [deedD, lk] at z
            exact z
          have lds : vs.length = ds.length := ht.len
          refine ⟨_, rfl, p, _, rfl, .inl (SqL.of l1), _, rfl, b, _, rfl, .inr (hk H1), rfl, _, rfl, ?_⟩
          by_cases le : ks.length = ds.length
          · refine if_yes (decide_eq_true (by simp [le, lds])) ?_
            refine ⟨_, rfl, _, rfl, b, p, _, _, rfl, hk H1, SqL.of l1, comp_val (walk_zipM (by simp [le, lds])) (f := fun i => .bl (itemD (ks.getD i "") (ds.getD i .non))) ?_ (fun H' s => ⟨hk H', s.sqL (SqL.of l1)⟩) ?_ ?_ ?_⟩
            · exact small1000 (by simp; omega)
            · rintro i H4 v H5 ⟨T0, x0, y0, rfl, nT, rfl, _⟩
              exact Same.new nT
            · rintro i v H2 H3 R hi s2 ⟨T0, x0, y0, rfl, nT, rfl, e1, e2⟩ r
              obtain ⟨kk, ek, rfl⟩ : ∃ kk, ks[i]? = some kk ∧ x0 = .str kk := by
                have e1 : (ks.map V.str)[i]? = some x0 := e1
                rw [List.getElem?_map] at e1
                cases q : ks[i]? with
                | none => rw [q] at e1; cases e1
                | some kk => rw [q] at e1; exact ⟨kk, rfl, (Option.some.inj e1).symm⟩
              obtain ⟨di, ed, hdi⟩ := ht.get (show vs[i]? = some y0 from e2)
              have s3 : Same H (upd H2 T0 (.tup [.str kk, y0])) := fun b o e => Same.new nT _ _ (s2 _ _ (s1 _ _ e))
              refine ⟨T0, _, rfl, SqT.of upd_same, rfl, _, _, rfl, _, _, rfl, rfl, rfl, _, rfl, _, rfl, kk, y0, di, rfl, hdi.same s3, fun H' s => ?_⟩
              have z := r H' s
              simp only [List.getD_eq_getElem?_getD, ek, ed, Option.getD_some] at z
              exact z
            · intro q H2 s2 n2 l2
              have em : ((List.range (ks.map V.str).length).map fun i => V.bl (itemD (ks.getD i "") (ds.getD i .non))) = ((List.range ks.length).map fun i => itemD (ks.getD i "") (ds.getD i .non)).map V.bl := by
                rw [List.map_map, List.length_map]
                rfl
              rw [em] at l2
              refine ⟨q, _, rfl, SqL.of l2, ?_⟩
              rw [← items_all ks ds le]
              exact z0 H2 (s1.trans s2)
          · refine if_no (decide_eq_false fun e => le (by injection e with e; simp [lds] at e; omega)) ?_
            have z := z0 H1 s1
            rw [items_len ks ds le] at z
            exact z
      | _ => exact if_yes rfl (k H1 s1)
  | _ => exact if_yes rfl (if_yes rfl (k H (Same.refl H)))
end
end K53
namespace K53
open PySem PySem.Spec PyProof.Rows L2
section
variable {P : Program} {w : World} {K : PySem.W.Frag} {mg : Str → Option Value} {base : Heap}
theorem deeds_all (ds : List Dt) : ds.all deedD = ((List.range ds.length).map fun i => deedD (ds.getD i .non)).all id := by
  have e := congrArg (List.map deedD) (PyProof.Rows.range_getD ds .non)
  rw [List.map_map] at e
  have : ((List.range ds.length).map fun i => deedD (ds.getD i .non)) = ds.map deedD := e
  rw [this, List.all_map]
  rfl
theorem ok_are_deeds (F : Has K mg "_are_deeds" s_are_deeds) (T : Txt K mg) (F_is_deed : FnQ P w K mg base CX0 6 "is_deed" ["value"] (spChk K deedD)) : FnQ P w K mg base CX0 7 "_are_deeds" ["value"] (spChk K deedsD) := by
  refine F.q sc_are_deeds (fun _ _ _ _ _ _ us hl => match us, hl with | [_], _ => rfl) (fun vs H Q E h => by obtain ⟨v, d, rfl, _⟩ := h; rfl) (fun cdv A outer s H vs Q E hr h => ?_)
  obtain ⟨v, d, rfl, hd, k⟩ := h
  have gI : mg "isinstance" = none := T.fr _ (by simp [frees])
  have gL : mg "len" = none := T.fr _ (by simp [frees])
  refine ⟨_, PSs.nox (pss_one (ps_ret (pe_and (pe_callB call_isi (by rfl) gI boot_isinstance (pa_cons (pv 0) (pa_cons (pe_bltn (v := .ty "tuple") (by rfl) (T.fr "tuple" (by simp [frees])) PyProof.Rows.boot_tuple rfl) pa_nil))) (pe_and (pe_cmpR op_le (pe_callB call_len_seq (by rfl) gL boot_len (pa_cons (pv 0) pa_nil)) (C8.pe_gc (by rfl) T.c_MOST_DEEDS) (by first | exact nomark _ | rfl)) (pe_one (pe_callB (cr_all rfl) (by rfl) (T.fr "all" (by simp [frees])) boot_all (pa_cons (pe_lc (own := [("deed", 1)]) (tt := tYes) rfl sc_are_deeds.nd (pi_tup (pv 0)) (blkOk_by (N := N_are_deeds) (sc := defScope s_are_deeds) (by decide +kernel)) (fun _ _ _ _ _ => (pg_name (i := 1) sc_are_deeds.nd rfl (by first | exact .inl rfl | exact .inr rfl))) (fun _ _ _ _ _ => pts_nil) (fun _ _ _ _ _ => (pe_f F_is_deed hr pass0 (pa_cons (pv 1) pa_nil)))) pa_nil))))))), ?_⟩
  refine ⟨_, rfl, _, _, _, _, _, rfl, .ty _, (hd).ty T.pk, T.pk.kit _ 3 (kd_lt _) (by decide), _, rfl, ?_⟩
  cases d with
  | tup ds =>
    obtain ⟨a, xs, rfl, hx, ha, hl⟩ := tup_len hd
    refine if_yes rfl ⟨_, rfl, a, _, rfl, .inr hx, _, _, rfl, rfl, _, rfl, ?_⟩
    by_cases c : ds.length ≤ 8
    · refine if_yes (decide_eq_true (by rw [hl]; omega)) ?_
      refine ⟨_, rfl, a, rfl, ⟨_, hx⟩, comp_val walk_tup (f := fun i => .bl (deedD (ds.getD i .non))) ?_ (fun H' s => s.sqT hx) (fun i H x H' y b o e => by rw [y.1]; exact e) ?_ ?_⟩
      · exact small1000 (by omega)
      · rintro i v H1 H2 R hi s1 ⟨rfl, ex⟩ r
        obtain ⟨d, ed, hdd⟩ := ha.get ex
        refine ⟨rfl, _, rfl, v, d, rfl, hdd.same s1, fun H' s => ?_⟩
        have z := r H' s
        simp only [List.getD_eq_getElem?_getD, ed, Option.getD_some] at z
        exact z
      · intro q H2 s2 n2 l2
        have em : ((List.range xs.length).map fun i => V.bl (deedD (ds.getD i .non))) = ((List.range ds.length).map fun i => deedD (ds.getD i .non)).map V.bl := by
          rw [List.map_map, hl]
          rfl
        rw [em] at l2
        refine ⟨q, _, rfl, SqL.of l2, ?_⟩
        have z := k H2 s2
        simp only [deedsD, decide_eq_true c, Bool.true_and] at z
        rw [deeds_all] at z
        exact z
    · refine if_no (decide_eq_false (by rw [hl]; omega)) ?_
      have z := k H (Same.refl H)
      simp only [deedsD, decide_eq_false c, Bool.false_and] at z
      exact z
  | _ => exact if_no rfl (k H (Same.refl H))
theorem row_len : ∀ ds : List Dt, ds.length ≠ 4 → rowD (.tup ds) = false
  | [], _ => rfl
  | [_], _ => rfl
  | [_, _], _ => rfl
  | [_, _, _], _ => rfl
  | [_, _, _, _], h => absurd rfl h
  | _ :: _ :: _ :: _ :: _ :: _, _ => rfl
theorem ok_is_row (F : Has K mg "_is_row" s_is_row) (T : Txt K mg) (F_is_word : FnQ P w K mg base CX0 1 "is_word" ["value"] (spChk K isWord)) (F_is_between : FnQ P w K mg base CX0 2 "is_between" ["value", "low", "high"] (spBtw K))
    (F_are_deeds : FnQ P w K mg base CX0 7 "_are_deeds" ["value"] (spChk K deedsD)) : FnQ P w K mg base CX0 8 "_is_row" ["value"] (spChk K rowD) := by
  refine F.q sc_is_row (fun _ _ _ _ _ _ us hl => match us, hl with | [_], _ => rfl) (fun vs H Q E h => by obtain ⟨v, d, rfl, _⟩ := h; rfl) (fun cdv A outer s H vs Q E hr h => ?_)
  obtain ⟨v, d, rfl, hd, k⟩ := h
  have gI : mg "isinstance" = none := T.fr _ (by simp [frees])
  have gL : mg "len" = none := T.fr _ (by simp [frees])
  refine ⟨_, PSs.nox (pss_cons (ps_if (pw_or (pt_not (pt_val (pe_callB call_isi (by rfl) gI boot_isinstance (pa_cons (pv 0) (pa_cons (pe_bltn (v := .ty "tuple") (by rfl) (T.fr "tuple" (by simp [frees])) PyProof.Rows.boot_tuple rfl) pa_nil))))) (pw_or1 (pt_cmpR op_ne (pe_callB call_len_seq (by rfl) gL boot_len (pa_cons (pv 0) pa_nil)) pe_int (by first | exact nomark _ | rfl)))).pt
  (pss_one (ps_ret pe_bl))
  pss_nil)
  (pss_cons (ps_asg (pv 0) (pg_tup rfl (pgs_cons (pg_name (i := 1) sc_is_row.nd rfl (by first | exact .inl rfl | exact .inr rfl)) (pgs_cons (pg_name (i := 2) sc_is_row.nd rfl (by first | exact .inl rfl | exact .inr rfl)) (pgs_cons (pg_name (i := 3) sc_is_row.nd rfl (by first | exact .inl rfl | exact .inr rfl)) (pgs_cons (pg_name (i := 4) sc_is_row.nd rfl (by first | exact .inl rfl | exact .inr rfl)) pgs_nil))))))
  (pss_one (ps_ret (pe_and (pe_f F_is_word hr pass0 (pa_cons (pv 1) pa_nil)) (pe_and (pe_f F_is_word hr pass0 (pa_cons (pv 2) pa_nil)) (pe_and (pe_f F_is_between hr pass0 (pa_cons (pv 3) (pa_cons pe_int (pa_cons (C8.pe_gc (by rfl) T.c_MOST_WORK) pa_nil)))) (pe_one (pe_f F_are_deeds hr pass0 (pa_cons (pv 4) pa_nil)))))))))), ?_⟩
  refine ⟨_, rfl, _, _, _, _, _, rfl, .ty _, (hd).ty T.pk, T.pk.kit _ 3 (kd_lt _) (by decide), _, rfl, ?_⟩
  cases d with
  | tup ds =>
    obtain ⟨a, xs, rfl, hx, ha, hl⟩ := tup_len hd
    refine if_no rfl ⟨_, rfl, a, _, rfl, .inr hx, rfl, _, rfl, ?_⟩
    by_cases l4 : ds.length = 4
    case neg =>
      have z := k H (Same.refl H)
      rw [row_len ds l4] at z
      exact if_yes (by rw [hl]; simp; omega) z
    match ds, hl, ha, l4 with
    | [d1, d2, d3, d4], hl, ha, _ =>
      obtain ⟨v1, v2, v3, v4, rfl, h1, h2, h3, h4⟩ := ha.four
      refine if_no rfl ?_
      refine ⟨_, rfl, a, _, rfl, hx, rfl, _, _, rfl, _, _, rfl, _, _, rfl, _, _, rfl, rfl, ?_⟩
      refine ⟨_, rfl, v1, d1, rfl, h1, fun H1 s1 => ⟨_, rfl, ?_⟩⟩
      have k1 : ∀ H', Same H1 H' → Q (.bl (rowD (.tup [d1, d2, d3, d4]))) H' := fun H' s => k H' (s1.trans s)
      cases c1 : isWord d1 with
      | false =>
        have z := k1 H1 (Same.refl H1)
        simp only [rowD, c1, Bool.false_and] at z
        exact if_no rfl z
      | true =>
        refine if_yes rfl ⟨_, rfl, v2, d2, rfl, h2.same s1, fun H2 s2 => ⟨_, rfl, ?_⟩⟩
        cases c2 : isWord d2 with
        | false =>
          have z := k1 H2 s2
          simp only [rowD, c1, c2, Bool.and_false, Bool.false_and] at z
          exact if_no rfl z
        | true =>
          refine if_yes rfl ⟨_, rfl, v3, d3, _, _, rfl, h3.same (s1.trans s2), fun H3 s3 => ⟨_, rfl, ?_⟩⟩
          cases c3 : isBtw 1 1000 d3 with
          | false =>
            have z := k1 H3 (s2.trans s3)
            simp only [rowD, c1, c2, c3, Bool.and_false, Bool.false_and] at z
            exact if_no rfl z
          | true =>
            refine if_yes rfl ⟨_, rfl, v4, d4, rfl, h4.same (s1.trans (s2.trans s3)), fun H4 s4 => ?_⟩
            have z := k1 H4 (s2.trans (s3.trans s4))
            simp only [rowD, c1, c2, c3, Bool.true_and] at z
            exact z
  | _ => exact if_yes rfl (k H (Same.refl H))
end
end K53
/-! enumerate of a tuple -/
namespace L2
open PySem PySem.Spec PyProof.Rows
abbrev tIt (a : Addr) : Obj := { cls := .type "tuple_iterator", data := .fields #[.ref a, .int 0 0] }
abbrev eIt (p : Addr) : Obj := { cls := .type "enumerate", data := .fields #[.none, .bool false, .ref p, rawInt 0, .none, .none] }
set_option maxHeartbeats 2000000 in
theorem enumTup_new (a : Addr) (ts : Array Value) :
    Meets (Builtin.«enumerate.__new__» ⟨[.type "enumerate", .ref a], []⟩) (fun _ R s => s.heap.IsTuple a ts ∧ R (.ok (.ret (.ref (s.heap.push (tIt a)).objs.size))) { s with heap := (s.heap.push (tIt a)).push (eIt s.heap.objs.size) }) :=
  .of_wp fun prog w A R s h => by
    obtain ⟨hp, g, dr, tk, os⟩ := s
    obtain ⟨ht, h⟩ := h
    have isEnum := PySem.sub_enumerate
    have begun : ∀ {A2 : Around} {E : Value → Shared → Prop} {Q : Value → Shared → Prop}, Q (.ref hp.objs.size) ⟨hp.push (tIt a), g, dr, tk, os⟩ → wpAny (model prog w) A2 (pyIter (.ref a)) Q E ⟨hp, g, dr, tk, os⟩ :=
      fun q => (begins_tuple a ts).iter prog w _ _ ⟨hp, g, dr, tk, os⟩ _ ht q
    wp_walk using begun
    refine wpAny_stack_any fun _ => wpAny_pure ?_
    split
    · rename_i cc _ _ _ _ _
      cases (cc == Value.type "enumerate") <;> (wp_walk using begun; exact ⟨_, rfl, h⟩)
    · wp_walk using begun
      exact ⟨_, rfl, h⟩
section
variable {prog : Program} {w : World} {A : Around} {E : Value → Shared → Prop} {s : Shared}
theorem enumTup_call {a : Addr} {ts : Array Value} {Q : Value → Shared → Prop} (ht : s.heap.IsTuple a ts)
    (h : ∀ h2, IsEnum h2 (s.heap.objs.size + 1) s.heap.objs.size 0 .none → h2.IsTupleIter s.heap.objs.size a 0 → (∀ b o, s.heap.get? b = some o → h2.get? b = some o) → Q (.ref (s.heap.objs.size + 1)) { s with heap := h2 }) :
    wpAny (model prog w) A (call (.type "enumerate") [.ref a]) Q E s := by
  refine callType_new F.called_enumerate (by decide) (F.typeCall_enumerate_1 _) (F.newCall_enumerate_1 _) (fun ob => F.args_object_init_2 ob _) F.entry_enumerate_new (enumTup_new a ts) ⟨ht, ?_⟩
  have sz : (s.heap.push (tIt a)).objs.size = s.heap.objs.size + 1 := Heap.size_push ..
  show _ ∧ _
  rw [sz]
  have top : ((s.heap.push (tIt a)).push (eIt s.heap.objs.size)).get? (s.heap.objs.size + 1) = some (eIt s.heap.objs.size) := by
    rw [← sz]
    exact Heap.get?_push_size _ rfl
  exact ⟨⟨_, top, rfl⟩, h _ top ⟨_, Heap.get?_push_of_some _ (Heap.get?_push_size _ rfl), rfl, rfl⟩ fun b o e => Heap.get?_push_of_some _ (Heap.get?_push_of_some _ e)⟩
end
/-- the places and the items of the tuple at a, in new pairs -/
def IteT (K : PySem.W.Frag) (a : Addr) : It where
  go := fun i H => ∃ us : List V, SqT K H a us ∧ i < us.length
  yld := fun i H v H' => ∃ T x, v = .ref T ∧ H T = none ∧ H' = upd H T (.tup [.int (i : Nat), x]) ∧ ∀ us, SqT K H a us → us[i]? = some x
  stop := fun i H => ∃ us : List V, SqT K H a us ∧ i = us.length
theorem turnET {P : Program} {w : World} {K : PySem.W.Frag} {elts : List Expr} {kk : Nat} {tpos : Pos} {a e it : Addr} (ne : e ≠ it) (na : a ≠ it) (nea : e ≠ a) :
    Turn P w K (.Tuple elts kk tpos) (IteT K a) [e, it] e (fun i h => (∃ old, IsEnum h e it ((i : Nat) : Int) old) ∧ h.IsTupleIter it a i) where
  mem := by simp
  obj := by
    rintro i h ⟨⟨old, g1⟩, ⟨o2, e2, _, d2⟩⟩ c hc
    simp only [List.mem_cons, List.not_mem_nil, or_false] at hc
    rcases hc with rfl | rfl
    · exact ⟨_, g1, by rintro _ ⟨⟩⟩
    · exact ⟨o2, e2, by rintro _ j; rw [d2] at j; cases j⟩
  keep := by
    rintro i h h2 ⟨⟨old, g1⟩, g2⟩ kp
    exact ⟨⟨old, kp _ (by simp) _ g1⟩, g2.at (kp it (by simp))⟩
  item := by
    rintro X rfl rfl rfl calm i pins s σ H E I apart ⟨⟨old, g1⟩, g2⟩ ⟨us, hu, lu⟩
    obtain ⟨ts, rt, pt, _⟩ := I.tuple hu
    have free := I.ok.hd calm
    have el : e < s.heap.objs.size := Heap.lt_size g1
    obtain ⟨x, hx⟩ : ∃ x, us[i]? = some x := ⟨us[i], by simp [lu]⟩
    have len1 : ts.toArray.size = us.length := by simpa using rt.length.symm
    refine wpAny_pyNext_enum_itemD (Draws.tuple (A := X.A.in1) free it a na ts.toArray) g1 (i := i) ⟨g2, pt⟩ (by omega) ne (by simp [ne, nea]) ?_
    rintro u h1 tk eu j1 ⟨j2, _⟩ j3 _ kp
    obtain ⟨u2, gu, ru⟩ := rt.get hx
    have qu : u2 = u := by simpa [gu] using eu
    subst qu
    refine ⟨_, rfl, wpAny_letOwnedTupleGo_enum (s := { s with heap := h1, toks := tk + 1 }) j1 fun h2 j4 sb => ?_⟩
    have at_new : h2.get? s.heap.objs.size = some { cls := .type "tuple", data := .seq #[.int i tk, u2] } := (sb.2 _ (Nat.ne_of_gt el)).trans j3
    have fresh := I.hok.fresh (Nat.le_refl s.heap.objs.size)
    have J : Inv X pins σ (upd H s.heap.objs.size (.tup [.int (i : Nat), x])) { s with heap := h2, toks := tk + 1 } := by
      refine I.turnedNew (ch := [e, it]) (fun c o hc q => ?_) apart (Nat.le_refl _) ⟨(by show 2 ≤ sizeLine; decide), [.int i tk, u2], .cons ⟨tk, rfl⟩ (.cons ru .nil), ⟨_, at_new, rfl, _, rfl⟩⟩
      simp only [List.mem_cons, List.not_mem_nil, or_false, not_or] at hc
      exact (sb.2 c hc.1).trans (kp c o hc.1 hc.2 q)
    refine ⟨.ref s.heap.objs.size, _, J, rfl, ⟨_, x, rfl, fresh, rfl, fun l hl => by rw [I.tuple_inj hl hu]; exact hx⟩, ⟨⟨_, by simpa using j4⟩, j2.at fun o q => (sb.2 _ ne.symm).trans q⟩, fun c hc => ?_⟩
    have lt : c < s.heap.objs.size := by
      simp only [List.mem_cons, List.not_mem_nil, or_false] at hc
      rcases hc with rfl | rfl
      · exact el
      · obtain ⟨_, q, _⟩ := g2; exact Heap.lt_size q
    rw [upd_ne (Nat.ne_of_lt lt)]
    exact (apart c hc).1
  done := by
    rintro X rfl rfl rfl calm i pins s σ H E I apart ⟨⟨old, g1⟩, g2⟩ ⟨us, hu, fin⟩
    obtain ⟨ts, rt, pt, _⟩ := I.tuple hu
    have free := I.ok.hd calm
    have len1 : ts.toArray.size = us.length := by simpa using rt.length.symm
    have at_end : i = ts.toArray.size := by omega
    refine wpAny_pyNext_enum_endD (Draws.tuple (A := X.A.in1) free it a na ts.toArray) g1 ⟨by rw [← at_end]; exact g2, pt⟩ fun h1 kp => ⟨rfl, ?_⟩
    refine I.turnedL (t' := s.toks) (ch := [e, it]) (fun c o hc q => ?_) apart
    simp only [List.mem_cons, List.not_mem_nil, or_false, not_or] at hc
    exact kp c o hc.2 q
  self := fun A i s Q E ⟨⟨_, g1⟩, _⟩ h => wpAny_pyIter_enum g1 h
def iEnumT (K : PySem.W.Frag) (ta : TA) : TI := fun σ H R => ta σ H fun vs H1 => ∃ a us, vs = [.ref a] ∧ SqT K H1 a us ∧ R (IteT K a) H1
theorem pi_enumT {X : Cx} {e : Expr} {ta : TA} {p pos tpos : Pos} {elts : List Expr} {kk : Nat} (hg : Gl X "enumerate") (hm : X.mg "enumerate" = none) (ha : PA X [e] ta) (hs : starEach [e] X.env = [(false, eval e X.env)] := by rfl) :
    PI X (.Tuple elts kk tpos) (.Call (.Name "enumerate" p) [e] [] pos) (iEnumT X.K ta) := by
  refine ⟨fun pins s σ H R I h => Call_ (ld_blt I hg hm boot_enumerate (PyProof.Rows.callWith_type1 (thn (ha.run pos pins s σ H _ I h) ?_) hs rfl))⟩
  rintro us s1 ⟨vs, H1, I1, r1, a, xs, rfl, hu, q⟩
  obtain ⟨u1, rfl, r2⟩ := vals1 r1
  cases (show u1 = Value.ref a from r2)
  obtain ⟨ts, rt, pt, _⟩ := I1.tuple hu
  have la : a < s1.heap.objs.size := by obtain ⟨_, z, _⟩ := id pt; exact Heap.lt_size z
  refine enumTup_call pt fun h2 g1 g2 kp => wpAny_pyIter_enum g1 ?_
  refine ⟨_, _, _, _, H1, rfl, I1.kept (t' := s1.toks) kp, turnET (Nat.succ_ne_self _) (Nat.ne_of_lt la) (Nat.ne_of_gt (Nat.lt_succ_of_lt la)), ⟨⟨_, g1⟩, g2⟩, fun c hc => ?_, q⟩
  have ge : s1.heap.objs.size ≤ c := by
    simp only [List.mem_cons, List.not_mem_nil, or_false] at hc
    rcases hc with rfl | rfl
    · exact Nat.le_add_right _ 1
    · exact Nat.le_refl _
  exact I1.fpOk ge (I1.hok.fresh ge)
theorem walk_enumT {K : PySem.W.Frag} {a : Addr} {us : List V} : Walk (IteT K a) us.length (fun H => SqT K H a us) (YPair (fun i => some (.int (i : Nat))) (fun i => us[i]?)) := by
  refine ⟨fun i H hi q => ⟨us, q, hi⟩, fun H q => ⟨us, q, rfl⟩, fun i H v H2 hi q y => ?_⟩
  obtain ⟨T, x, e1, e2, e3, e4⟩ := y
  exact ⟨T, .int (i : Nat), x, e1, e2, e3, rfl, e4 us q⟩
end L2
/-! raise C(e): an own class whose __init__ stores its one argument -/
namespace L2
open PySem PySem.Spec PyProof.Rows
section
variable {X : Cx} {C fI : Addr} {f : Str} {B newId initId : String} {bmB : List Value}
/-- raise C(e): the error's own dict holds the field -/
def tRx (f : Str) (C : Addr) (te : TE) : St → Hp → XK → Prop := fun σ H Q => te σ H fun v H1 => ∀ d H', Same H1 H' → H1 d = none → H' d = some (.xd [(f, v)]) → Q (.ref C) (some d) H'
theorem pmk_xc {x : Str} {a : Expr} {te : TE} {p pos : Pos} {k : Nat} (FB : ExcBaseFacts B newId initId bmB) (SF : StoreFacts B bmB "object.__setattr__" "object") (T : XCl X.K C newId bmB) (J : XIn X.K C fI f) (N : FName f) (hty : PySem.W.typeIn X.K (.ref C) = some (.type "type"))
    (hr : Room k X.A) (hk : 1 ≤ k) (hm : X.mg x = some (.ref C)) (he : PE X a te) (hg : Gl X x := by rfl) (hdb : (x == ("__debug__" : Str)) = false := by decide)
    (hst : starEach (a :: []) X.env = (false, eval a X.env) :: starEach [] X.env := by rfl) (hpl : (backTo pos (starEach [] X.env)).any (·.1) = false := by rfl) : PMk X (.Call (.Name x p) [a] [] pos) (tRx f C te) := by
  intro pins s σ H Q I h
  refine wpAny_Call_Name_kw (ld_glob I hg hm ?_ hdb)
  have one : PA X [a] (fun σ H Q => te σ H fun v H1 => Q [v] H1) := pa_cons he pa_nil hst
  refine PySem.W.callWith_K (h₀ := X.base) I.ok.mod.kin T.kp (thn (one.run pos pins s σ H (fun vs H1 => ∃ v, vs = [v] ∧ ∀ d H', Same H1 H' → H1 d = none → H' d = some (.xd [(f, v)]) → Q (.ref C) (some d) H') I ?_) fun us s1 hh => ?_) hst hpl
  · have same : (fun (v : V) (H1 : Hp) => ∃ u, [v] = [u] ∧ ∀ d H', Same H1 H' → H1 d = none → H' d = some (.xd [(f, u)]) → Q (.ref C) (some d) H') = fun v H1 => ∀ d H', Same H1 H' → H1 d = none → H' d = some (.xd [(f, v)]) → Q (.ref C) (some d) H' := by
      funext v H1
      simp
    show te σ H _
    rw [same]
    exact h
  · obtain ⟨vs, H1, I1, r1, v, rfl, q1⟩ := hh
    obtain ⟨u, rfl, ru⟩ := vals1 r1
    refine ⟨I1.kIn, ?_⟩
    show wpAny _ _ (call (.ref C) [u]) _ _ _
    have lim := I1.nolimit
    have rm : X.A.depth + 1 < recursionLimit := by have := hr.dp; omega
    obtain ⟨hp, g, dr, tk, os⟩ := s1
    refine wpAny_call (xmade FB SF T J N (v := u) I1.kIn lim rm (.inl rfl) fun h2 tk2 e d M => ?_)
    show MkP X pins σ Q (.ref e) ⟨h2, g, dr, tk2, os⟩
    obtain ⟨tp, ox⟩ := M.obj
    obtain ⟨G2, g1, g2⟩ := restrict h2 fun b => decide (b ≠ e)
    have gk : ∀ b, b ≠ e → G2.get? b = h2.get? b := fun b hb => g1 b (decide_eq_true hb)
    have ge : G2.get? e = none := g2 e (by simp)
    have old : ∀ b o, hp.get? b = some o → G2.get? b = some o := fun b o q => (gk b (Nat.ne_of_lt (Nat.lt_of_lt_of_le (Heap.lt_size q) M.big))).trans (M.keep b o q)
    have nd : H1 d = none := I1.hok.fresh M.dbig
    have rel : ∀ z, RelO (([(f, v)] : List (Str × V)).lookup z) (if z = f then some u else none) := relO_put (fs := []) (mA := fun _ => none) ru fun z => True.intro
    have ob : ObjOk X.prog X.w (upd H1 d (.xd [(f, v)])) G2 d (.xd [(f, v)]) := ⟨_, M.ns.at (fun o q => (gk d M.ne.symm).trans q), rel⟩
    have I2 : Inv X pins σ (upd H1 d (.xd [(f, v)])) ⟨G2, g, dr, tk2, os⟩ := I1.laid (t' := tk2) old M.dbig ob
    refine ⟨e, _, _, ⟨G2, g, dr, tk2, os⟩, _, .ref C, some d, rfl, I2, fun b o q => ?_, ge, ox, ⟨rfl, rfl⟩, rfl, rfl, ?_, rfl, I1.bare, raises_own T.xb hty, q1 d _ (Same.new nd) nd upd_same⟩
    · by_cases hb : b = e
      · subst hb
        have q2 : G2.get? b = some o := q
        rw [ge] at q2; cases q2
      · exact (gk b hb).symm.trans q
    · rw [upd_ne M.ne]
      exact I1.hok.fresh M.big
end
section
variable {X : Cx} {CX : CXT} {k j : Nat} {ps : List Str} {sp : Sp} {E : St → XK} {x : Str} {p pos : Pos} {e : Expr} {es : List Expr} {t : TA}
/-- f(e, ..) of a def that may raise, where the raising is taken -/
theorem pe_fS (F : FnQ X.prog X.w X.K X.mg X.base CX j x ps sp) (hr : Room k X.A) (hx : ∀ σ, PassesAt CX X σ (E σ)) (ha : PA X (e :: es) t) (hg : Gl X x := by rfl) (hj : j ≤ k := by decide) (hdb : (x == ("__debug__" : Str)) = false := by decide)
    (hst : starEach (e :: es) X.env = (false, eval e X.env) :: starEach es X.env := by rfl) (hpl : (backTo pos (starEach es X.env)).any (·.1) = false := by rfl) : PE X (.Call (.Name x p) (e :: es) [] pos) (tCallS sp E t) := by
  obtain ⟨fd, G, b, _⟩ := F.fn
  exact pe_callS G (hr.mono hj) hg F.gl F.kp b hx ha hdb hst hpl
end
end L2
namespace K53
open PySem PySem.Spec PyProof.Rows L2
def veB : List Value := [.type "ValueError", .type "Exception", .type "BaseException", .type "object"]
/-- an own error with one field -/
structure Err (K : PySem.W.Frag) (mg : Str → Option Value) (x f : Str) : Prop where
  gl : mg x = some (.ref (He.ga K x))
  cl : XCl K (He.ga K x) "ValueError.__new__" veB
  xi : XIn K (He.ga K x) (He.ma K (He.ga K x) "__init__") f
  ty : PySem.W.typeIn K (.ref (He.ga K x)) = some (.type "type")
theorem fn_index : FName "index" := ⟨fun _ _ _ _ _ _ _ _ _ _ _ _ => rfl, fun _ _ _ _ _ _ _ _ _ _ _ _ => rfl, rfl, rfl, rfl, by decide, by decide +kernel⟩
theorem fn_setting : FName "setting" := ⟨fun _ _ _ _ _ _ _ _ _ _ _ _ => rfl, fun _ _ _ _ _ _ _ _ _ _ _ _ => rfl, rfl, rfl, rfl, by decide, by decide +kernel⟩
def optI : Option Nat → V
  | none => .non | some i => .int (i : Nat)
abbrev spWrong (K : PySem.W.Frag) : Sp := fun vs H Q E => ∃ v d, vs = [v] ∧ Dd K H v d ∧ (∀ rows, d = .tup rows → ∀ H', Same H H' → Q (optI (wrongAt [] 0 rows)) H') ∧
  ((∀ rows, d ≠ .tup rows) → ∀ e H', Same H H' → H e = none → H' e = some (.xd [("index", .non)]) → E (.ref (He.ga K "BadScript")) (some e) H')
section
variable {P : Program} {w : World} {K : PySem.W.Frag} {mg : Str → Option Value} {base : Heap}
/-- the keys met so far -/
structure Seen (kvs : List (List Key × V)) (seen : List (Str × Str)) (i : Nat) : Prop where
  has : ∀ m x : Str, (valV kvs [.inr m, .inr x]).isSome = decide ((m, x) ∈ seen)
  few : kvs.length ≤ i
theorem Seen.put {kvs : List (List Key × V)} {seen : List (Str × Str)} {i : Nat} (S : Seen kvs seen i) (m x : Str) (v : V) : Seen (putK kvs [.inr m, .inr x] v) ((m, x) :: seen) (i + 1) := by
  refine ⟨fun m2 x2 => ?_, ?_⟩
  · rw [valV_put]
    by_cases c : (m2, x2) = (m, x)
    · cases c
      rw [if_pos rfl]
      simp
    · have c2 : ¬ ([.inr m2, .inr x2] : List Key) = [.inr m, .inr x] := fun e => c (by
        injection e with e1 e2
        injection e2 with e2 _
        injection e1 with e1
        injection e2 with e2
        rw [e1, e2])
      rw [if_neg c2, S.has]
      simp [c]
  · have h := S.few
    unfold putK
    split
    · simpa using Nat.le_succ_of_le h
    · simp; omega
theorem row_form {r : Dt} (h : rowD r = true) : ∃ m x k ds, r = .tup [.str m, .str x, k, ds] ∧ wordS m = true ∧ wordS x = true := by
  unfold rowD at h
  split at h
  · rename_i m x k ds
    simp only [Bool.and_eq_true] at h
    obtain ⟨⟨⟨h1, h2⟩, _⟩, _⟩ := h
    cases m with
    | str m => cases x with
      | str x => exact ⟨m, x, k, ds, rfl, h1, h2⟩
      | _ => cases h2
    | _ => cases h1
  · cases h
theorem ok_wrong_row (F : Has K mg "wrong_row" s_wrong_row) (T : Txt K mg) (TE : Err K mg "BadScript" "index") (F_is_row : FnQ P w K mg base CX0 8 "_is_row" ["value"] (spChk K rowD)) : FnQ P w K mg base (L2.CX P w) 9 "wrong_row" ["script"] (spWrong K) := by
  refine F.q sc_wrong_row (fun _ _ _ _ _ _ us hl => match us, hl with | [_], _ => rfl) (fun vs H Q E h => by obtain ⟨v, d, rfl, _⟩ := h; rfl) (fun cdv A outer s H vs Q E hr h => ?_)
  obtain ⟨v, d, rfl, hd, k, ke⟩ := h
  have gI : mg "isinstance" = none := T.fr _ (by simp [frees])
  refine ⟨_, (pss_cons (ps_if (pt_not (pt_val (pe_callB call_isi (by rfl) gI boot_isinstance (pa_cons (pv 0) (pa_cons (pe_bltn (v := .ty "tuple") (by rfl) (T.fr "tuple" (by simp [frees])) PyProof.Rows.boot_tuple rfl) pa_nil)))))
  (pss_one (ps_raise rfl (takes_of rfl rfl rfl rfl) (pmk_xc PySem.F.excBase_ValueError PySem.F.store_ValueError TE.cl TE.xi fn_index TE.ty hr (by decide) TE.gl pe_non)))
  pss_nil)
  (PSs.nox (pss_cons (ps_set (i := 1) sc_wrong_row.nd rfl (by first | exact .inl rfl | exact .inr rfl) pe_dnewT)
  (pss_cons (ps_for PassesOwn.never rfl (pi_enumT (by rfl) (T.fr "enumerate" (by simp [frees])) (pa_cons (pv 0) pa_nil)) (pg_tup rfl (pgs_cons (pg_name (i := 2) sc_wrong_row.nd rfl (by first | exact .inl rfl | exact .inr rfl)) (pgs_cons (pg_name (i := 3) sc_wrong_row.nd rfl (by first | exact .inl rfl | exact .inr rfl)) pgs_nil)))
  (pss_cons (ps_if (pw_or (pt_cmpR op_eq (pv 2) (C8.pe_gc (by rfl) T.c_MOST_ROWS) (by first | exact nomark _ | rfl)) (pw_or (pt_not (pt_val (pe_f F_is_row hr pass0 (pa_cons (pv 3) pa_nil)))) (pw_or1 (pt_cmp (pc_din (hu_of hr) (pe_tupM (pa_cons (pe_ix ix_tup (pv 3) pe_int (fun _ _ => rfl)) (pa_cons (pe_ix ix_tup (pv 3) pe_int (fun _ _ => rfl)) pa_nil))) (pv 1)))))).pt
  (pss_one (ps_ret (pv 2)))
  pss_nil)
  (pss_one (ps_dput (hu_of hr) (pv 1) (pe_tupM (pa_cons (pe_ix ix_tup (pv 3) pe_int (fun _ _ => rfl)) (pa_cons (pe_ix ix_tup (pv 3) pe_int (fun _ _ => rfl)) pa_nil))) pe_bl rfl))))
  (pss_one (ps_ret pe_non)))))), ?_⟩
  refine ⟨_, rfl, _, _, _, _, _, rfl, .ty _, (hd).ty T.pk, T.pk.kit _ 3 (kd_lt _) (by decide), _, rfl, ?_⟩
  cases d with
  | tup rows =>
    refine if_no rfl ?_
    obtain ⟨a, xs, rfl, hx, ha, hl⟩ := tup_len hd
    intro D hD
    have s0 : Same H (upd H D (.dT [])) := Same.new hD
    refine ⟨_, rfl, a, xs, rfl, s0.sqT hx, for_it walk_enumT (fun i σ H' => (∃ vi vr, σ = [some (.ref a), some (.ref D), vi, vr]) ∧ Same H H' ∧ ∃ kvs seen, H' D = some (.dT kvs) ∧ Seen kvs seen i ∧ wrongAt seen i (rows.drop i) = wrongAt [] 0 rows ∧ i ≤ 30)
      ⟨⟨none, none, rfl⟩, s0, [], [], upd_same, ⟨fun _ _ => rfl, Nat.le_refl _⟩, rfl, by decide⟩ (fun i σ H' _ h => h.2.1.sqT hx) ?_ ?_⟩
    · rintro i v σ H1 H2 hi ⟨⟨vi, vr, rfl⟩, s1, kvs, seen, d1, S, W, i30⟩ ⟨tp, x0, y, rfl, nT, rfl, e1, e2⟩
      cases e1
      obtain ⟨r, er, hr1⟩ := ha.get (show xs[i]? = some y from e2)
      have li : i < rows.length := by rw [← hl]; exact hi
      have dr : rows.drop i = r :: rows.drop (i + 1) := by
        rw [List.drop_eq_getElem_cons li]
        congr 1
        rw [List.getElem?_eq_getElem li] at er
        exact Option.some.inj er
      rw [dr] at W
      have s2 : Same H (upd H1 tp (.tup [.int (i : Nat), y])) := s1.trans (Same.new nT)
      have d2 : (upd H1 tp (.tup [.int (i : Nat), y])) D = some (.dT kvs) := Same.new nT _ _ d1
      generalize hH2 : upd H1 tp (.tup [.int (i : Nat), y]) = H2 at s2 d2
      have at_tp : H2 tp = some (.tup [.int (i : Nat), y]) := by rw [← hH2]; exact upd_same
      refine ⟨tp, _, rfl, SqT.of at_tp, rfl, _, _, rfl, _, _, rfl, rfl, ?_⟩
      refine ⟨_, rfl, rfl, _, rfl, ?_⟩
      by_cases c1 : i = 30
      · subst c1
        refine if_yes (decide_eq_true rfl) (if_yes rfl ⟨_, rfl, ?_⟩)
        have z := k rows rfl H2 s2
        rw [← W] at z
        exact z
      · refine if_no (decide_eq_false fun e => c1 (by injection e with e; omega)) ?_
        refine ⟨_, rfl, y, r, rfl, hr1.same s2, fun H3 s3 => ⟨_, rfl, ?_⟩⟩
        have s03 := s2.trans s3
        cases c2 : rowD r with
        | false =>
          refine if_yes rfl (if_yes rfl ⟨_, rfl, ?_⟩)
          have z := k rows rfl H3 s03
          rw [← W] at z
          unfold wrongAt at z
          rw [if_neg c1, if_pos c2] at z
          exact z
        | true =>
          refine if_no rfl ?_
          obtain ⟨m, x, kk, ds, rfl, wm, wx⟩ := row_form c2
          obtain ⟨q, ys, rfl, hq, hy, _⟩ := tup_len hr1
          obtain ⟨v1, v2, v3, v4, rfl, h1, h2, _, _⟩ := hy.four
          cases h1
          cases h2
          have two : (2 : Nat) ≤ sizeLine := by decide
          refine ⟨_, rfl, q, _, _, .str m, rfl, rfl, s03.sqT hq, at_of (j := 0) rfl rfl, _, rfl, q, _, _, .str x, rfl, rfl, s03.sqT hq, at_of (j := 1) rfl rfl, two, fun t H4 s4 n4 l4 => ?_⟩
          have d4 : H4 D = some (.dT kvs) := s4 _ _ (s3 _ _ d2)
          refine ⟨_, rfl, D, _, rfl, DGet.t (k := [.inr m, .inr x]) d4 l4, _, rfl, ?_⟩
          have s04 := s03.trans s4
          rw [S.has]
          by_cases c3 : (m, x) ∈ seen
          · refine if_yes (decide_eq_true c3) ⟨_, rfl, ?_⟩
            have z := k rows rfl H4 s04
            rw [← W] at z
            unfold wrongAt at z
            rw [if_neg c1, if_neg (by rw [c2]; exact Bool.noConfusion), if_pos (show keyD (.tup [.str m, .str x, kk, ds]) ∈ seen from c3)] at z
            exact z
          · refine if_no (decide_eq_false c3) ?_
            refine ⟨_, rfl, _, rfl, q, _, _, .str m, rfl, rfl, s04.sqT hq, at_of (j := 0) rfl rfl, _, rfl, q, _, _, .str x, rfl, rfl, s04.sqT hq, at_of (j := 1) rfl rfl, two, fun t2 H5 s5 n5 l5 => ?_⟩
            have d5 := s5 _ _ d4
            have S2 := S.put m x (.bl true)
            refine ⟨D, _, rfl, DPut.t (k := [.inr m, .inr x]) d5 l5 (small1000 (by have := S.few; omega)), ⟨_, _, rfl⟩, fun b o e => ?_, _, (m, x) :: seen, upd_same, S2, ?_, by omega⟩
            · rw [upd_ne (ne_of_none e hD)]
              exact s5 _ _ (s04 _ _ e)
            · rw [← W]
              show _ = wrongAt seen i (_ :: _)
              conv => rhs; unfold wrongAt
              rw [if_neg c1, if_neg (by rw [c2]; exact Bool.noConfusion), if_neg (show ¬ keyD (.tup [.str m, .str x, kk, ds]) ∈ seen from c3)]
              rfl
    · rintro σ H' ⟨⟨vi, vr, rfl⟩, s1, kvs, seen, d1, S, W, i30⟩
      have z := k rows rfl H' s1
      rw [← W, hl, List.drop_length] at z
      exact z
  | _ => exact if_yes rfl (fun e H' s n x => ke (fun _ => by simp) e H' s n x)
end
end K53
namespace K53
open PySem PySem.Spec PyProof.Rows L2
section
variable {P : Program} {w : World} {K : PySem.W.Frag} {mg : Str → Option Value} {base : Heap}
abbrev s_check_settings : Stmt := (top 55)
def N_check_settings : List Str := ["checks", "setting", "is_right"]
theorem sc_check_settings : FnScope N_check_settings ["checks"] (defScope s_check_settings) := ⟨rfl, rfl, rfl, by decide +kernel, rfl, by decide +kernel, by decide +kernel⟩
abbrev s_is_deadline : Stmt := (top 54)
def N_is_deadline : List Str := ["value"]
theorem sc_is_deadline : FnScope N_is_deadline ["value"] (defScope s_is_deadline) := ⟨rfl, rfl, rfl, by decide +kernel, rfl, by decide +kernel, by decide +kernel⟩
abbrev s_WorkerPlan___init__ : Stmt := (inClass (top 51) 0)
def N_WorkerPlan___init__ : List Str := ["self", "name", "restart", "opening", "closing", "deadline", "refused", "script"]
theorem sc_WorkerPlan___init__ : FnScope N_WorkerPlan___init__ ["self", "name", "restart", "opening", "closing", "deadline", "refused", "script"] (defScope s_WorkerPlan___init__) := ⟨rfl, rfl, rfl, by decide +kernel, rfl, by decide +kernel, by decide +kernel⟩
theorem ok_is_script (F : Has K mg "is_script" s_is_script) (T : Txt K mg) (F_wrong_row : FnQ P w K mg base (L2.CX P w) 9 "wrong_row" ["script"] (spWrong K)) : FnQ P w K mg base CX0 10 "is_script" ["value"] (spChk K scriptD) := by
  refine F.q sc_is_script (fun _ _ _ _ _ _ us hl => match us, hl with | [_], _ => rfl) (fun vs H Q E h => by obtain ⟨v, d, rfl, _⟩ := h; rfl) (fun cdv A outer s H vs Q E hr h => ?_)
  obtain ⟨v, d, rfl, hd, k⟩ := h
  have gI : mg "isinstance" = none := T.fr _ (by simp [frees])
  refine ⟨_, PSs.nox (pss_one (ps_ret (pe_and (pe_callB call_isi (by rfl) gI boot_isinstance (pa_cons (pv 0) (pa_cons (pe_bltn (v := .ty "tuple") (by rfl) (T.fr "tuple" (by simp [frees])) PyProof.Rows.boot_tuple rfl) pa_nil))) (pe_one (pe_cmpR op_isN (pe_f F_wrong_row hr passL (pa_cons (pv 0) pa_nil)) pe_non (by first | exact nomark _ | rfl)))))), ?_⟩
  refine ⟨_, rfl, _, _, _, _, _, rfl, .ty _, (hd).ty T.pk, T.pk.kit _ 3 (kd_lt _) (by decide), _, rfl, ?_⟩
  cases d with
  | tup rows =>
    refine if_yes rfl ⟨_, rfl, v, _, rfl, hd, fun rows2 e H' s => ?_, fun n => absurd rfl (n rows)⟩
    cases e
    refine ⟨rfl, ?_⟩
    have z := k H' s
    have e : decide (optI (wrongAt [] 0 rows) = .non) = scriptD (.tup rows) := by
      unfold scriptD
      cases q : wrongAt [] 0 rows <;> simp [optI, q]
    rw [e]
    exact z
  | _ => exact if_no rfl (k H (Same.refl H))
def deadD : Dt → Bool
  | .non => true | d => isBtw 0 1000000000 d
theorem ok_is_deadline (F : Has K mg "_is_deadline" s_is_deadline) (T : Txt K mg) (F_is_between : FnQ P w K mg base CX0 2 "is_between" ["value", "low", "high"] (spBtw K)) : FnQ P w K mg base CX0 3 "_is_deadline" ["value"] (spChk K deadD) := by
  refine F.q sc_is_deadline (fun _ _ _ _ _ _ us hl => match us, hl with | [_], _ => rfl) (fun vs H Q E h => by obtain ⟨v, d, rfl, _⟩ := h; rfl) (fun cdv A outer s H vs Q E hr h => ?_)
  obtain ⟨v, d, rfl, hd, k⟩ := h
  refine ⟨_, PSs.nox (pss_one (ps_ret (pe_or (pe_cmpR op_isN (pv 0) pe_non (by first | exact nomark _ | rfl)) (pe_one (pe_f F_is_between hr pass0 (pa_cons (pv 0) (pa_cons pe_int (pa_cons (C8.pe_gc (by rfl) T.c_MOST_TICKS) pa_nil)))))))), ?_⟩
  refine ⟨_, rfl, rfl, _, rfl, ?_⟩
  cases hd with
  | non => exact if_yes rfl (k H (Same.refl H))
  | bl b => exact if_no rfl ⟨_, rfl, _, .bl b, _, _, rfl, .bl b, k⟩
  | int i => exact if_no rfl ⟨_, rfl, _, .int i, _, _, rfl, .int i, k⟩
  | str x h => exact if_no rfl ⟨_, rfl, _, .str x, _, _, rfl, .str x h, k⟩
  | lst h t => exact if_no rfl ⟨_, rfl, _, _, _, _, rfl, .lst h t, k⟩
  | tup h t => exact if_no rfl ⟨_, rfl, _, _, _, _, rfl, .tup h t, k⟩
  | dic h => exact if_no rfl ⟨_, rfl, _, .dic, _, _, rfl, .dic h, k⟩
  | wrk h l t o => exact if_no rfl ⟨_, rfl, _, _, _, _, rfl, .wrk h l t o, k⟩
  | sup h => exact if_no rfl ⟨_, rfl, _, .sup, _, _, rfl, .sup h, k⟩
/-- the first setting that is not right -/
def firstBad : List (Str × Bool) → Option Str
  | [] => none
  | (x, b) :: r => if b = true then firstBad r else some x
/-- pairs of a text and a truth -/
inductive Prs (K : PySem.W.Frag) (H : Hp) : List V → List (Str × Bool) → Prop
  | nil : Prs K H [] []
  | cons {t : Addr} {x : Str} {b : Bool} {vs : List V} {ps : List (Str × Bool)} : SqT K H t [.str x, .bl b] → Prs K H vs ps → Prs K H (.ref t :: vs) ((x, b) :: ps)
theorem Prs.same {H H' : Hp} (s : Same H H') {vs : List V} {ps : List (Str × Bool)} (h : Prs K H vs ps) : Prs K H' vs ps := by
  induction h with
  | nil => exact .nil
  | cons q _ ih => exact .cons (s.sqT q) ih
theorem Prs.get {H : Hp} {vs : List V} {ps : List (Str × Bool)} (h : Prs K H vs ps) : ∀ {i : Nat} {v : V}, vs[i]? = some v → ∃ t x b, v = .ref t ∧ ps[i]? = some (x, b) ∧ SqT K H t [.str x, .bl b] := by
  induction h with
  | nil => intro i v e; simp at e
  | cons q _ ih =>
    intro i v e
    cases i with
    | zero => simp at e; exact ⟨_, _, _, e.symm, rfl, q⟩
    | succ i => simpa using ih (by simpa using e)
theorem Prs.len {H : Hp} {vs : List V} {ps : List (Str × Bool)} (h : Prs K H vs ps) : vs.length = ps.length := by
  induction h with
  | nil => rfl
  | cons _ _ ih => simp [ih]
abbrev spSettings (K : PySem.W.Frag) : Sp := fun vs H Q E => ∃ p xs ps, vs = [.ref p] ∧ SqT K H p xs ∧ Prs K H xs ps ∧ (firstBad ps = none → ∀ H', Same H H' → Q .non H') ∧
  (∀ x, firstBad ps = some x → ∀ e H', Same H H' → H e = none → H' e = some (.xd [("setting", .str x)]) → E (.ref (He.ga K "BadSetting")) (some e) H')
theorem ok_check_settings (F : Has K mg "_check_settings" s_check_settings) (T : Txt K mg) (TE : Err K mg "BadSetting" "setting") : FnQ P w K mg base (L2.CX P w) 2 "_check_settings" ["checks"] (spSettings K) := by
  refine F.q sc_check_settings (fun _ _ _ _ _ _ us hl => match us, hl with | [_], _ => rfl) (fun vs H Q E h => by obtain ⟨p, xs, ps, rfl, _⟩ := h; rfl) (fun cdv A outer s H vs Q E hr h => ?_)
  obtain ⟨p, xs, ps, rfl, hp, hx, k, ke⟩ := h
  refine ⟨_, (pss_one (ps_for (passes_of rfl) rfl (pi_tup (pv 0)) (pg_tup rfl (pgs_cons (pg_name (i := 1) sc_check_settings.nd rfl (by first | exact .inl rfl | exact .inr rfl)) (pgs_cons (pg_name (i := 2) sc_check_settings.nd rfl (by first | exact .inl rfl | exact .inr rfl)) pgs_nil)))
  (pss_one (ps_if (pt_not (pt_val (pv 2)))
  (pss_one (ps_raise rfl (takes_of rfl rfl rfl rfl) (pmk_xc PySem.F.excBase_ValueError PySem.F.store_ValueError TE.cl TE.xi fn_setting TE.ty hr (by decide) TE.gl (pv 1))))
  pss_nil)))), ?_⟩
  refine ⟨_, rfl, p, rfl, ⟨_, hp⟩, for_it walk_tup (fun i σ H' => (∃ v1 v2, σ = [some (.ref p), v1, v2]) ∧ Same H H' ∧ firstBad (ps.drop i) = firstBad ps) ⟨⟨none, none, rfl⟩, Same.refl H, rfl⟩ (fun i σ H' _ h => h.2.1.sqT hp) ?_ ?_⟩
  · rintro i v σ H1 H2 hi ⟨⟨v1, v2, rfl⟩, s1, fb⟩ ⟨rfl, ex⟩
    obtain ⟨t, x, b, rfl, ep, ht⟩ := hx.get ex
    have li : i < ps.length := by rw [← hx.len]; exact hi
    have dr : ps.drop i = (x, b) :: ps.drop (i + 1) := by
      rw [List.drop_eq_getElem_cons li]
      congr 1
      rw [List.getElem?_eq_getElem li] at ep
      exact Option.some.inj ep
    rw [dr] at fb
    refine ⟨t, _, rfl, s1.sqT ht, rfl, _, _, rfl, _, _, rfl, rfl, _, rfl, _, rfl, ?_⟩
    cases b with
    | true =>
      refine if_no rfl ⟨⟨_, _, rfl⟩, s1, ?_⟩
      rw [← fb]
      rfl
    | false =>
      refine if_yes rfl ⟨_, rfl, fun e H' s n x2 => ke x ?_ e H' (s1.trans s) ?_ x2⟩
      · rw [← fb]
        rfl
      · cases q : H e with
        | none => rfl
        | some o => rw [s1 _ _ q] at n; cases n
  · rintro σ H' ⟨⟨v1, v2, rfl⟩, s1, fb⟩
    rw [hx.len, List.drop_length] at fb
    exact k fb.symm H' s1
def restarts : List Str := ["permanent", "transient", "temporary"]
def tickMax : Int := 1000000000
/-- what WorkerPlan asks of its seven settings -/
def wset (d1 d2 d3 d4 d5 d6 d7 : Dt) : List (Str × Bool) := [("name", isPlace d1), ("restart", isOne restarts d2), ("opening", isBtw 0 1000000000 d3), ("closing", isBtw 0 1000000000 d4), ("deadline", deadD d5), ("refused", isBtw 0 100 d6), ("script", scriptD d7)]
def wflds (v1 v2 v3 v4 v5 v6 v7 : V) : List (Str × V) := [("name", v1), ("restart", v2), ("opening", v3), ("closing", v4), ("deadline", v5), ("refused", v6), ("script", v7)]
abbrev wNames : List Str := ["name", "restart", "opening", "closing", "deadline", "refused", "script"]
abbrev spWInit (K : PySem.W.Frag) : Sp := fun vs H Q E => ∃ a dx v1 v2 v3 v4 v5 v6 v7 d1 d2 d3 d4 d5 d6 d7, vs = [.ref a, v1, v2, v3, v4, v5, v6, v7] ∧ H a = some (.ins (wkA K) dx []) ∧
  Dd K H v1 d1 ∧ Dd K H v2 d2 ∧ Dd K H v3 d3 ∧ Dd K H v4 d4 ∧ Dd K H v5 d5 ∧ Dd K H v6 d6 ∧ Dd K H v7 d7 ∧
  (firstBad (wset d1 d2 d3 d4 d5 d6 d7) = none → ∀ H', Same H H' → Q .non (upd H' a (.ins (wkA K) dx (wflds v1 v2 v3 v4 v5 v6 v7)))) ∧
  (∀ x, firstBad (wset d1 d2 d3 d4 d5 d6 d7) = some x → ∀ e H', Same H H' → H e = none → H' e = some (.xd [("setting", .str x)]) → E (.ref (He.ga K "BadSetting")) (some e) H')
/-- a method of a class, with its keyword-only defaults -/
structure HasM (K : PySem.W.Frag) (C m q : Str) (st : Stmt) (kws : List (Str × V)) : Prop where
  df : ∃ fd, FunD K m q (defArgs st) (defBody st) (defScope st) [] kws (He.ma K (He.ga K C) m) fd
/-- what is asked of the class WorkerPlan -/
structure Wk (K : PySem.W.Frag) (mg : Str → Option Value) : Prop where
  gl : mg "WorkerPlan" = some (.ref (wkA K))
  cl : Cls K (wkA K)
  na : ∀ f ∈ wNames, NoAttr K (wkA K) f
  mkr : Mk K (wkA K) (He.ma K (wkA K) "__init__")
theorem putF_le {f : Str} {v : V} : ∀ {fs : List (Str × V)} {n : Nat}, fs.length ≤ n → (putF f v fs).length ≤ n + 1
  | [], n, _ => by show 1 ≤ n + 1; omega
  | (g, x) :: r, n, h => by
    unfold putF
    split
    · exact Nat.le_succ_of_le h
    · have z : r.length ≤ n - 1 := by simp at h; omega
      have y := putF_le (f := f) (v := v) z
      simp only [List.length_cons] at h ⊢
      omega
theorem wflds_put (v1 v2 v3 v4 v5 v6 v7 : V) : putF "script" v7 (putF "refused" v6 (putF "deadline" v5 (putF "closing" v4 (putF "opening" v3 (putF "restart" v2 (putF "name" v1 [])))))) = wflds v1 v2 v3 v4 v5 v6 v7 := by
  have q01 : ¬ (("name" : Str) = "restart") := by decide +kernel
  have q02 : ¬ (("name" : Str) = "opening") := by decide +kernel
  have q03 : ¬ (("name" : Str) = "closing") := by decide +kernel
  have q04 : ¬ (("name" : Str) = "deadline") := by decide +kernel
  have q05 : ¬ (("name" : Str) = "refused") := by decide +kernel
  have q06 : ¬ (("name" : Str) = "script") := by decide +kernel
  have q12 : ¬ (("restart" : Str) = "opening") := by decide +kernel
  have q13 : ¬ (("restart" : Str) = "closing") := by decide +kernel
  have q14 : ¬ (("restart" : Str) = "deadline") := by decide +kernel
  have q15 : ¬ (("restart" : Str) = "refused") := by decide +kernel
  have q16 : ¬ (("restart" : Str) = "script") := by decide +kernel
  have q23 : ¬ (("opening" : Str) = "closing") := by decide +kernel
  have q24 : ¬ (("opening" : Str) = "deadline") := by decide +kernel
  have q25 : ¬ (("opening" : Str) = "refused") := by decide +kernel
  have q26 : ¬ (("opening" : Str) = "script") := by decide +kernel
  have q34 : ¬ (("closing" : Str) = "deadline") := by decide +kernel
  have q35 : ¬ (("closing" : Str) = "refused") := by decide +kernel
  have q36 : ¬ (("closing" : Str) = "script") := by decide +kernel
  have q45 : ¬ (("deadline" : Str) = "refused") := by decide +kernel
  have q46 : ¬ (("deadline" : Str) = "script") := by decide +kernel
  have q56 : ¬ (("refused" : Str) = "script") := by decide +kernel
  simp [putF, wflds, q01, q02, q03, q04, q05, q06, q12, q13, q14, q15, q16, q23, q24, q25, q26, q34, q35, q36, q45, q46, q56]
theorem ok_winit {kws : List (Str × V)} {fd : FuncData} (F : FunD K "__init__" "WorkerPlan.__init__" (defArgs s_WorkerPlan___init__) (defBody s_WorkerPlan___init__) (defScope s_WorkerPlan___init__) [] kws (He.ma K (wkA K) "__init__") fd) (T : Txt K mg) (W : Wk K mg)
    (F_check_settings : FnQ P w K mg base (L2.CX P w) 2 "_check_settings" ["checks"] (spSettings K)) (F_is_place_name : FnQ P w K mg base CX0 2 "is_place_name" ["value"] (spChk K isPlace)) (F_is_one_of : FnQ P w K mg base CX0 1 "is_one_of" ["value", "words"] (spOne K))
    (F_is_between : FnQ P w K mg base CX0 2 "is_between" ["value", "low", "high"] (spBtw K)) (F_is_deadline : FnQ P w K mg base CX0 3 "_is_deadline" ["value"] (spChk K deadD)) (F_is_script : FnQ P w K mg base CX0 10 "is_script" ["value"] (spChk K scriptD)) :
    FnOk P w K mg base (L2.CX P w) 11 (He.ma K (wkA K) "__init__") fd ["self", "name", "restart", "opening", "closing", "deadline", "refused", "script"] (spWInit K) := by
  refine F.ok sc_WorkerPlan___init__ (fun vs H Q E h => by obtain ⟨_, _, _, _, _, _, _, _, _, _, _, _, _, _, _, _, rfl, _⟩ := h; rfl) (fun cdv A outer s H vs Q E hr h => ?_)
  obtain ⟨a, dx, v1, v2, v3, v4, v5, v6, v7, d1, d2, d3, d4, d5, d6, d7, rfl, ha, h1, h2, h3, h4, h5, h6, h7, k, ke⟩ := h
  refine ⟨_, (pss_cons (ps_expr (pe_fS F_check_settings hr (fun σ => passAt (takes_of rfl rfl rfl rfl) σ) (pa_cons (pe_tupM (pa_cons (pe_tupM (pa_cons pe_str (pa_cons (pe_f F_is_place_name hr pass0 (pa_cons (pv 1) pa_nil)) pa_nil))) (pa_cons (pe_tupM (pa_cons pe_str (pa_cons (pe_f F_is_one_of hr pass0 (pa_cons (pv 2) (pa_cons (C8.pe_gc (by rfl) T.c_RESTARTS) pa_nil))) pa_nil))) (pa_cons (pe_tupM (pa_cons pe_str (pa_cons (pe_f F_is_between hr pass0 (pa_cons (pv 3) (pa_cons pe_int (pa_cons (C8.pe_gc (by rfl) T.c_MOST_TICKS) pa_nil)))) pa_nil))) (pa_cons (pe_tupM (pa_cons pe_str (pa_cons (pe_f F_is_between hr pass0 (pa_cons (pv 4) (pa_cons pe_int (pa_cons (C8.pe_gc (by rfl) T.c_MOST_TICKS) pa_nil)))) pa_nil))) (pa_cons (pe_tupM (pa_cons pe_str (pa_cons (pe_f F_is_deadline hr pass0 (pa_cons (pv 5) pa_nil)) pa_nil))) (pa_cons (pe_tupM (pa_cons pe_str (pa_cons (pe_f F_is_between hr pass0 (pa_cons (pv 6) (pa_cons pe_int (pa_cons (C8.pe_gc (by rfl) T.c_MOST_REFUSED) pa_nil)))) pa_nil))) (pa_cons (pe_tupM (pa_cons pe_str (pa_cons (pe_f F_is_script hr pass0 (pa_cons (pv 7) pa_nil)) pa_nil))) pa_nil)))))))) pa_nil)))
  (PSs.nox (pss_cons (ps_fld (pv 0) (pv 1) rfl)
  (pss_cons (ps_fld (pv 0) (pv 2) rfl)
  (pss_cons (ps_fld (pv 0) (pv 3) rfl)
  (pss_cons (ps_fld (pv 0) (pv 4) rfl)
  (pss_cons (ps_fld (pv 0) (pv 5) rfl)
  (pss_cons (ps_fld (pv 0) (pv 6) rfl)
  (pss_one (ps_fld (pv 0) (pv 7) rfl)))))))))), ?_⟩
  have two : (2 : Nat) ≤ sizeLine := by decide
  have seven : (7 : Nat) ≤ sizeLine := by decide
  have hw : ∀ H, SqT K H (He.ga K "RESTARTS") (restarts.map V.str) := T.tq ("RESTARTS", restarts) (by simp [cTups, restarts])
  refine ⟨_, rfl, v1, d1, rfl, h1, fun H1 s1 => ⟨two, fun t1 G1 r1 n1 l1 => ?_⟩⟩
  have S1 : Same H G1 := s1.trans r1
  refine ⟨_, rfl, v2, d2, _, restarts, rfl, h2.same S1, hw G1, fun H2 s2 => ⟨two, fun t2 G2 r2 n2 l2 => ?_⟩⟩
  have T2 : Same G1 G2 := s2.trans r2
  have S2 := S1.trans T2
  refine ⟨_, rfl, v3, d3, _, _, rfl, h3.same S2, fun H3 s3 => ⟨two, fun t3 G3 r3 n3 l3 => ?_⟩⟩
  have T3 : Same G2 G3 := s3.trans r3
  have S3 := S2.trans T3
  refine ⟨_, rfl, v4, d4, _, _, rfl, h4.same S3, fun H4 s4 => ⟨two, fun t4 G4 r4 n4 l4 => ?_⟩⟩
  have T4 : Same G3 G4 := s4.trans r4
  have S4 := S3.trans T4
  refine ⟨_, rfl, v5, d5, rfl, h5.same S4, fun H5 s5 => ⟨two, fun t5 G5 r5 n5 l5 => ?_⟩⟩
  have T5 : Same G4 G5 := s5.trans r5
  have S5 := S4.trans T5
  refine ⟨_, rfl, v6, d6, _, _, rfl, h6.same S5, fun H6 s6 => ⟨two, fun t6 G6 r6 n6 l6 => ?_⟩⟩
  have T6 : Same G5 G6 := s6.trans r6
  have S6 := S5.trans T6
  refine ⟨_, rfl, v7, d7, rfl, h7.same S6, fun H7 s7 => ⟨two, fun t7 G7 r7 n7 l7 => ?_⟩⟩
  have T7 : Same G6 G7 := s7.trans r7
  have S7 := S6.trans T7
  refine ⟨seven, fun p G8 r8 n8 l8 => ?_⟩
  have S8 : Same H G8 := S7.trans r8
  have m7 := r8 _ _ l7
  have m6 := r8 _ _ (T7 _ _ l6)
  have m5 := r8 _ _ (T7 _ _ (T6 _ _ l5))
  have m4 := r8 _ _ (T7 _ _ (T6 _ _ (T5 _ _ l4)))
  have m3 := r8 _ _ (T7 _ _ (T6 _ _ (T5 _ _ (T4 _ _ l3))))
  have m2 := r8 _ _ (T7 _ _ (T6 _ _ (T5 _ _ (T4 _ _ (T3 _ _ l2)))))
  have m1 := r8 _ _ (T7 _ _ (T6 _ _ (T5 _ _ (T4 _ _ (T3 _ _ (T2 _ _ l1))))))
  refine ⟨p, _, wset d1 d2 d3 d4 d5 d6 d7, rfl, SqT.of l8, .cons (SqT.of m1) (.cons (SqT.of m2) (.cons (SqT.of m3) (.cons (SqT.of m4) (.cons (SqT.of m5) (.cons (SqT.of m6) (.cons (SqT.of m7) .nil)))))), fun fb H9 s9 => ?_, fun x fb e H' s n q => ke x fb e H' (S8.trans s) ?_ q⟩
  · have S9 := S8.trans s9
    have a9 := S9 _ _ ha
    have na : ∀ {f : Str}, f ∈ wNames → NoAttr K (wkA K) f := fun h => W.na _ h
    refine ⟨_, rfl, _, rfl, a, wkA K, dx, _, rfl, a9, W.cl, na (by simp), Nat.lt_of_le_of_lt (Nat.zero_le 0) (by decide), ?_⟩
    refine ⟨_, rfl, _, rfl, a, wkA K, dx, _, rfl, upd_same, W.cl, na (by simp), Nat.lt_of_le_of_lt (putF_le (Nat.zero_le 0)) (by decide), ?_⟩
    refine ⟨_, rfl, _, rfl, a, wkA K, dx, _, rfl, upd_same, W.cl, na (by simp), Nat.lt_of_le_of_lt (putF_le (putF_le (Nat.zero_le 0))) (by decide), ?_⟩
    refine ⟨_, rfl, _, rfl, a, wkA K, dx, _, rfl, upd_same, W.cl, na (by simp), Nat.lt_of_le_of_lt (putF_le (putF_le (putF_le (Nat.zero_le 0)))) (by decide), ?_⟩
    refine ⟨_, rfl, _, rfl, a, wkA K, dx, _, rfl, upd_same, W.cl, na (by simp), Nat.lt_of_le_of_lt (putF_le (putF_le (putF_le (putF_le (Nat.zero_le 0))))) (by decide), ?_⟩
    refine ⟨_, rfl, _, rfl, a, wkA K, dx, _, rfl, upd_same, W.cl, na (by simp), Nat.lt_of_le_of_lt (putF_le (putF_le (putF_le (putF_le (putF_le (Nat.zero_le 0)))))) (by decide), ?_⟩
    refine ⟨_, rfl, _, rfl, a, wkA K, dx, _, rfl, upd_same, W.cl, na (by simp), Nat.lt_of_le_of_lt (putF_le (putF_le (putF_le (putF_le (putF_le (putF_le (Nat.zero_le 0))))))) (by decide), ?_⟩
    have z := k fb H9 S9
    simp only [upd_upd]
    show Q .non (upd H9 a (.ins (wkA K) dx (putF "script" v7 (putF "refused" v6 (putF "deadline" v5 (putF "closing" v4 (putF "opening" v3 (putF "restart" v2 (putF "name" v1 [])))))))))
    rw [wflds_put]
    exact z
  · cases q : H e with
    | none => rfl
    | some o => rw [S8 _ _ q] at n; cases n
end
end K53
namespace K53
open PySem PySem.Spec PyProof.Rows L2
section
variable {P : Program} {w : World} {K : PySem.W.Frag} {mg : Str → Option Value} {base : Heap}
/-- the defaults of WorkerPlan; dS: the address of the empty tuple among them -/
def wDef (dS : Addr) : List (Str × V) := [("restart", .str "permanent"), ("opening", .int 0), ("closing", .int 0), ("deadline", .non), ("refused", .int 0), ("script", .ref dS)]
abbrev wPs : List Str := ["self", "name", "restart", "opening", "closing", "deadline", "refused", "script"]
/-- WorkerPlan(name, script=..) -/
theorem wk_bindS {dS : Addr} {fd : FuncData} (F : FunD K "__init__" "WorkerPlan.__init__" (defArgs s_WorkerPlan___init__) (defBody s_WorkerPlan___init__) (defScope s_WorkerPlan___init__) [] (wDef dS) (He.ma K (wkA K) "__init__") fd) :
    ∃ mv : List Value, KBn K fd wPs 2 ["script"] (fun us ws => us ++ mv ++ ws) (fun vs zs => vs ++ [.str "permanent", .int 0, .int 0, .non, .int 0] ++ zs) := by
  refine F.kbinds0 2 ["script"] [("restart", .str "permanent"), ("opening", .int 0), ("closing", .int 0), ("deadline", .non), ("refused", .int 0)] (fun a b c => a ++ b ++ c) (by simp [wDef]) (by simp [wDef]) (fun r1 r2 r3 => (r1.append r2).append r3) ?_
  intro D doc pm an cdv ct us mv ws l1 l2 l3
  match us, mv, ws, l1, l2, l3 with
  | [_, _], [_, _, _, _, _], [_], _, _, _ => exact ⟨_, _, _, _, _, _, rfl, rfl, _, _, _, _, _, _, rfl, rfl, _, _, _, _, _, _, rfl, rfl, _, _, _, _, _, _, rfl, rfl, _, _, _, _, _, _, rfl, rfl, rfl⟩
end
end K53
/-! sets of texts: added to, gathered, sorted -/
namespace L2
open PySem PySem.Spec PyProof.Rows
def txtOf (e : Int × Value) : Str := match e.2 with
  | .str x _ => x
  | _ => Str.empty
def GoodT (w : World) (e : Int × Value) : Prop := ∃ x tk, e.2 = Value.str x tk ∧ e.1 = hashStr w x
/-- the set of texts at a: M its members, n their number; it can be walked -/
def SetX (w : World) (h : Heap) (a : Addr) (M : Str → Bool) (n : Nat) : Prop :=
  ∃ ob es ep tb, h.get? a = some ob ∧ ob.ExactSet ∧ ob.data = .set es ep tb ∧ (∀ e ∈ es.toList, GoodT w e) ∧ (es.toList.map txtOf).Nodup ∧ (∀ x, M x = true ↔ x ∈ es.toList.map txtOf) ∧
    es.size < scanBound ∧ tb.fits es.size = true ∧ es.size = n ∧ Ris tb.place.toList ∧ (w.params.followText "set-order" = true ∨ tb.led = true)
section
variable {P : Program} {w : World} {h h' : Heap} {a : Addr} {M : Str → Bool} {n : Nat}
theorem SetX.at (R : SetX w h a M n) (k : ∀ ob, h.get? a = some ob → h'.get? a = some ob) : SetX w h' a M n := by
  obtain ⟨ob, es, ep, tb, at_, rest⟩ := R
  exact ⟨ob, es, ep, tb, k ob at_, rest⟩
theorem goodT_is {e : Int × Value} (g : GoodT w e) (x : Str) : (strKind P w).is x e.2 = true ↔ txtOf e = x := by
  obtain ⟨y, tk, e1, _⟩ := g
  unfold txtOf
  rw [e1]
  show Value.isStrOf x (.str y tk) = true ↔ y = x
  simp [Value.isStrOf]
theorem goodT_elems {l : List (Int × Value)} (g : ∀ e ∈ l, GoodT w e) : ElemsOf (strKind P w) l := fun e he => by
  obtain ⟨x, tk, e1, e2⟩ := g e he
  exact ⟨⟨x, (goodT_is (g e he) x).2 (by unfold txtOf; rw [e1]), e2⟩, by rw [e1] <;> rfl⟩
theorem goodT_mem {l : List (Int × Value)} (g : ∀ e ∈ l, GoodT w e) (x : Str) : x ∈ l.map txtOf ↔ ∃ e ∈ l, (strKind P w).is x e.2 = true := by
  constructor
  · intro m
    obtain ⟨e, he, q⟩ := List.mem_map.mp m
    exact ⟨e, he, (goodT_is (g e he) x).2 q⟩
  · rintro ⟨e, he, q⟩
    exact List.mem_map.mpr ⟨e, he, (goodT_is (g e he) x).1 q⟩
theorem SetX.type {s : Shared} (R : SetX w s.heap a M n) : s.TypeIs (.ref a) "set" := by
  obtain ⟨ob, _, _, _, at_, ex, _⟩ := R
  exact ⟨ob, at_, ex.1⟩
theorem tset_fresh {h : Heap} (w : World) : SetX w (h.push { cls := .type "set", dict := none, data := .set #[] 0 (.fresh 0 0 (!w.params.followText "set-order")) }) h.objs.size (fun _ => false) 0 := by
  refine ⟨_, #[], 0, _, Heap.get?_push_size _ rfl, ⟨rfl, rfl, rfl⟩, rfl, (fun e he => by simp at he), (by simp), (fun x => by simp), (by decide), (by rfl), rfl, List.Pairwise.nil, ?_⟩
  show _ ∨ (!w.params.followText "set-order") = true
  cases w.params.followText "set-order" <;> simp
end
section
variable {P : Program} {w : World} {A : Around} {E : Value → Shared → Prop} {s : Shared} {a : Addr} {M : Str → Bool} {n : Nat}
/-- what is stored behind an add -/
theorem tset_tail {gate : Bool → Sem Unit} (hgate : ∀ (b : Bool) (s₁ : Shared) (Q' : Unit → Shared → Prop), Q' () s₁ → wpAny (model P w) A (gate b) Q' E s₁) {ob : Obj} {es : Array (Int × Value)} {ep : Nat} {tb : SetTable}
    (at_ : s.heap.get? a = some ob) (ex : ob.ExactSet) (hd : ob.data = .set es ep tb) {fs : Array (Int × Value)} {tc : SetTable} {M2 : Str → Bool} (good : ∀ e ∈ fs.toList, GoodT w e) (once : (fs.toList.map txtOf).Nodup) (mem : ∀ x, M2 x = true ↔ x ∈ fs.toList.map txtOf)
    (room : fs.size < scanBound) (fit : tc.fits fs.size = true) (ris : Ris tc.place.toList) (led : w.params.followText "set-order" = true ∨ tc.led = true) {dummy : Bool} {R : Option Bool → Shared → Prop}
    (fin : ∀ h', Heap.SameBut a s.heap h' → SetX w h' a M2 fs.size → R (some true) { s with heap := h' }) :
    wpAny (model P w) A (do
        storeSet a fs tc
        if (!dummy && tc.tooFull) = true then do
            gate (relayAll tc fs (SetTable.grown fs.size)).2.2
            storeSet a (relayAll tc fs (SetTable.grown fs.size)).1 (relayAll tc fs (SetTable.grown fs.size)).2.1
            pure (some true)
          else pure (some true)) R E s := by
  refine wpAny_bind (wpAny_storeSet_of at_ hd ?_ (fits_of_scanBound room))
  have at1 := store_at (es' := fs) (t' := tc) at_ hd
  have same1 := Heap.SameBut.update s.heap a (Obj.putSet fs tc)
  split
  · have perm := relayAll_perm tc fs (SetTable.grown fs.size)
    have fit3 := relayAll_fits tc fs (SetTable.grown fs.size)
    have ris3 := relayAll_ris tc fs (SetTable.grown fs.size)
    have led3 := relayAll_led tc fs (SetTable.grown fs.size)
    generalize relayAll tc fs (SetTable.grown fs.size) = Z at perm fit3 ris3 led3 ⊢
    obtain ⟨gs, td, gave⟩ := Z
    dsimp only at perm fit3 ris3 led3 ⊢
    have size3 : gs.size = fs.size := by rw [← Array.length_toList, perm.length_eq, Array.length_toList]
    have room3 : gs.size < scanBound := by rw [size3]; exact room
    refine wpAny_bind (hgate _ _ _ ?_)
    refine wpAny_bind (wpAny_storeSet_of at1 rfl ?_ (fits_of_scanBound room3))
    have at2 := store_at (es' := gs) (t' := td) at1 rfl
    refine wpAny_pure (fin _ (same1.trans (Heap.SameBut.update _ a _)) ?_)
    exact ⟨_, gs, _, td, at2, ex, rfl, fun e he => good e (perm.mem_iff.mp he), (perm.map txtOf).nodup_iff.mpr once, fun x => (mem x).trans (perm.map txtOf).mem_iff.symm, room3, fit3, size3, ris3, led.imp id fun z => by rw [led3]; exact z⟩
  · exact wpAny_pure (fin _ same1 ⟨_, fs, _, tc, at1, ex, rfl, good, once, mem, room, fit, rfl, ris, led⟩)
theorem tset_hashed {x : Str} {tk : Tok} {Q : Bool → Shared → Prop} (R : SetX w s.heap a M n) (room : n + 1 < scanBound)
    (fin : ∀ h', Heap.SameBut a s.heap h' → SetX w h' a (fun y => M y || decide (y = x)) (if M x = true then n else n + 1) → Q (!M x) { s with heap := h' }) :
    wpAny (model P w) A (setAddHashed a (.str x tk) ((strKind P w).hash x)) Q E s := by
  obtain ⟨ob, es, ep, tb, at_, ex, hd, good, once, mem, few, fit, size, ris, led⟩ := R
  have isx : (strKind P w).is x (.str x tk) = true := by
    show Value.isStrOf x (.str x tk) = true
    simp [Value.isStrOf]
  have scan : (Value.str x tk).scannable = true := rfl
  have elems : ElemsOf (strKind P w) es.toList := goodT_elems good
  unfold setAddHashed setAddHashedIn
  refine wpAny_holding (wpAny_bind (wpAny_setState_of at_ hd fit ?_))
  dsimp only
  rw [byScan_of scan few elems]
  simp only [↓reduceIte]
  unfold setAddByScan
  refine wpAny_bind (wpAny_bind (wpAny_rule (wpAny_bind (wpAny_setScan_of isx at_ hd fit elems ?_))))
  cases found : List.findIdx? (fun e => (strKind P w).is x e.2) es.toList with
  | some j =>
    dsimp only
    obtain ⟨hj, pj, _⟩ := List.findIdx?_eq_some_iff_getElem.mp found
    have there : M x = true := (mem x).2 ((goodT_mem (P := P) good x).2 ⟨es.toList[j], List.getElem_mem hj, pj⟩)
    refine wpAny_pure (wpAny_pure ?_)
    have z := fin s.heap (Heap.SameBut.refl a s.heap) ⟨ob, es, ep, tb, at_, ex, hd, good, once, fun y => by
      rw [Bool.or_eq_true, decide_eq_true_eq, ← mem y]
      exact ⟨fun q => q.elim id (fun e => e ▸ there), .inl⟩, few, fit, by rw [if_pos there]; exact size, ris, led⟩
    rw [there] at z
    exact z
  | none =>
    dsimp only
    have out : x ∉ es.toList.map txtOf := fun z => by
      obtain ⟨e, he, q⟩ := (goodT_mem (P := P) good x).1 z
      have c := List.findIdx?_eq_none_iff.mp found e he
      rw [q] at c
      cases c
    have new : M x = false := by
      cases q : M x with
      | false => rfl
      | true => exact absurd ((mem x).1 q) out
    have gateOk : ∀ (b : Bool) {s₁ : Shared} {Q' : Unit → Shared → Prop}, Q' () s₁ → wpAny (model P w) A (match b with | true => rule "set.scan.the-table-gave-way" | false => pure ()) Q' E s₁ :=
      fun b {s₁ Q'} q => match b with
        | true => wpAny_rule q
        | false => wpAny_pure q
    have perm := layNew_perm tb es ((strKind P w).hash x) (.str x tk)
    have fit1 := layNew_fits tb es ((strKind P w).hash x) (.str x tk)
    have ris1 := layNew_ris tb es ((strKind P w).hash x) (.str x tk) ris
    have led1 := layNew_led tb es ((strKind P w).hash x) (.str x tk)
    generalize layNew tb es ((strKind P w).hash x) (.str x tk) = Z at perm fit1 ris1 led1 ⊢
    obtain ⟨fs, tc, dummy, gave⟩ := Z
    dsimp only at perm fit1 ris1 led1 ⊢
    rw [Array.toList_push] at perm
    have pc : fs.toList.Perm (((strKind P w).hash x, Value.str x tk) :: es.toList) := perm.trans (List.perm_append_singleton _ _)
    have pk : (fs.toList.map txtOf).Perm (x :: es.toList.map txtOf) := pc.map txtOf
    have good1 : ∀ e ∈ fs.toList, GoodT w e := fun e he => by
      rcases List.mem_cons.mp (pc.mem_iff.mp he) with rfl | z
      · exact ⟨x, tk, rfl, rfl⟩
      · exact good e z
    have once1 : (fs.toList.map txtOf).Nodup := pk.nodup_iff.mpr (List.nodup_cons.mpr ⟨out, once⟩)
    have mem1 : ∀ y, (M y || decide (y = x)) = true ↔ y ∈ fs.toList.map txtOf := fun y => by
      rw [Bool.or_eq_true, decide_eq_true_eq, mem y, pk.mem_iff, List.mem_cons, or_comm]
    have size1 : fs.size = n + 1 := by rw [← Array.length_toList, pc.length_eq, List.length_cons, Array.length_toList, size]
    have room1 : fs.size < scanBound := by rw [size1]; exact room
    have ledOk : w.params.followText "set-order" = true ∨ tc.led = true := led.imp id fun z => by rw [led1]; exact z
    have last : ∀ h', Heap.SameBut a s.heap h' → SetX w h' a (fun y => M y || decide (y = x)) fs.size → Q true { s with heap := h' } := fun h' sb r => by
      have z := fin h' sb
      rw [new] at z
      rw [size1] at r
      exact z r
    refine wpAny_bind (gateOk _ ?_)
    split
    · refine wpAny_bind ?_
      rw [hashByValue_scannable 8 scan]
      refine wpAny_pure ?_
      refine tset_tail ?_ at_ ex hd good1 once1 mem1 room1 ?_ ?_ ?_ ?_
      · intro b s₁ Q' q
        exact gateOk b q
      · first | (split <;> first | exact fit1 | exact SetTable.fits_plain_off fit1) | exact fit1
      · first | (split <;> exact ris1) | exact ris1
      · first | (split <;> exact ledOk) | exact ledOk
      · intro h' sb r
        dsimp only
        exact wpAny_pure (last h' sb r)
    · refine wpAny_bind (wpAny_pure ?_)
      simp only [↓reduceIte]
      refine tset_tail ?_ at_ ex hd good1 once1 mem1 room1 fit1 ris1 ledOk ?_
      · intro b s₁ Q' q
        exact gateOk b q
      · intro h' sb r
        dsimp only
        exact wpAny_pure (last h' sb r)
theorem tset_add {x : Str} {tk : Tok} {Q : Value → Shared → Prop} (R : SetX w s.heap a M n) (room : n + 1 < scanBound)
    (fin : ∀ h', Heap.SameBut a s.heap h' → SetX w h' a (fun y => M y || decide (y = x)) (if M x = true then n else n + 1) → Q .none { s with heap := h', toks := s.toks + 1 }) :
    wpAny (model P w) A (call (.builtin "set.add") [.ref a, .str x tk]) Q E s := by
  refine wpAny_call_entry F.slot_set_add R.type F.entry_set_add ?_ (F.args_set_add_2 _ _)
  unfold Builtin.«set.add» Builtin.Frozenset.oneOther
  simp only [List.isEmpty_nil, bind_assoc]
  unfold Builtin.Frozenset.addrOf setAdd
  refine wpAny_bind (wpAny_pure ?_)
  try dsimp only
  refine wpAny_bind (wpAny_pure ?_)
  try dsimp only
  refine wpAny_bind (wpAny_holding ?_)
  have isx : (strKind P w).is x (.str x tk) = true := by
    show Value.isStrOf x (.str x tk) = true
    simp [Value.isStrOf]
  refine wpAny_bind ((strKind P w).pyHash isx ?_)
  refine tset_hashed (s := { s with toks := s.toks + 1 }) R room fun h' sb r => ?_
  show wpAny _ _ (ret Value.none) _ _ _
  exact wpAny_pure ⟨_, rfl, fin h' sb r⟩
end
section
variable {P : Program} {w : World} {A : Around} {E : Value → Shared → Prop} {s : Shared} {a : Addr} {M : Str → Bool} {n : Nat}
theorem txts_of {w : World} : ∀ {l : List (Int × Value)} {vs : List Value}, (∀ e ∈ l, GoodT w e) → vs.Perm (l.map (·.2)) → ∃ xs, StrsAre vs xs ∧ xs.Perm (l.map txtOf) := fun {l vs} good perm => by
  have all : ∀ v ∈ vs, ∃ x tk, v = Value.str x tk := fun v hv => by
    obtain ⟨e, he, q⟩ := List.mem_map.mp (perm.mem_iff.mp hv)
    obtain ⟨x, tk, e1, _⟩ := good e he
    exact ⟨x, tk, by rw [← q]; exact e1⟩
  let f : Value → Str := fun v => match v with
    | .str x _ => x
    | _ => Str.empty
  have are : ∀ us : List Value, (∀ v ∈ us, ∃ x tk, v = Value.str x tk) → StrsAre us (us.map f) := by
    intro us
    induction us with
    | nil => intro _; exact .nil
    | cons v us ih =>
      intro h
      obtain ⟨x, tk, rfl⟩ := h v List.mem_cons_self
      exact .cons x tk (ih fun u hu => h u (List.mem_cons_of_mem _ hu))
  refine ⟨vs.map f, are vs all, ?_⟩
  have q := perm.map f
  rw [List.map_map] at q
  exact q
/-- sorted(a set of texts) -/
theorem setx_sorted {Q : Value → Shared → Prop} (R : SetX w s.heap a M n) (free : A.handled = none) (few : n < 64)
    (fin : ∀ s' p (out : Array Value) (c : Nat) (xs : List Str), (∀ b o, s.heap.get? b = some o → s'.heap.get? b = some o) → s'.gens = s.gens → s'.os = s.os → s.heap.objs.size ≤ p → s'.heap.get? p = some (seqObj "list" out c) →
      StrsAre out.toList xs → sortedS xs = true → xs.Nodup → (∀ x, x ∈ xs ↔ M x = true) → xs.length = n → Q (.ref p) s') :
    wpAny (model P w) A (call (.builtin "sorted") [.ref a]) Q E s := by
  obtain ⟨ob, es, ep, tb, at_, ex, hd, good, once, mem, room, fit, size, ris, led⟩ := R
  refine Calls.call_function_entry kind_sorted plain_sorted entry_sorted (args_sorted1 _) ?_
  unfold Builtin.«sorted»
  refine wpAny_bind (m := checkCount "sorted" 1 1 _) (wpAny_pure ?_)
  refine wpAny_bind (collect_set (A := A.in1) free ⟨ob, at_, ex.1, hd⟩ fit room ris led fun s1 vs keep1 le1 g1 o1 perm => ?_)
  obtain ⟨xs, are, px⟩ := txts_of good perm
  have lenV : vs.length = n := by rw [perm.length_eq, List.length_map, Array.length_toList]; exact size
  refine wpAny_bind (wpAny_newList ?_ (by rw [lenV, sizeLine_eq]; omega))
  have atL : (s1.heap.push (seqObj "list" vs.toArray 0)).get? s1.heap.objs.size = some (seqObj "list" vs.toArray 0) := Heap.get?_push_size _ rfl
  refine wpAny_bind (wpAny_holding (wpAny_call_entry slot_list_sort ⟨_, atL, rfl⟩ entry_list_sort (list_sort_treeK strKind_oneLt atL are.keysOf (fun v1 v2 rest e => keyKind_strs (by rw [← e]; exact are)) (by rw [lenV]; exact few) fun st' pst sst => ⟨_, rfl, ?_⟩) (args_list_sort _)))
  obtain ⟨ys, b1, b2, b3⟩ := sorted_out_str are pst sst
  obtain ⟨c, hc⟩ := sortedHeap_at (vs := vs) (out := (arrOf st').map (·.2)) atL
  have py : ys.Perm (es.toList.map txtOf) := b2.trans px
  refine wpAny_pure ⟨_, rfl, fin _ s1.heap.objs.size _ c ys (fun b u e => ?_) g1 o1 le1 hc b1 b3 (py.nodup_iff.mpr once) (fun x => by rw [py.mem_iff, ← mem x]) ?_⟩
  · have q := keep1 b u e
    have lt := Heap.lt_size q
    show (sortedHeap (s1.heap.push (seqObj "list" vs.toArray 0)) s1.heap.objs.size vs ((arrOf st').map (·.2))).get? b = some u
    rw [sortedHeap_old (Nat.ne_of_lt lt) (by rw [size_push']; exact Nat.lt_succ_of_lt lt)]
    exact Heap.get?_push_of_some _ q
  · rw [py.length_eq, List.length_map, Array.length_toList]; exact size
end
/-! as tracked things -/
def SetXO (w : World) (a : Addr) (M : Str → Bool) (n : Nat) : HO := .ext fun h => SetX w h a M n
theorem setXO_ok {w : World} {P : Program} {H : Hp} {h : Heap} {a : Addr} {M : Str → Bool} {n : Nat} (R : SetX w h a M n) : ObjOk P w H h a (SetXO w a M n) := by
  have ⟨ob, _, _, _, at_, _⟩ := R
  exact ⟨R, ⟨ob, at_⟩, fun _ _ p k => SetX.at p k⟩
section
variable {X : Cx} {pins : List (Addr × Obj)} {σ : L2.St} {H : Hp} {s : Shared}
theorem setXO_get {a : Addr} {M : Str → Bool} {n : Nat} (I : Inv X pins σ H s) (ha : H a = some (SetXO X.w a M n)) : SetX X.w s.heap a M n := (I.hok a _ ha).1
theorem addX_ok {E : Value → Shared → Prop} {D : Addr} {M : Str → Bool} {n : Nat} {x : Str} {u : Value} {Q : Value → Shared → Prop} (I : Inv X pins σ H s) (at_ : H D = some (SetXO X.w D M n)) (room : n + 1 < scanBound) (ru : RelV (.str x) u)
    (fin : ∀ s', Inv X pins σ (upd H D (SetXO X.w D (fun y => M y || decide (y = x)) (if M x = true then n else n + 1))) s' → Q .none s') : wpAny (model X.prog X.w) X.A (call (.builtin "set.add") [.ref D, u]) Q E s := by
  obtain ⟨tk, rfl⟩ := ru
  refine tset_add (setXO_get I at_) room fun h' sb new => ?_
  have some_ : ∃ ob, h'.get? D = some ob := by
    have ⟨ob, _, _, _, e, _⟩ := new
    exact ⟨ob, e⟩
  exact fin _ (I.write (e := D) (t' := s.toks + 1) (by rw [at_]; trivial) (.inl rfl) (fun b u hb hu => (sb.2 b hb).trans hu) some_ (setXO_ok new))
end
/-- sorted(a set of texts): a new list, in order -/
def rSortX (w : World) : List V → Hp → VK → Prop := fun vs H Q => ∃ (a : Addr) (M : Str → Bool) (n : Nat), vs = [.ref a] ∧ H a = some (SetXO w a M n) ∧ n < 64 ∧
  ∀ xs p H', sortedS xs = true → xs.Nodup → (∀ x, x ∈ xs ↔ M x = true) → Same H H' → H p = none → H' p = some (.lst (xs.map V.str)) → Q (.ref p) H'
theorem strs_vals : ∀ {vs : List Value} {xs : List Str}, StrsAre vs xs → Vals (xs.map V.str) vs
  | _, _, .nil => .nil
  | _, _, .cons y t r => .cons ⟨t, rfl⟩ (strs_vals r)
theorem cr_sortX {X : Cx} (hc : X.calm = true) : CallR X (.builtin "sorted") (rSortX X.w) := by
  intro pins s σ H vs us Q I r h
  obtain ⟨a, M, n, rfl, at_, few, fin⟩ := h
  obtain ⟨u, rfl, ru⟩ := vals1 r
  cases (show u = Value.ref a from ru)
  refine setx_sorted (setXO_get I at_) (I.ok.hd hc) few fun s' p out c xs keep g o le hp are srt nd mem len => ?_
  have fresh : H p = none := I.hok.fresh le
  have lenO : out.toList.length = xs.length := (strs_vals are).length.symm.trans (by simp)
  have new : ObjOk X.prog X.w (upd H p (.lst (xs.map V.str))) s'.heap p (.lst (xs.map V.str)) := ⟨by rw [List.length_map, sizeLine_eq, len]; omega, out.toList, c, strs_vals are, by simpa using hp⟩
  have J : Inv X pins σ (upd H p (.lst (xs.map V.str))) s' := I.call' (ch := []) o (Un.laid keep le fresh) (I.hok.laid keep le new) (by rw [g]; exact I.bare) (fun _ z => nomatch z)
  exact ⟨.ref p, _, J, rfl, fin xs p _ srt nd mem (Same.new fresh) fresh upd_same⟩
def leX (x y : Str) : Prop := x.cps.toList ≤ y.cps.toList
theorem leX_of {x y : Str} (h : ltCps y.cps.toList x.cps.toList = false) : leX x y := by
  rw [ltCps_eq] at h
  exact of_decide_eq_false h
theorem rising_le : ∀ (l : List Str) (p : Str), risingS p l = true → (p :: l).Pairwise leX
  | [], p, _ => List.pairwise_singleton _ _
  | x :: r, p, h => by
    have h : (!ltCps x.cps.toList p.cps.toList && risingS x r) = true := h
    simp only [Bool.and_eq_true, Bool.not_eq_true'] at h
    have ih := rising_le r x h.2
    have px : leX p x := leX_of h.1
    refine List.pairwise_cons.mpr ⟨fun y hy => ?_, ih⟩
    rcases List.mem_cons.mp hy with rfl | hy
    · exact px
    · exact List.le_trans px (List.rel_of_pairwise_cons ih hy)
theorem sorted_le : ∀ {l : List Str}, sortedS l = true → l.Pairwise leX
  | [], _ => List.Pairwise.nil
  | x :: r, h => rising_le r x h
/-- two lists in order, each text once, of the same members are one -/
theorem sorted_one {xs ys : List Str} (h1 : sortedS xs = true) (h2 : sortedS ys = true) (n1 : xs.Nodup) (n2 : ys.Nodup) (h : ∀ x, x ∈ xs ↔ x ∈ ys) : xs = ys := by
  refine List.Perm.eq_of_pairwise (fun a b _ _ u v => ?_) (sorted_le h1) (sorted_le h2) ((List.perm_ext_iff_of_nodup n1 n2).mpr h)
  have e : a.cps.toList = b.cps.toList := List.le_antisymm u v
  obtain ⟨a⟩ := a
  obtain ⟨b⟩ := b
  congr
  exact Array.toList_inj.mp e
/-! a comprehension of texts into a set -/
section
variable {X : Cx}
abbrev newX (w : World) : Obj := { cls := .type "set", dict := none, data := .set #[] 0 (.fresh 0 0 (!w.params.followText "set-order")) }
/-- what is asked of {elt for tg in iter}: D the new set -/
def tScX (w : World) (wi : TI) (g : TG) (te : TE) (vs : List Nat) : TE := fun σ H Q => wi σ H fun J H1 => ∀ D, H1 D = none → ∃ W : Nat → Nat → Hp → Prop, (∃ m, W 0 m (upd H1 D (SetXO w D (fun _ => false) 0))) ∧ ∀ i m H2, W i m H2 →
  (J.stop i H2 ∧ Q (.ref D) H2) ∨ (J.go i H2 ∧ ∃ Nx : Hp → Prop, (∀ H3, Nx H3 → ∃ j, j < m ∧ W (i + 1) j H3) ∧ ∀ x H3, J.yld i H2 x H3 → g x (wipe σ vs) H3 fun σ2 H4 => wipe σ2 vs = wipe σ vs ∧
    te σ2 H4 fun y H5 => ∃ (c : Str) (M : Str → Bool) (n : Nat), y = .str c ∧ H5 D = some (SetXO w D M n) ∧ n + 1 < scanBound ∧ Nx (upd H5 D (SetXO w D (fun z => M z || decide (z = c)) (if M c = true then n else n + 1))))
theorem pe_scX {elt tg iter : Expr} {scope : Scope} {own : List (PySem.Str × Nat)} {pos : Pos} {wi : TI} {g : TG} {te : TE} (calm : X.calm = true) (hN : X.N.Nodup) (hi : PI X tg iter wi) (blk : BlkOk X.N X.env.scope scope own)
    (hg : ∀ (s : Shared) (H : Hp) (C : Addr) (cl : List (PySem.Str × Addr)) (fp : List Addr), PG (X.blk s H scope (compEnvC scope cl C X.env) fp) tg g)
    (he : ∀ (s : Shared) (H : Hp) (C : Addr) (cl : List (PySem.Str × Addr)) (fp : List Addr), PE (X.blk s H scope (compEnvC scope cl C X.env) fp) elt te) (hs : ∀ x, foldedSetIterable iter X.env x = pure x := by intro _; rfl) :
    PE X (.SetComp elt [⟨tg, iter, [], 0⟩] scope pos) (tScX X.w wi g te (own.map (·.2))) := by
  refine ⟨fun pins s σ H Q I h => ?_⟩
  rw [PpSet.eval_SetComp]
  have frees : ∀ y ∈ scope.names, y.2 = .free → ∃ c, X.env.cells.lookup y.1 = some c := fun y hy e => (blk.free y hy e).elim (fun k => I.ok.has _ (.inl k)) fun k => I.ok.has _ (.inr k)
  refine wpAny_comprehension_free (use := none) rfl hs (closure_ok frees) blk.kind (fun y hy e => by rw [blk.uniq y hy, e]) (thn (hi.run pins s σ H _ I h) fun _ sA hA => thn hA fun _ sI ⟨it, fp, tn, J, HI, eI, II, T, stI, fpI, q⟩ => ?_)
  subst eI
  refine PpSet.newSet_ok (newEnv_comp ?_)
  generalize eD : sI.heap.objs.size = D
  have noD : HI D = none := II.hok.fresh (Nat.le_of_eq eD)
  obtain ⟨W, ⟨m0, begun⟩, turn⟩ := q D noD
  -- the set is laid
  generalize eB : ({ sI with heap := sI.heap.push (newX X.w) } : Shared) = sB
  have heapB : sB.heap = sI.heap.push (newX X.w) := by rw [← eB]
  have IB : Inv X pins σ (upd HI D (SetXO X.w D (fun _ => false) 0)) sB := by
    rw [← eB]
    refine II.laid (t' := sI.toks) (fun b o e => Heap.get?_push_of_some _ e) (Nat.le_of_eq eD) ?_
    rw [← eD]
    exact setXO_ok (tset_fresh X.w)
  have below : ∀ b ∈ fp, b < sI.heap.objs.size := fun b hb => (T.obj _ _ stI b hb).elim fun o e => Heap.lt_size e.1
  have fpB : ∀ b ∈ fp, FpOk X pins (upd HI D (SetXO X.w D (fun _ => false) 0)) b ∧ b < sB.heap.objs.size := fun b hb => by
    have lt := below b hb
    have ne : b ≠ D := by rw [← eD]; exact Nat.ne_of_lt lt
    exact ⟨⟨by rw [upd_ne ne]; exact (fpI b hb).1, (fpI b hb).2⟩, by rw [heapB, Heap.size_push]; exact Nat.lt_succ_of_lt lt⟩
  have stB : tn 0 sB.heap := T.keep _ _ _ stI fun b _ o e => by rw [heapB]; exact Heap.get?_push_of_some _ e
  -- the block's own names
  have IC := block_start IB blk hN fpB
  have gC := hg sB (upd HI D (SetXO X.w D (fun _ => false) 0)) sB.heap.objs.size (cellsFrom (sB.heap.objs.size + 1) scope.names (cloFrom X.env.cells scope.names [])) fp
  have eC := he sB (upd HI D (SetXO X.w D (fun _ => false) 0)) sB.heap.objs.size (cellsFrom (sB.heap.objs.size + 1) scope.names (cloFrom X.env.cells scope.names [])) fp
  show codeAny _ _ (.compStart (.SetComp elt [⟨tg, iter, [], 0⟩] scope pos) 0 (.ref it) (.ref D) (compEnvC scope (cellsFrom (sB.heap.objs.size + 1) scope.names (cloFrom X.env.cells scope.names [])) sB.heap.objs.size X.env)) _ { sB with heap := pushCells (sB.heap.push { cls := .type "dict", data := .dict #[] }) scope.names }
  have bare : ∀ b ∈ fp, (upd HI D (SetXO X.w D (fun _ => false) 0)) b = none := fun b hb => (fpB b hb).1.1
  generalize eE : compEnvC scope (cellsFrom (sB.heap.objs.size + 1) scope.names (cloFrom X.env.cells scope.names [])) sB.heap.objs.size X.env = cenv at IC gC eC ⊢
  have locC : cenv.locals = sB.heap.objs.size := by subst eE; rfl
  generalize eH : upd HI D (SetXO X.w D (fun _ => false) 0) = HB at IB IC gC eC begun bare fpB
  generalize eS : ({ sB with heap := pushCells (sB.heap.push { cls := .type "dict", data := .dict #[] }) scope.names } : Shared) = sC at IC ⊢
  have stC : tn 0 sC.heap := T.keep _ _ _ stB fun b _ o e => by rw [← eS]; exact pushCells_keeps _ _ _ _ (Heap.get?_push_of_some _ e)
  let Y : Cx := X.blk sB HB scope cenv fp
  have own_fp : ∀ {σ' : L2.St} {H' : Hp} {s' : Shared}, Inv Y [] σ' H' s' → (∀ b ∈ fp, H' b = none) → ∀ b ∈ fp, FpOk Y [] H' b := fun {σ' H' s'} I' hn b hb =>
    ⟨hn b hb, (I'.ok.exf b hb).1, I'.ok.exfs b hb, .inl hb, fun x c e => (I'.ok.exf b hb).2 x c e, fun p hp => absurd (show p ∈ ([] : List (Addr × Obj)) ++ [] from hp) (by simp)⟩
  have loop : codeAny (model X.prog X.w) X.A (.compLoop (.SetComp elt [⟨tg, iter, [], 0⟩] scope pos) 0 (.ref it) (.ref D) cenv) (compPost (model X.prog X.w) X.A X.xe none (EP X pins σ Q) (.ref D) sB.heap.objs.size) sC := by
    refine PpSet.compLoopS_any (fun n sT => ∃ i HT, Inv Y [] (wipe σ (own.map (·.2))) HT sT ∧ tn i sT.heap ∧ (∀ b ∈ fp, HT b = none) ∧ W i n HT) ?_ m0 ⟨0, HB, IC, stC, bare, begun⟩
    rintro n sT ⟨i, HT, IT, stT, nT, wT⟩
    rcases turn i n HT wT with ⟨halt, fin⟩ | ⟨go, Nx, less, step⟩
    · refine thnF (T.done Y rfl rfl rfl calm i [] sT _ HT (fun _ _ => False) IT (own_fp IT nT) stT halt) fun r sU ⟨er, IU⟩ => ?_
      subst er
      have back : Inv X pins σ HT sU := IB.call' (ch := fp) IU.os IU.base IU.hok IU.bare fun b hb => ⟨(fpB b hb).1.2.2.2.1, (fpB b hb).1.2.1, (fpB b hb).1.2.2.2.2.1, (fpB b hb).1.2.2.2.2.2⟩
      have noC : HT sB.heap.objs.size = none := by
        have z : HT cenv.locals = none := IU.free
        rwa [locC] at z
      obtain ⟨m, ns, _⟩ := IU.loc
      have ns : sU.heap.Ns cenv.locals m := ns
      rw [locC] at ns
      obtain ⟨f0, f1, f2, f3, f4, f5⟩ := IB.fpOk (b := sB.heap.objs.size) (H' := HT) (Nat.le_refl _) noC
      exact ⟨m, ns, fun _ sb => ⟨.ref D, HT, back.turned (t' := sU.toks) (fun b o hb e => (sb.2 b hb).trans e) f0 f1 f3 f4 f5, rfl, fin⟩⟩
    · refine thnF (T.item Y rfl rfl rfl calm i [] sT _ HT (fun _ _ => False) IT (own_fp IT nT) stT go) fun r sU ⟨u, er, hU⟩ => ?_
      subst er
      refine thnF hU fun _ sV ⟨x, HV, IV, rV, yV, stV, nV⟩ => ?_
      have IV2 := IV.pinned (own_fp IV nV) (T.obj _ _ stV)
      refine thnF (gC.run _ sV _ HV x u _ IV2 rV (step x HV yV)) fun _ sW ⟨σW, HW, IW, wW, qW⟩ => ?_
      refine thnF ((pts_nil (X := Y)).run _ sW σW HW _ IW (show tYes σW HW (fun b H9 => b = true ∧ H9 = HW) from ⟨rfl, rfl⟩)) fun b sX ⟨HX, IX, eb, eHX⟩ => ?_
      subst eb eHX
      simp only [if_true]
      refine thnF (eC.run _ sX σW HX _ IX qW) fun z sY ⟨yv, HY, IY, rY, c, M, k, ey, atY, roomY, nx⟩ => ?_
      subst ey
      refine addX_ok (X := Y) IY atY roomY rY fun sZ IZ => ?_
      obtain ⟨j, lj, wj⟩ := less _ nx
      have pin : ∀ b ∈ fp, ∀ o, sV.heap.get? b = some o → sZ.heap.get? b = some o ∧ (upd HY D (SetXO X.w D (fun z => M z || decide (z = c)) (if M c = true then k else k + 1))) b = none := fun b hb o e =>
        let z := IZ.pin (b, o) (List.mem_append_right _ (List.mem_append_right _ (mem_pinsAt hb e)))
        ⟨z.1, z.2.1⟩
      have len : (wipe σ (own.map (·.2))).length = σW.length := by rw [← wW, wipe_length]
      refine ⟨j, lj, i + 1, _, (IZ.unpinned (pins := [])).weak len (fun l v e => ?_), T.keep _ _ _ stV fun b hb o e => (pin b hb o e).1, fun b hb => ?_, wj⟩
      · rw [← wW] at e
        exact (wipe_some e).1
      · obtain ⟨o, e, _⟩ := T.obj _ _ stV b hb
        exact (pin b hb o e).2
  exact PpSet.codeAny_compStart_set loop (T.self X.A 0 _ _ _ stC loop)
end
section
variable {J : It} {n : Nat} {G : Hp → Prop} {Y : Nat → Hp → V → Hp → Prop}
/-- {e for x in it} over a walk, e a text told by the turn -/
theorem scx_val {w : World} (wk : Walk J n G Y) {H : Hp} {txt : Nat → Str} {Q : Addr → Hp → Prop} (few : n + 1 < scanBound) {σ : St} {vs : List Nat} {g : TG} {te : TE} (hG : ∀ H', Same H H' → G H') (hY : ∀ i H x H', Y i H x H' → Same H H')
    (turn : ∀ (i : Nat) (x : V) (H1 H2 : Hp) (R : VK), i < n → Same H H1 → Y i H1 x H2 → (∀ H3, Same H2 H3 → R (.str (txt i)) H3) → g x (wipe σ vs) H2 fun σ2 H3 => wipe σ2 vs = wipe σ vs ∧ te σ2 H3 R)
    (fin : ∀ p H' M k, Same H H' → H p = none → H' p = some (SetXO w p M k) → k ≤ n → (∀ y, M y = true ↔ ∃ i, i < n ∧ txt i = y) → Q p H') :
    ∀ D, H D = none → ∃ W : Nat → Nat → Hp → Prop, (∃ m, W 0 m (upd H D (SetXO w D (fun _ => false) 0))) ∧ ∀ i m H2, W i m H2 →
      (J.stop i H2 ∧ Q D H2) ∨ (J.go i H2 ∧ ∃ Nx : Hp → Prop, (∀ H3, Nx H3 → ∃ j, j < m ∧ W (i + 1) j H3) ∧ ∀ x H3, J.yld i H2 x H3 → g x (wipe σ vs) H3 fun σ2 H4 => wipe σ2 vs = wipe σ vs ∧
        te σ2 H4 fun y H5 => ∃ (c : Str) (M : Str → Bool) (n : Nat), y = .str c ∧ H5 D = some (SetXO w D M n) ∧ n + 1 < scanBound ∧ Nx (upd H5 D (SetXO w D (fun z => M z || decide (z = c)) (if M c = true then n else n + 1)))) := fun D hD => by
  let Pv : Nat → Hp → Prop := fun i H2 => Same H H2 ∧ ∃ M k, H2 D = some (SetXO w D M k) ∧ k ≤ i ∧ ∀ y, M y = true ↔ ∃ j, j < i ∧ txt j = y
  refine ⟨fun i m H2 => m = n - i ∧ i ≤ n ∧ Pv i H2, ⟨n, by simp, Nat.zero_le _, Same.new hD, _, 0, upd_same, Nat.le_refl _, fun y => by simp⟩, ?_⟩
  rintro i _ H2 ⟨rfl, hi, s1, M, k, at_, le, mem⟩
  by_cases lt : i < n
  · refine .inr ⟨wk.goes i H2 lt (hG _ s1), Pv (i + 1), fun H3 q => ⟨n - (i + 1), by omega, rfl, lt, q⟩, fun x H3 y => ?_⟩
    have y3 := wk.yields i H2 x H3 lt (hG _ s1) y
    have s3 := hY _ _ _ _ y3
    refine turn i x H2 H3 _ lt s1 y3 fun H4 s4 => ⟨_, M, k, rfl, s4 _ _ (s3 _ _ at_), by omega, fun b o e => ?_, _, _, upd_same, ?_, fun z => ?_⟩
    · rw [upd_ne (ne_of_none e hD)]
      exact s4 _ _ (s3 _ _ (s1 _ _ e))
    · split <;> omega
    · rw [Bool.or_eq_true, decide_eq_true_eq, mem z]
      constructor
      · rintro (⟨j, hj, e⟩ | e)
        · exact ⟨j, by omega, e⟩
        · exact ⟨i, by omega, e.symm⟩
      · rintro ⟨j, hj, e⟩
        rcases Nat.lt_or_ge j i with q | q
        · exact .inl ⟨j, q, e⟩
        · have : j = i := by omega
          subst this
          exact .inr e.symm
  · have e : i = n := by omega
    subst e
    exact .inl ⟨wk.stops H2 (hG _ s1), fin D H2 M k s1 hD at_ le mem⟩
end
end L2
namespace K53
open PySem PySem.Spec PyProof.Rows L2
/-- what BadScript says of a script, if it is wrong -/
def dueD : Dt → Option V
  | .tup rows => (wrongAt [] 0 rows).map fun i => .int (i : Nat)
  | _ => some .non
abbrev spCheck (K : PySem.W.Frag) : Sp := fun vs H Q E => ∃ v d, vs = [v] ∧ Dd K H v d ∧ (dueD d = none → ∀ H', Same H H' → Q .non H') ∧
  (∀ u, dueD d = some u → ∀ e H', Same H H' → H e = none → H' e = some (.xd [("index", u)]) → E (.ref (He.ga K "BadScript")) (some e) H')
theorem none_back {H H1 : Hp} {e : Addr} (s : Same H H1) (n : H1 e = none) : H e = none := by
  cases q : H e with
  | none => rfl
  | some o => rw [s _ _ q] at n; cases n
section
variable {P : Program} {w : World} {K : PySem.W.Frag} {mg : Str → Option Value} {base : Heap}
theorem ok_check_script (F : Has K mg "_check_script" s_check_script) (T : Txt K mg) (TE : Err K mg "BadScript" "index") (F_wrong_row : FnQ P w K mg base (L2.CX P w) 9 "wrong_row" ["script"] (spWrong K)) : FnQ P w K mg base (L2.CX P w) 10 "_check_script" ["script"] (spCheck K) := by
  refine F.q sc_check_script (fun _ _ _ _ _ _ us hl => match us, hl with | [_], _ => rfl) (fun vs H Q E h => by obtain ⟨v, d, rfl, _⟩ := h; rfl) (fun cdv A outer s H vs Q E hr h => ?_)
  obtain ⟨v, d, rfl, hd, k, ke⟩ := h
  refine ⟨_, (pss_cons (ps_set (i := 1) sc_check_script.nd rfl (by first | exact .inl rfl | exact .inr rfl) (pe_fS F_wrong_row hr (fun σ => passAt (takes_of rfl rfl rfl rfl) σ) (pa_cons (pv 0) pa_nil)))
  (pss_one (ps_if (pt_cmpR op_notN (pv 1) pe_non (by first | exact nomark _ | rfl))
  (pss_one (ps_raise rfl (takes_of rfl rfl rfl rfl) (pmk_xc PySem.F.excBase_ValueError PySem.F.store_ValueError TE.cl TE.xi fn_index TE.ty hr (by decide) TE.gl (pv 1))))
  pss_nil))), ?_⟩
  refine ⟨_, rfl, v, d, rfl, hd, fun rows e H' s => ?_, fun n e H' s q x => ke .non ?_ e H' s q x⟩
  · subst e
    refine ⟨_, rfl, rfl, _, rfl, ?_⟩
    cases c : wrongAt [] 0 rows with
    | none => exact if_no rfl (k (by simp [dueD, c]) H' s)
    | some i =>
      refine if_yes rfl ⟨_, rfl, fun e H2 s2 n2 x2 => ke (.int (i : Nat)) (by simp [dueD, c]) e H2 (s.trans s2) (none_back s n2) x2⟩
  · cases d with
    | tup rows => exact absurd rfl (n rows)
    | _ => rfl
/-- the first row of that key -/
def findRow (m x : Str) : List Dt → List V → V
  | r :: rs, v :: vs => if keyD r = (m, x) then v else findRow m x rs vs
  | _, _ => .non
/-- script, mode and word told; mode and word are words -/
abbrev spRowFor (K : PySem.W.Frag) : Sp := fun vs H Q E => ∃ v d m x, vs = [v, .str m, .str x] ∧ Dd K H v d ∧ wordS m = true ∧ wordS x = true ∧ m.length ≤ 1000 ∧ x.length ≤ 1000 ∧
  (dueD d = none → ∃ a xs rows, d = .tup rows ∧ v = .ref a ∧ SqT K H a xs ∧ DdAll K H xs rows ∧ ∀ H', Same H H' → Q (findRow m x rows xs) H') ∧
  (∀ u, dueD d = some u → ∀ e H', Same H H' → H e = none → H' e = some (.xd [("index", u)]) → E (.ref (He.ga K "BadScript")) (some e) H')
theorem rows_ok : ∀ {rows : List Dt} {seen : List (Str × Str)} {i : Nat}, wrongAt seen i rows = none → ∀ r ∈ rows, rowD r = true
  | r :: rs, seen, i, h, q, hq => by
    unfold wrongAt at h
    split at h
    · cases h
    · split at h
      · cases h
      · rename_i c1 c2
        split at h
        · cases h
        · rcases List.mem_cons.mp hq with rfl | hq
          · simpa using c2
          · exact rows_ok h q hq
/-- script, mode and word known to be right -/
abbrev spFound (K : PySem.W.Frag) : Sp := fun vs H Q _ => ∃ a xs rows m x, vs = [.ref a, .str m, .str x] ∧ SqT K H a xs ∧ DdAll K H xs rows ∧ (∀ r ∈ rows, rowD r = true) ∧ ∀ H', Same H H' → Q (findRow m x rows xs) H'
theorem ok_found_row (F : Has K mg "found_row" s_found_row) (T : Txt K mg) : FnQ P w K mg base CX0 1 "found_row" ["script", "mode", "word"] (spFound K) := by
  refine F.q sc_found_row (fun _ _ _ _ _ _ us hl => match us, hl with | [_, _, _], _ => rfl) (fun vs H Q E h => by obtain ⟨a, xs, rows, m, x, rfl, _⟩ := h; rfl) (fun cdv A outer s H vs Q E hr h => ?_)
  obtain ⟨a, xs, rows, m, x, rfl, hx, ha, right, kk⟩ := h
  have hl : xs.length = rows.length := ha.len
  refine ⟨_, PSs.nox (pss_cons (ps_for PassesOwn.never rfl (pi_tup (pv 0)) (pg_name (i := 3) sc_found_row.nd rfl (by first | exact .inl rfl | exact .inr rfl))
  (pss_one (ps_if (pw_and (pt_cmpR op_eq (pe_ix ix_tup (pv 3) pe_int (fun _ _ => rfl)) (pv 1) (by first | exact nomark _ | rfl)) (pw_and1 (pt_cmpR op_eq (pe_ix ix_tup (pv 3) pe_int (fun _ _ => rfl)) (pv 2) (by first | exact nomark _ | rfl)))).pt
  (pss_one (ps_ret (pv 3)))
  pss_nil)))
  (pss_one (ps_ret pe_non))), ?_⟩
  refine ⟨_, rfl, a, rfl, ⟨_, hx⟩, for_it walk_tup (fun i σ H' => (∃ vr, σ = [some (.ref a), some (.str m), some (.str x), vr]) ∧ Same H H' ∧ findRow m x (rows.drop i) (xs.drop i) = findRow m x rows xs) ⟨⟨none, rfl⟩, Same.refl H, rfl⟩ (fun i σ H' _ h => h.2.1.sqT hx) ?_ ?_⟩
  · rintro i v σ H4 H5 hi ⟨⟨vr, rfl⟩, s5, fr⟩ ⟨rfl, ex⟩
    obtain ⟨r, er, hr1⟩ := ha.get ex
    have li : i < rows.length := by rw [← hl]; exact hi
    have dr : rows.drop i = r :: rows.drop (i + 1) := by
      rw [List.drop_eq_getElem_cons li]
      congr 1
      rw [List.getElem?_eq_getElem li] at er
      exact Option.some.inj er
    have dx : xs.drop i = v :: xs.drop (i + 1) := by
      rw [List.drop_eq_getElem_cons hi]
      congr 1
      rw [List.getElem?_eq_getElem hi] at ex
      exact Option.some.inj ex
    rw [dr, dx] at fr
    obtain ⟨m2, x2, k2, ds2, rfl, _, _⟩ := row_form (right r (List.mem_of_getElem? er))
    obtain ⟨q, ys, rfl, hq, hy, _⟩ := tup_len hr1
    obtain ⟨v1, v2, v3, v4, rfl, g1, g2, _, _⟩ := hy.four
    cases g1
    cases g2
    refine ⟨_, rfl, q, _, _, .str m2, rfl, rfl, s5.sqT hq, at_of (j := 0) rfl rfl, _, rfl, rfl, _, rfl, ?_⟩
    by_cases c1 : m2 = m
    · subst c1
      refine if_yes (decide_eq_true rfl) ⟨_, rfl, q, _, _, .str x2, rfl, rfl, s5.sqT hq, at_of (j := 1) rfl rfl, _, rfl, rfl, _, rfl, ?_⟩
      by_cases c2 : x2 = x
      · subst c2
        refine if_yes (decide_eq_true rfl) ⟨_, rfl, ?_⟩
        have z := kk _ s5
        rw [← fr] at z
        unfold findRow at z
        rw [if_pos (show keyD (.tup [.str m2, .str x2, k2, ds2]) = (m2, x2) from rfl)] at z
        exact z
      · refine if_no (decide_eq_false fun e => c2 (by injection e)) ⟨⟨_, rfl⟩, s5, ?_⟩
        rw [← fr]
        conv => rhs; unfold findRow
        rw [if_neg (show ¬ keyD (.tup [.str m2, .str x2, k2, ds2]) = (m2, x) from fun e => c2 (congrArg Prod.snd (show (m2, x2) = (m2, x) from e)))]
    · refine if_no (decide_eq_false fun e => c1 (by injection e)) ⟨⟨_, rfl⟩, s5, ?_⟩
      rw [← fr]
      conv => rhs; unfold findRow
      rw [if_neg (show ¬ keyD (.tup [.str m2, .str x2, k2, ds2]) = (m, x) from fun e => c1 (congrArg Prod.fst (show (m2, x2) = (m, x) from e)))]
  · rintro σ H' ⟨⟨vr, rfl⟩, s5, fr⟩
    have z := kk H' s5
    rw [← fr, hl, List.drop_length] at z
    exact z
theorem ok_row_for (F : Has K mg "row_for" s_row_for) (T : Txt K mg) (F_check_script : FnQ P w K mg base (L2.CX P w) 10 "_check_script" ["script"] (spCheck K)) (F_is_word : FnQ P w K mg base CX0 1 "is_word" ["value"] (spChk K isWord)) (F_found_row : FnQ P w K mg base CX0 1 "found_row" ["script", "mode", "word"] (spFound K)) :
    FnQ P w K mg base (L2.CX P w) 11 "row_for" ["script", "mode", "word"] (spRowFor K) := by
  refine F.q sc_row_for (fun _ _ _ _ _ _ us hl => match us, hl with | [_, _, _], _ => rfl) (fun vs H Q E h => by obtain ⟨v, d, m, x, rfl, _⟩ := h; rfl) (fun cdv A outer s H vs Q E hr h => ?_)
  obtain ⟨v, d, m, x, rfl, hd, wm, wx, lm, lx, k, ke⟩ := h
  refine ⟨_, (pss_cons (ps_expr (pe_fS F_check_script hr (fun σ => passAt (takes_of rfl rfl rfl rfl) σ) (pa_cons (pv 0) pa_nil)))
  (PSs.nox (pss_cons (ps_if (pw_or (pt_not (pt_val (pe_f F_is_word hr pass0 (pa_cons (pv 1) pa_nil)))) (pw_or1 (pt_not (pt_val (pe_f F_is_word hr pass0 (pa_cons (pv 2) pa_nil)))))).pt
  (pss_one (ps_ret pe_non))
  pss_nil)
  (pss_one (ps_ret (pe_f F_found_row hr pass0 (pa_cons (pv 0) (pa_cons (pv 1) (pa_cons (pv 2) pa_nil))))))))), ?_⟩
  refine ⟨_, rfl, v, d, rfl, hd, fun ok H1 s1 => ?_, ke⟩
  obtain ⟨a, xs, rows, rfl, rfl, hx, ha, kk⟩ := k ok
  have right : ∀ r ∈ rows, rowD r = true := rows_ok (seen := []) (i := 0) (by simpa [dueD] using ok)
  refine ⟨_, rfl, _, .str m, rfl, .str m lm, fun H2 s2 => ⟨_, rfl, if_no (by show (!wordS m) = false; rw [wm]; rfl) ?_⟩⟩
  refine ⟨_, rfl, _, .str x, rfl, .str x lx, fun H3 s3 => ⟨_, rfl, if_no (by show (!wordS x) = false; rw [wx]; rfl) ?_⟩⟩
  have S3 : Same H H3 := s1.trans (s2.trans s3)
  exact ⟨_, rfl, _, rfl, _, rfl, a, xs, rows, m, x, rfl, S3.sqT hx, ha.same S3, right, fun H4 s4 => kk H4 (S3.trans s4)⟩
/-- the words of the rows, in order, each once -/
structure Words (rows : List Dt) (ws : List Str) : Prop where
  srt : sortedS ws = true
  once : ws.Nodup
  mem : ∀ x, x ∈ ws ↔ ∃ r ∈ rows, (keyD r).2 = x
abbrev spWordsOf (K : PySem.W.Frag) : Sp := fun vs H Q E => ∃ v d, vs = [v] ∧ Dd K H v d ∧
  (∀ rows ws p H', d = .tup rows → dueD d = none → Words rows ws → Same H H' → H p = none → H' p = some (.tup (ws.map V.str)) → Q (.ref p) H') ∧
  (∀ u, dueD d = some u → ∀ e H', Same H H' → H e = none → H' e = some (.xd [("index", u)]) → E (.ref (He.ga K "BadScript")) (some e) H')
theorem wrongAt_few : ∀ {rows : List Dt} {seen : List (Str × Str)} {i : Nat}, wrongAt seen i rows = none → i ≤ 30 → i + rows.length ≤ 30
  | [], _, _, _, h => by simpa using h
  | r :: rs, seen, i, h, hi => by
    unfold wrongAt at h
    split at h
    · cases h
    · split at h
      · cases h
      · split at h
        · cases h
        · have := wrongAt_few h (by omega)
          simp only [List.length_cons]
          omega
theorem ok_words_of (F : Has K mg "words_of" s_words_of) (T : Txt K mg) (F_check_script : FnQ P w K mg base (L2.CX P w) 10 "_check_script" ["script"] (spCheck K)) : FnQ P w K mg base (L2.CX P w) 11 "words_of" ["script"] (spWordsOf K) := by
  refine F.q sc_words_of (fun _ _ _ _ _ _ us hl => match us, hl with | [_], _ => rfl) (fun vs H Q E h => by obtain ⟨v, d, rfl, _⟩ := h; rfl) (fun cdv A outer s H vs Q E hr h => ?_)
  obtain ⟨v, d, rfl, hd, k, ke⟩ := h
  refine ⟨_, (pss_cons (ps_expr (pe_fS F_check_script hr (fun σ => passAt (takes_of rfl rfl rfl rfl) σ) (pa_cons (pv 0) pa_nil)))
  (PSs.nox (pss_one (ps_ret (pe_callTy call_tuple_of (by rfl) (T.fr "tuple" (by simp [frees])) PyProof.Rows.boot_tuple (pa_cons (pe_callB (cr_sortX rfl) (by rfl) (T.fr "sorted" (by simp [frees])) PyProof.Rows.boot_sorted (pa_cons (pe_scX (own := [("row", 1)]) rfl sc_words_of.nd (pi_tup (pv 0)) (blkOk_by (N := N_words_of) (sc := defScope s_words_of) (by decide +kernel)) (fun _ _ _ _ _ => (pg_name (i := 1) sc_words_of.nd rfl (by first | exact .inl rfl | exact .inr rfl))) (fun _ _ _ _ _ => (pe_ix (ix_tupK K) (pv 1) pe_int (fun _ _ => rfl)))) pa_nil)) pa_nil)))))), ?_⟩
  refine ⟨_, rfl, v, d, rfl, hd, fun ok H1 s1 => ?_, ke⟩
  obtain ⟨rows, rfl⟩ : ∃ rows, d = .tup rows := by cases d <;> first | exact ⟨_, rfl⟩ | exact absurd ok (by simp [dueD])
  obtain ⟨a, xs, rfl, hx, ha, hl⟩ := tup_len hd
  have ok2 : wrongAt [] 0 rows = none := by simpa [dueD] using ok
  have right : ∀ r ∈ rows, rowD r = true := rows_ok ok2
  have few : rows.length ≤ 30 := by have := wrongAt_few ok2 (by decide); omega
  refine ⟨_, rfl, a, rfl, ⟨_, s1.sqT hx⟩, scx_val walk_tup (txt := fun i => (keyD (rows.getD i .non)).2) ?_ (fun H' s => s.sqT (s1.sqT hx)) (fun i H x H' y b o e => by rw [y.1]; exact e) ?_ ?_⟩
  · show xs.length + 1 < 4096
    omega
  · rintro i v H2 H3 R hi s2 ⟨rfl, ex⟩ r
    obtain ⟨q, er, hr1⟩ := ha.get ex
    obtain ⟨m2, x2, k2, ds2, rfl, _, _⟩ := row_form (right q (List.mem_of_getElem? er))
    obtain ⟨b, ys, rfl, hq, hy, _⟩ := tup_len hr1
    obtain ⟨v1, v2, v3, v4, rfl, g1, g2, _, _⟩ := hy.four
    cases g1
    cases g2
    have z := r H3 (Same.refl _)
    simp only [List.getD_eq_getElem?_getD, er, Option.getD_some] at z
    exact ⟨rfl, _, rfl, b, _, _, .str x2, rfl, rfl, s2.sqT (s1.sqT hq), at_of (j := 1) rfl rfl, z⟩
  · intro p H2 M n s2 n2 at2 le mem
    refine ⟨p, M, n, rfl, at2, by omega, fun ws p2 H3 srt once mem2 s3 n3 at3 => ?_⟩
    refine ⟨p2, _, rfl, .inl ⟨SqL.of at3, fun l hl2 => ?_⟩⟩
    have s4 : Same H1 (upd H3 l (.tup (ws.map V.str))) := fun b o e => Same.new hl2 _ _ (s3 _ _ (s2 _ _ e))
    refine k rows ws l _ rfl ok ⟨srt, once, fun x => ?_⟩ (s1.trans s4) (none_back (s1.trans (s2.trans s3)) hl2) upd_same
    rw [mem2, mem]
    constructor
    · rintro ⟨i, hi, e⟩
      have li : i < rows.length := by omega
      refine ⟨rows[i], List.getElem_mem li, ?_⟩
      rw [← e]
      simp [li]
    · rintro ⟨r, hr, e⟩
      obtain ⟨i, li, ei⟩ := List.getElem_of_mem hr
      refine ⟨i, by omega, ?_⟩
      rw [← e, ← ei]
      simp [li]
end
end K53
namespace K53
open PySem PySem.Spec PyProof.Rows L2
/-! ### the source of draws -/
def kC : Key := .inr "cells"
def kA : Key := .inr "at"
def kL : Key := .inr "left"
def src (c : Addr) (n r : Int) : List (Key × V) := [(kC, .ref c), (kA, .int n), (kL, .int r)]
theorem nCA : ¬ kC = kA := by decide +kernel
theorem nCL : ¬ kC = kL := by decide +kernel
theorem nAL : ¬ kA = kL := by decide +kernel
theorem vC (c : Addr) (n r : Int) : valV (src c n r) kC = some (.ref c) := valV_pos rfl
theorem vA (c : Addr) (n r : Int) : valV (src c n r) kA = some (.int n) := (valV_neg nCA).trans (valV_pos rfl)
theorem vL (c : Addr) (n r : Int) : valV (src c n r) kL = some (.int r) := (valV_neg nCL).trans ((valV_neg nAL).trans (valV_pos rfl))
theorem pA (c : Addr) (n r z : Int) : putK (src c n r) kA (.int z) = src c z r := by
  unfold putK src
  simp [nCA, Ne.symm nAL]
theorem pL (c : Addr) (n r z : Int) : putK (src c n r) kL (.int z) = src c n z := by
  unfold putK src
  simp [nCL, nAL]
/-- a source stands at a: its cells at c; at most m draws were made -/
structure Src (K : PySem.W.Frag) (H : Hp) (a c : Addr) (ns : List Int) (m : Int) : Prop where
  dc : ∃ n r, H a = some (.dK (src c n r)) ∧ 0 ≤ n ∧ n ≤ m ∧ 0 ≤ r
  cs : ScrL K H c (ns.map V.int)
  few : ns.length ≤ 63
/-- the heap stays but for the source -/
def But (a : Addr) (H H' : Hp) : Prop := ∀ b o, H b = some o → b ≠ a → H' b = some o
theorem But.refl (a : Addr) (H : Hp) : But a H H := fun _ _ e _ => e
theorem But.trans {a : Addr} {H H1 H2 : Hp} (s : But a H H1) (t : But a H1 H2) : But a H H2 := fun b o e n => t b o (s b o e n) n
theorem But.same {a : Addr} {H H1 H2 : Hp} (s : But a H H1) (t : Same H1 H2) : But a H H2 := fun b o e n => t b o (s b o e n)
theorem But.upd {a : Addr} {H0 H : Hp} (h : But a H0 H) (o : HO) : But a H0 (upd H a o) := fun b u e ne => by rw [upd_ne ne]; exact h b u e ne
def spBegun (K : PySem.W.Frag) : Sp := fun vs H Q _ => ∃ (c : Addr) (ns : List Int), vs = [.ref c] ∧ ScrL K H c (ns.map V.int) ∧ ns.length ≤ 63 ∧ ∀ p H', Same H H' → Src K H' p c ns 0 → H p = none → Q (.ref p) H'
def spNext (K : PySem.W.Frag) : Sp := fun vs H Q _ => ∃ (a c : Addr) (ns : List Int) (m b : Int), vs = [.ref a, .int b] ∧ Src K H a c ns m ∧ m ≤ 1000000 ∧ 0 < b ∧ b < 1000000 ∧
  ∀ (j : Nat) H', (j : Int) < b → Src K H' a c ns (m + 1) → But a H H' → Q (.int j) H'
def spOf (K : PySem.W.Frag) : Sp := fun vs H Q _ => ∃ (a c l : Addr) (ns : List Int) (m : Int) (xs : List V), vs = [.ref a, .ref l] ∧ Src K H a c ns m ∧ m ≤ 1000000 ∧ H l = some (.lst xs) ∧ l ≠ a ∧ 0 < xs.length ∧ xs.length ≤ 1000 ∧
  ∀ (j : Nat) v H', xs[j]? = some v → Src K H' a c ns (m + 1) → But a H H' → Q v H'
section
variable {P : Program} {w : World} {K : PySem.W.Frag} {mg : Str → Option Value} {base : Heap}
abbrev s_law_begun : Stmt := (top 61)
def N_law_begun : List Str := ["cells"]
theorem sc_law_begun : FnScope N_law_begun ["cells"] (defScope s_law_begun) := ⟨rfl, rfl, rfl, by decide +kernel, rfl, by decide +kernel, by decide +kernel⟩
abbrev s_law_next : Stmt := (top 62)
def N_law_next : List Str := ["m", "total", "found", "k", "cell", "mixed"]
theorem sc_law_next : FnScope N_law_next ["m", "total"] (defScope s_law_next) := ⟨rfl, rfl, rfl, by decide +kernel, rfl, by decide +kernel, by decide +kernel⟩
abbrev s_law_of : Stmt := (top 63)
def N_law_of : List Str := ["m", "items"]
theorem sc_law_of : FnScope N_law_of ["m", "items"] (defScope s_law_of) := ⟨rfl, rfl, rfl, by decide +kernel, rfl, by decide +kernel, by decide +kernel⟩
theorem ok_begun (F : Has K mg "_law_begun" s_law_begun) : FnQ P w K mg base CX0 1 "_law_begun" ["cells"] (spBegun K) := by
  refine F.q sc_law_begun (fun _ _ _ _ _ _ us hl => match us, hl with | [_], _ => rfl) (fun vs H Q E h => by obtain ⟨c, ns, rfl, _⟩ := h; rfl) (fun cdv A outer s H vs Q E hr h => ?_)
  obtain ⟨c, ns, rfl, hs, hl, k⟩ := h
  refine ⟨_, PSs.nox (pss_one (ps_ret (pe_disp (pps_cons pe_str (pv 0) (pps_cons pe_str pe_int (pps_cons pe_str pe_int pps_nil))) rfl rfl (by simp) (by decide)))), ?_⟩
  intro p hp
  refine ⟨_, rfl, upd_same, [(kC, V.ref c), (kA, V.int 0), (kL, V.int 0)], rfl, (by show 3 ≤ 15; decide), ?_⟩
  have em : mergeK [] [(kC, V.ref c), (kA, V.int 0), (kL, V.int 0)] = src c 0 0 := by
    unfold mergeK src
    simp [putK, nCA, nCL, nAL]
  rw [em, upd_upd]
  have s1 : Same H (upd H p (.dK (src c 0 0))) := Same.new hp
  exact k p _ s1 ⟨⟨0, 0, upd_same, by decide, by decide, by decide⟩, hs.same s1, hl⟩ hp
theorem getC {H : Hp} {a c : Addr} {n r : Int} (h : H a = some (.dK (src c n r))) : DGet H a (.str "cells") (some (.ref c)) := by
  have z := DGet.k (k := kC) h
  rw [vC] at z; exact z
theorem getA {H : Hp} {a c : Addr} {n r : Int} (h : H a = some (.dK (src c n r))) : DGet H a (.str "at") (some (.int n)) := by
  have z := DGet.k (k := kA) h
  rw [vA] at z; exact z
theorem getL {H : Hp} {a c : Addr} {n r : Int} (h : H a = some (.dK (src c n r))) : DGet H a (.str "left") (some (.int r)) := by
  have z := DGet.k (k := kL) h
  rw [vL] at z; exact z
theorem few3 (c : Addr) (n r : Int) : (src c n r).length < sizeLine := small1000 (by show 3 ≤ 1000; decide)
theorem putA {H : Hp} {a c : Addr} {n r z : Int} (h : H a = some (.dK (src c n r))) : DPut H a (.str "at") (.int z) (upd H a (.dK (src c z r))) := by
  have y := DPut.k (k := kA) (v := .int z) h (few3 c n r)
  rw [pA] at y; exact y
theorem putL {H : Hp} {a c : Addr} {n r z : Int} (h : H a = some (.dK (src c n r))) : DPut H a (.str "left") (.int z) (upd H a (.dK (src c n z))) := by
  have y := DPut.k (k := kL) (v := .int z) h (few3 c n r)
  rw [pL] at y; exact y
theorem ok_of (F : Has K mg "_law_of" s_law_of) (T : Txt K mg) (F_law_next : FnQ P w K mg base CX0 1 "_law_next" ["m", "total"] (spNext K)) : FnQ P w K mg base CX0 2 "_law_of" ["m", "items"] (spOf K) := by
  refine F.q sc_law_of (fun _ _ _ _ _ _ us hl => match us, hl with | [_, _], _ => rfl) (fun vs H Q E h => by obtain ⟨a, c, l, ns, m, xs, rfl, _⟩ := h; rfl) (fun cdv A outer s H vs Q E hr h => ?_)
  obtain ⟨a, c, l, ns, m, xs, rfl, S, hm, hx, nla, lp, lf, k⟩ := h
  have gL : mg "len" = none := T.fr _ (by simp [frees])
  refine ⟨_, PSs.nox (pss_one (ps_ret (pe_ix ix_list (pv 1) (pe_f F_law_next hr pass0 (pa_cons (pv 0) (pa_cons (pe_callB call_len_seq (by rfl) gL boot_len (pa_cons (pv 1) pa_nil)) pa_nil))) (fun _ _ => rfl)))), ?_⟩
  refine ⟨_, rfl, _, rfl, _, rfl, l, xs, rfl, .inl (SqL.of hx), a, c, ns, m, xs.length, rfl, S, hm, by omega, by omega, fun j H' hj S' but => ?_⟩
  have lt : j < xs.length := by omega
  have e : xs[j]? = some xs[j] := List.getElem?_eq_getElem lt
  exact ⟨l, xs, _, _, rfl, rfl, SqL.of (but l _ hx nla), atI_nat e, k j _ H' e S' but⟩
theorem dp_ints {H : Hp} : ∀ ns : List Int, DpAll K H (ns.map V.int) (ns.map PyData.int)
  | [] => .nil
  | n :: ns => .cons (.int n) (dp_ints ns)
theorem lay_ints : ∀ ns : List Int, PyData.canLayAll0 (ns.map PyData.int) = true
  | [] => rfl
  | n :: ns => by
    show (PyData.canLay0 (.int n) && PyData.canLayAll0 (ns.map PyData.int)) = true
    rw [lay_ints ns]; rfl
theorem depth_ints : ∀ ns : List Int, PyData.depthAll (ns.map PyData.int) = 0
  | [] => rfl
  | n :: ns => by
    show max (PyData.depth (.int n)) (PyData.depthAll (ns.map PyData.int)) = 0
    rw [depth_ints ns]; rfl
theorem shaped_ints (ns : List Int) : SeqAt.shaped (.list (ns.map PyData.int)) = true := by
  unfold SeqAt.shaped
  have h1 : PyData.canLay0 (.list (ns.map PyData.int)) = true := lay_ints ns
  have h2 : PyData.depth (.list (ns.map PyData.int)) ≤ 64 := by
    show PyData.depthAll (ns.map PyData.int) + 1 ≤ 64
    rw [depth_ints]; decide
  rw [h1, decide_eq_true h2]; rfl
theorem eqv_nil : ∀ ns : List Int, (!PyData.eqv (.list (ns.map PyData.int)) (.list [])) = decide (ns ≠ [])
  | [] => by decide +kernel
  | n :: ns => by
    have : PyData.eqv (.list ((n :: ns).map PyData.int)) (.list []) = false := rfl
    rw [this]
    simp
theorem ok_next (F : Has K mg "_law_next" s_law_next) (T : Txt K mg) : FnQ P w K mg base CX0 1 "_law_next" ["m", "total"] (spNext K) := by
  refine F.q sc_law_next (fun _ _ _ _ _ _ us hl => match us, hl with | [_, _], _ => rfl) (fun vs H Q E h => by obtain ⟨a, c, ns, m, b, rfl, _⟩ := h; rfl) (fun cdv A outer s H vs Q E hr h => ?_)
  obtain ⟨a, c, ns, m, b, rfl, S, hm, b0, b1, kk⟩ := h
  have gL : mg "len" = none := T.fr _ (by simp [frees])
  obtain ⟨⟨n, r, hd, n0, n1, r0⟩, hc, few⟩ := S
  refine ⟨_, PSs.nox (pss_cons (ps_if (pt_cmpR op_gt (pe_dget (hu_of hr) (pv 0) pe_str (fun _ _ => rfl)) pe_int (by first | exact nomark _ | rfl))
  (pss_cons (ps_set (i := 2) sc_law_next.nd rfl (by first | exact .inl rfl | exact .inr rfl) (pe_op op_mod (pe_callTy call_int1 (by rfl) (T.fr "int" (by simp [frees])) PyProof.Rows.boot_int (pa_cons (pe_dget (hu_of hr) (pv 0) pe_str (fun _ _ => rfl)) pa_nil)) (pv 1)))
  (pss_cons (ps_dput (hu_of hr) (pv 0) pe_str (pe_op op_fdiv (pe_dget (hu_of hr) (pv 0) pe_str (fun _ _ => rfl)) (pv 1)) rfl)
  (pss_one (ps_ret (pv 2)))))
  pss_nil)
  (pss_cons (ps_set (i := 3) sc_law_next.nd rfl (by first | exact .inl rfl | exact .inr rfl) (pe_dget (hu_of hr) (pv 0) pe_str (fun _ _ => rfl)))
  (pss_cons (ps_dput (hu_of hr) (pv 0) pe_str (pe_op op_add (pv 3) pe_int) rfl)
  (C8.pss_cut (ps_set (i := 4) sc_law_next.nd rfl (by first | exact .inl rfl | exact .inr rfl) (pe_ifExp (pt_cmpR (op_neD hr.units) (pe_dget (hu_of hr) (pv 0) pe_str (fun _ _ => rfl)) (pe_lstM pa_nil) (by first | exact nomark _ | rfl)) (pe_ix ix_list (pe_dget (hu_of hr) (pv 0) pe_str (fun _ _ => rfl)) (pe_op op_mod (pe_callTy call_int1 (by rfl) (T.fr "int" (by simp [frees])) PyProof.Rows.boot_int (pa_cons (pv 3) pa_nil)) (pe_callB call_len_seq (by rfl) gL boot_len (pa_cons (pe_dget (hu_of hr) (pv 0) pe_str (fun _ _ => rfl)) pa_nil))) (fun _ _ => rfl)) pe_int))
  (pss_cons (ps_if (pw_and (pt_cmpR op_ge (pv 4) (pe_op op_pow pe_int pe_int) (by first | exact nomark _ | rfl)) (pw_and1 (pt_cmpR op_lt (pv 3) (pe_callB call_len_seq (by rfl) gL boot_len (pa_cons (pe_dget (hu_of hr) (pv 0) pe_str (fun _ _ => rfl)) pa_nil)) (by first | exact nomark _ | rfl)))).pt
  (pss_cons (ps_dput (hu_of hr) (pv 0) pe_str (pe_op op_fdiv (pv 4) (pv 1)) rfl)
  (pss_one (ps_ret (pe_op op_mod (pe_callTy call_int1 (by rfl) (T.fr "int" (by simp [frees])) PyProof.Rows.boot_int (pa_cons (pv 4) pa_nil)) (pv 1)))))
  pss_nil)
  (pss_cons (ps_set (i := 5) sc_law_next.nd rfl (by first | exact .inl rfl | exact .inr rfl) (pe_op op_add (pe_op op_mul (pe_op op_mod (pe_callTy call_int1 (by rfl) (T.fr "int" (by simp [frees])) PyProof.Rows.boot_int (pa_cons (pv 4) pa_nil)) pe_int) pe_int) (pe_op op_mod (pe_callTy call_int1 (by rfl) (T.fr "int" (by simp [frees])) PyProof.Rows.boot_int (pa_cons (pe_op op_fdiv (pv 4) pe_int) pa_nil)) pe_int)))
  (pss_cons (ps_set (i := 5) sc_law_next.nd rfl (by first | exact .inl rfl | exact .inr rfl) (pe_op op_mod (pe_callTy call_int1 (by rfl) (T.fr "int" (by simp [frees])) PyProof.Rows.boot_int (pa_cons (pe_op op_add (pe_op op_add (pe_op op_add (pv 5) (pe_op op_mul (pe_op op_mul pe_int (pv 3)) (pv 3))) (pe_op op_mul pe_int (pv 3))) pe_int) pa_nil)) pe_int))
  (pss_cons (ps_set (i := 5) sc_law_next.nd rfl (by first | exact .inl rfl | exact .inr rfl) (pe_op op_mod (pe_callTy call_int1 (by rfl) (T.fr "int" (by simp [frees])) PyProof.Rows.boot_int (pa_cons (pe_op op_mul (pv 5) (pv 5)) pa_nil)) pe_int))
  (pss_one (ps_ret (pe_op op_mod (pe_callTy call_int1 (by rfl) (T.fr "int" (by simp [frees])) PyProof.Rows.boot_int (pa_cons (pe_op op_fdiv (pe_op op_mod (pe_callTy call_int1 (by rfl) (T.fr "int" (by simp [frees])) PyProof.Rows.boot_int (pa_cons (pe_op op_mul (pv 5) pe_int) pa_nil)) pe_int) pe_int) pa_nil)) (pv 1)))))))))))), ?_⟩
  have nac : ∀ {H' : Hp} {z : List (Key × V)}, ScrL K H c (ns.map V.int) → But a H H' → ScrL K H' c (ns.map V.int) := fun {H' z} q but => by
    rcases q with ⟨o, q⟩ | q
    · exact .inl ⟨o, but _ _ q (ne_of q hd fun e => nomatch e)⟩
    · exact .inr q
  have fin : ∀ {H' : Hp} {n2 r2 z : Int}, But a H H' → H' a = some (.dK (src c n2 r2)) → 0 ≤ n2 → n2 ≤ m + 1 → 0 ≤ r2 → 0 ≤ z → z < b → Q (.int z) H' := fun {H' n2 r2 z} but at_ a0 a1 a2 z0 z1 => by
    have q := kk z.toNat H' (by omega) ⟨⟨n2, r2, at_, a0, a1, a2⟩, nac (z := []) hc but, few⟩ but
    rwa [Int.toNat_of_nonneg z0] at q
  refine ⟨_, rfl, a, _, rfl, getL hd, _, _, rfl, rfl, _, rfl, ?_⟩
  by_cases c0 : 0 < r
  · refine if_yes (decide_eq_true c0) ?_
    refine ⟨_, rfl, a, _, rfl, getL hd, .inl ⟨_, rfl, ?_⟩⟩
    refine ⟨_, rfl, _, _, rfl, rfl, b0, ?_⟩
    refine ⟨_, rfl, a, _, rfl, getL hd, _, rfl, _, _, rfl, rfl, ⟨b0, by omega⟩, _, rfl, a, _, rfl, putL hd, _, rfl, ?_⟩
    exact fin ((But.refl a H).upd _) upd_same n0 (by omega) (Int.ediv_nonneg (by omega) (by omega)) (Int.emod_nonneg _ (by omega)) (Int.emod_lt_of_pos _ b0)
  · have er : r = 0 := by omega
    subst er
    refine if_no (decide_eq_false (by omega)) ?_
    refine ⟨_, rfl, a, _, rfl, getA hd, ?_⟩
    refine ⟨_, rfl, _, _, rfl, rfl, _, rfl, a, _, rfl, putA hd, ?_⟩
    generalize hH1 : upd H a (.dK (src c (n + 1) 0)) = H1
    have d1 : H1 a = some (.dK (src c (n + 1) 0)) := by rw [← hH1]; exact upd_same
    have t1 : But a H H1 := by rw [← hH1]; exact (But.refl a H).upd _
    have c1 : ScrL K H1 c (ns.map V.int) := nac (z := []) hc t1
    refine ⟨fun σ H' => ∃ z : Int, σ = [some (.ref a), some (.int b), none, some (.int n), some (.int z), none] ∧ But a H H' ∧ H' a = some (.dK (src c (n + 1) 0)), ?_, ?_⟩
    · refine ⟨_, rfl, a, _, rfl, getC d1, Nat.zero_le _, fun q H2 s2 n2 l2 => ⟨.list (ns.map .int), .list [], .lst (c1.same s2).seq (dp_ints ns), .lst (SqL.of l2) .nil, shaped_ints ns, by decide +kernel, _, rfl, ?_⟩⟩
      have t2 : But a H H2 := t1.same s2
      have d2 := s2 _ _ d1
      have c2 : ScrL K H2 c (ns.map V.int) := c1.same s2
      rw [eqv_nil]
      by_cases e0 : ns = []
      · refine if_no (decide_eq_false (by simp [e0])) ⟨0, rfl, t2, d2⟩
      · refine if_yes (decide_eq_true e0) ?_
        have lp : 0 < ns.length := List.length_pos_iff.mpr e0
        have lm : ((ns.map V.int).length : Int) = ns.length := by simp
        have i0 : 0 ≤ n % ((ns.map V.int).length : Int) := Int.emod_nonneg _ (by omega)
        have i1 : n % ((ns.map V.int).length : Int) < (ns.map V.int).length := Int.emod_lt_of_pos _ (by omega)
        obtain ⟨z, hz⟩ : ∃ z, (ns.map V.int)[(n % ((ns.map V.int).length : Int)).toNat]? = some (V.int z) := by
          have lt : (n % ((ns.map V.int).length : Int)).toNat < ns.length := by omega
          exact ⟨ns[(n % ((ns.map V.int).length : Int)).toNat], by rw [List.getElem?_map, List.getElem?_eq_getElem lt]; rfl⟩
        exact ⟨_, rfl, a, _, rfl, getC d2, _, rfl, .inl ⟨_, rfl, _, rfl, a, _, rfl, getC d2, c, _, rfl, .inl c2.seq, _, _, rfl, rfl, (by omega), c, _, _, _, rfl, rfl, c2.seq, at_of (Int.toNat_of_nonneg i0).symm hz, z, rfl, t2, d2⟩⟩
    · rintro σ H' ⟨z, rfl, t2, d2⟩
      have c2 : ScrL K H' c (ns.map V.int) := nac (z := []) hc t2
      refine ⟨_, rfl, _, _, rfl, rfl, ⟨by decide, by decide, by decide⟩, _, _, rfl, rfl, _, rfl, ?_⟩
      have p18 : (10 : Int) ^ (18 : Int).toNat = 1000000000000000000 := by decide
      have last : ∀ x : Int, 0 ≤ x % b ∧ x % b < b := fun x => ⟨Int.emod_nonneg _ (by omega), Int.emod_lt_of_pos _ b0⟩
      by_cases g1 : (10 : Int) ^ (18 : Int).toNat ≤ z
      · refine if_yes (decide_eq_true g1) ?_
        refine ⟨_, rfl, _, rfl, a, _, rfl, getC d2, c, _, rfl, .inl c2.seq, _, _, rfl, rfl, _, rfl, ?_⟩
        by_cases g2 : n < ((ns.map V.int).length : Int)
        · refine if_yes (decide_eq_true g2) ?_
          refine ⟨_, rfl, _, rfl, _, _, rfl, rfl, ⟨b0, by omega⟩, _, rfl, a, _, rfl, putL d2, ?_⟩
          refine ⟨_, rfl, .inl ⟨_, rfl, _, rfl, _, _, rfl, rfl, b0, ?_⟩⟩
          exact fin (t2.upd _) upd_same (by omega) (by omega) (Int.ediv_nonneg (by omega) (by omega)) (last z).1 (last z).2
        · refine if_no (decide_eq_false g2) ?_
          -- mixed
          refine ⟨_, rfl, .inl ⟨_, rfl, _, _, rfl, rfl, (by show (0 : Int) < _; decide), _, _, rfl, rfl, .inr ⟨by decide, by decide⟩, _, rfl, _, _, rfl, rfl, ⟨by decide, by decide⟩, .inl ⟨_, rfl, _, _, rfl, rfl, (by show (0 : Int) < _; decide), _, _, rfl, rfl, ?_⟩⟩⟩
          refine ⟨_, rfl, _, rfl, _, _, rfl, rfl, .inl ⟨by decide, by decide⟩, _, rfl, _, _, rfl, rfl, .inr ⟨by omega, by omega⟩, _, _, rfl, rfl, _, rfl, _, _, rfl, rfl, .inl ⟨by decide, by decide⟩, _, _, rfl, rfl, _, _, rfl, rfl, .inl ⟨_, rfl, _, _, rfl, rfl, (by show (0 : Int) < _; decide), ?_⟩⟩
          generalize hmx : (z % 1000003 * 48271 + z / 1000003 % 1000003 + 7919 * n * n + 104729 * n + 67) % 2147483647 = mx
          have m0 : 0 ≤ mx := by rw [← hmx]; exact Int.emod_nonneg _ (by decide)
          have m1 : mx < 2147483647 := by rw [← hmx]; exact Int.emod_lt_of_pos _ (by decide)
          refine ⟨_, rfl, _, rfl, _, _, rfl, rfl, .inl ⟨by omega, by omega⟩, .inl ⟨_, rfl, _, _, rfl, rfl, (by show (0 : Int) < _; decide), ?_⟩⟩
          generalize hmy : mx * mx % 2147483629 = my
          have y0 : 0 ≤ my := by rw [← hmy]; exact Int.emod_nonneg _ (by decide)
          have y1 : my < 2147483629 := by rw [← hmy]; exact Int.emod_lt_of_pos _ (by decide)
          refine ⟨_, rfl, _, _, rfl, rfl, .inl ⟨by omega, by omega⟩, .inl ⟨_, rfl, _, _, rfl, rfl, (by show (0 : Int) < _; decide), _, _, rfl, rfl, ⟨by decide, by decide⟩, .inl ⟨_, rfl, _, rfl, _, _, rfl, rfl, b0, ?_⟩⟩⟩
          exact fin t2 d2 (by omega) (by omega) (Int.le_refl 0) (last _).1 (last _).2
      · refine if_no (decide_eq_false g1) ?_
        -- mixed
        refine ⟨_, rfl, .inl ⟨_, rfl, _, _, rfl, rfl, (by show (0 : Int) < _; decide), _, _, rfl, rfl, .inr ⟨by decide, by decide⟩, _, rfl, _, _, rfl, rfl, ⟨by decide, by decide⟩, .inl ⟨_, rfl, _, _, rfl, rfl, (by show (0 : Int) < _; decide), _, _, rfl, rfl, ?_⟩⟩⟩
        refine ⟨_, rfl, _, rfl, _, _, rfl, rfl, .inl ⟨by decide, by decide⟩, _, rfl, _, _, rfl, rfl, .inr ⟨by omega, by omega⟩, _, _, rfl, rfl, _, rfl, _, _, rfl, rfl, .inl ⟨by decide, by decide⟩, _, _, rfl, rfl, _, _, rfl, rfl, .inl ⟨_, rfl, _, _, rfl, rfl, (by show (0 : Int) < _; decide), ?_⟩⟩
        generalize hmx : (z % 1000003 * 48271 + z / 1000003 % 1000003 + 7919 * n * n + 104729 * n + 67) % 2147483647 = mx
        have m0 : 0 ≤ mx := by rw [← hmx]; exact Int.emod_nonneg _ (by decide)
        have m1 : mx < 2147483647 := by rw [← hmx]; exact Int.emod_lt_of_pos _ (by decide)
        refine ⟨_, rfl, _, rfl, _, _, rfl, rfl, .inl ⟨by omega, by omega⟩, .inl ⟨_, rfl, _, _, rfl, rfl, (by show (0 : Int) < _; decide), ?_⟩⟩
        generalize hmy : mx * mx % 2147483629 = my
        have y0 : 0 ≤ my := by rw [← hmy]; exact Int.emod_nonneg _ (by decide)
        have y1 : my < 2147483629 := by rw [← hmy]; exact Int.emod_lt_of_pos _ (by decide)
        refine ⟨_, rfl, _, _, rfl, rfl, .inl ⟨by omega, by omega⟩, .inl ⟨_, rfl, _, _, rfl, rfl, (by show (0 : Int) < _; decide), _, _, rfl, rfl, ⟨by decide, by decide⟩, .inl ⟨_, rfl, _, rfl, _, _, rfl, rfl, b0, ?_⟩⟩⟩
        exact fin t2 d2 (by omega) (by omega) (Int.le_refl 0) (last _).1 (last _).2
end
end K53
/-! a text times a number; tuples of tuples -/
namespace L2
open PySem PySem.Spec PyProof.Rows
/-- x * n of a text -/
def rRepS : R2 := fun x y H Q => ∃ i n, x = .str i ∧ y = .int n ∧ MulOk i n ∧ Q (.str (Txt.mul i n)) H
theorem op_repS {X : Cx} : OpR X (binaryOp .Mult) rRepS := by
  intro pins s σ H x y v u Q I rx ry h
  obtain ⟨i, n, rfl, rfl, hz, q⟩ := h
  obtain ⟨t, rfl⟩ := rx
  obtain ⟨t', rfl⟩ := ry
  exact SB.mul hz fun t' tk => ⟨.str (Txt.mul i n), H, I.tok _, ⟨_, rfl⟩, q⟩
end L2
/-! a, b, c = x, y, z: the names are stored from behind -/
namespace L2
open PySem PySem.Spec PyProof.Rows
def setSeq : List Nat → List V → St → St
  | i :: is, x :: xs, σ => setSeq is xs (σ.set i (some x))
  | _, _, σ => σ
section
variable {X : Cx} {pins : List (Addr × Obj)} {H : Hp} {M : Model} {A : Around} {E : Value → Shared → Prop}
/-- names as they stand in the list -/
inductive Nms (X : Cx) : List Nat → List Str → Prop
  | nil : Nms X [] []
  | cons {i : Nat} {x : Str} {is : List Nat} {ns : List Str} (hi : X.N[i]? = some x) (hx : Loc X.env.scope x) (hf : X.fn x = true ∨ X.env.scope.names.lookup x = some .local) (r : Nms X is ns) : Nms X (i :: is) (x :: ns)
theorem Nms.len {is : List Nat} {ns : List Str} (h : Nms X is ns) : is.length = ns.length := by
  induction h with
  | nil => rfl
  | cons _ _ _ _ ih => rw [List.length_cons, List.length_cons, ih]
theorem stores_ok (hN : X.N.Nodup) : ∀ {is : List Nat} {ns : List Str} {xs : List V} {us : List Value} {σ : St} {s : Shared} {Q : Unit → Shared → Prop}, Nms X is ns → Vals xs us → Inv X pins σ H s → (∀ s', Inv X pins (setSeq is xs σ) H s' → Q () s') →
    wpAny M A (assignInOrder (ns.map fun n => bindName X.env n) us) Q E s
  | _, _, _, _, σ, s, Q, .nil, _, I, h => by
    refine wpAny_pure (h s ?_)
    unfold setSeq
    exact I
  | _, _, _, _, σ, s, Q, .cons hi hx hf r, .nil, I, h => wpAny_pure (h s I)
  | _, _, _, _, σ, s, Q, .cons hi hx hf r, .cons rx rr, I, h => by
    refine wpAny_bind (wpAny_holding (wpAny_bind (wpAny_holding (wpAny_point (wpAny_bind (store_ok I hN hi hx rx (fun s1 I1 => wpAny_point ?_) hf))))))
    exact stores_ok hN r rr I1 h
/-- target names = a tuple of as many -/
def tSwap (K : PySem.W.Frag) (is : List Nat) (te : TE) : TS := fun D σ H => te σ H fun v H1 => ∃ a xs, v = .ref a ∧ SqT K H1 a xs ∧ xs.length = is.length ∧ D.nx (setSeq is.reverse xs.reverse σ) H1
theorem Vals.rev {xs : List V} {us : List Value} (h : Vals xs us) : Vals xs.reverse us.reverse := by
  induction h with
  | nil => exact .nil
  | cons r _ ih =>
    rw [List.reverse_cons, List.reverse_cons]
    exact ih.append (.cons r .nil)
theorem ps_swap {tg e : Expr} {te : TE} {pos : Pos} {is : List Nat} {ns : List Str} (hc : X.calm = true) (hN : X.N.Nodup) (he : PE X e te) (hn : Nms X is.reverse ns.reverse) (hs : swapsWithSole [tg] e pos.line X.env = pure false := by rfl) (hw : swappedStores [tg] e X.env = pure (some ns) := by rfl) :
    PS X (.Assign [tg] e pos) (tSwap X.K is te) := by
  refine ⟨fun pins s σ H D I h => ?_⟩
  rw [exec_Assign_arm]
  refine wpAny_bind (wpAny_standAt ?_)
  rw [hs]
  refine wpAny_bind (wpAny_pure ?_)
  rw [if_neg (by decide)]
  refine wpAny_bind (thn (he.run pins s σ H _ I h) fun v s1 ⟨x, H1, I1, r1, a, xs, ex, hq, hl, q⟩ => ?_)
  subst ex
  cases r1
  rw [hw]
  refine wpAny_bind (wpAny_pure ?_)
  obtain ⟨its, rv, ht, hz⟩ := I1.tuple hq
  have ln : ns.length = its.toArray.size := by
    have z := hn.len
    rw [List.length_reverse, List.length_reverse] at z
    have y := rv.length
    rw [List.size_toArray]
    omega
  refine wpAny_bind (wpAny_rule (wpAny_bind ?_))
  rw [ln]
  refine unpackItems_tuple (I.ok.hd hc) ht fun h' hx => ?_
  have I2 : Inv X pins σ H1 { s1 with heap := h' } := I1.kept (t' := s1.toks) fun b o e => hx b o (Nat.ne_of_lt (Heap.lt_size e)) e
  refine wpAny_bind (stores_ok hN hn (Vals.rev (by simpa using rv)) I2 fun s' I' => wpAny_pure ?_)
  exact ⟨_, _, I', q⟩
end
end L2
namespace K53
open PySem PySem.Spec PyProof.Rows L2
section
variable {P : Program} {w : World} {K : PySem.W.Frag} {mg : Str → Option Value} {base : Heap}
/-! ### right plans of the law's own, where no exception may leave -/
def ENo : XK := fun _ _ _ => False
theorem passNo {X : Cx} : Passes (L2.CX P w) X ENo := fun _ _ _ _ _ _ _ h => by
  obtain ⟨_, _, _, _, _, _, _, _, _, _, _, _, z⟩ := h
  exact z.elim
theorem wset_ok {d1 d7 : Dt} (h1 : isPlace d1 = true) (h7 : scriptD d7 = true) : firstBad (wset d1 (.str "permanent") (.int 0) (.int 0) .non (.int 0) d7) = none := by
  unfold wset
  rw [h1, h7]
  decide +kernel
theorem right_wk {H : Hp} {v1 v7 : V} {d1 d7 : Dt} {Q : Addr → Hp → Prop} (h1 : Dd K H v1 d1) (p1 : isPlace d1 = true) (h7 : Dd K H v7 d7) (p7 : scriptD d7 = true) (o7 : okSc d7 = true) (k : ∀ x H', Same H H' → H x = none → Dd K H' (.ref x) (.wrk d7) → Q x H') :
    ∀ x dx, H x = none → H dx = none → dx ≠ x → spWInit K [.ref x, v1, .str "permanent", .int 0, .int 0, .non, .int 0, v7] (upd (upd H dx (.own x)) x (.ins (wkA K) dx [])) (fun v H3 => v = .non ∧ Q x H3) ENo := by
  intro x dx nx nd ne
  have s0 : Same H (upd (upd H dx (.own x)) x (.ins (wkA K) dx [])) := (Same.new nd).trans (Same.new (by rw [upd_ne (Ne.symm ne)]; exact nx))
  refine ⟨x, dx, v1, _, _, _, _, _, v7, d1, .str "permanent", .int 0, .int 0, .non, .int 0, d7, rfl, upd_same, h1.same s0, .str _, .int _, .int _, .non, .int _, h7.same s0, fun _ H' s' => ⟨rfl, ?_⟩, fun y e => ?_⟩
  · have s2 : Same H (upd H' x (.ins (wkA K) dx (wflds v1 (.str "permanent") (.int 0) (.int 0) .non (.int 0) v7))) := fun b o e => by
      rw [upd_ne (ne_of_none e nx)]
      exact s' _ _ (s0 _ _ e)
    exact k x _ s2 nx (.wrk upd_same (by kernel_rfl) (h7.same s2) o7)
  · rw [wset_ok p1 p7] at e
    cases e
/-! ### data behind a draw -/
def IsSrc (H : Hp) (a : Addr) : Prop := ∃ c n r, H a = some (.dK (src c n r))
theorem Src.is {H : Hp} {a c : Addr} {ns : List Int} {m : Int} (S : Src K H a c ns m) : IsSrc H a := by
  obtain ⟨⟨n, r, e, _⟩, _, _⟩ := S
  exact ⟨c, n, r, e⟩
theorem Src.same {H H' : Hp} {a c : Addr} {ns : List Int} {m : Int} (S : Src K H a c ns m) (s : Same H H') : Src K H' a c ns m := by
  obtain ⟨⟨n, r, e, q⟩, cs, few⟩ := S
  exact ⟨⟨n, r, s _ _ e, q⟩, cs.same s, few⟩
theorem Src.more {H : Hp} {a c : Addr} {ns : List Int} {m m2 : Int} (S : Src K H a c ns m) (h : m ≤ m2) : Src K H a c ns m2 := by
  obtain ⟨⟨n, r, e, h1, h2, h3⟩, cs, few⟩ := S
  exact ⟨⟨n, r, e, h1, by omega, h3⟩, cs, few⟩
theorem IsSrc.ne {H : Hp} {a b : Addr} {o : HO} (S : IsSrc H a) (e : H b = some o) (h : ∀ c n r, o ≠ .dK (src c n r)) : b ≠ a := by
  rintro rfl
  obtain ⟨c, n, r, z⟩ := S
  rw [z] at e
  exact h c n r (Option.some.inj e).symm
theorem But.sqL {H H' : Hp} {a b : Addr} {xs : List V} (e : But a H H') (S : IsSrc H a) (h : SqL K H b xs) : SqL K H' b xs := by
  rcases h with (h | ⟨o, h⟩) | h
  · exact .inl (.inl (e _ _ h (S.ne h fun _ _ _ z => nomatch z)))
  · exact .inl (.inr ⟨o, e _ _ h (S.ne h fun _ _ _ z => nomatch z)⟩)
  · exact .inr h
theorem But.sqT {H H' : Hp} {a b : Addr} {xs : List V} (e : But a H H') (S : IsSrc H a) (h : SqT K H b xs) : SqT K H' b xs := by
  rcases h with (h | ⟨o, h⟩) | h
  · exact .inl (.inl (e _ _ h (S.ne h fun _ _ _ z => nomatch z)))
  · exact .inl (.inr ⟨o, e _ _ h (S.ne h fun _ _ _ z => nomatch z)⟩)
  · exact .inr h
mutual
theorem Dd_but {H H' : Hp} {a : Addr} (s : But a H H') (S : IsSrc H a) : ∀ {v : V} {d : Dt}, Dd K H v d → Dd K H' v d
  | _, _, .non => .non
  | _, _, .bl b => .bl b
  | _, _, .int i => .int i
  | _, _, .str x h => .str x h
  | _, _, .lst h t => .lst (s.sqL S h) (DdAll_but s S t)
  | _, _, .tup h t => .tup (s.sqT S h) (DdAll_but s S t)
  | _, _, .dic h => .dic (s _ _ h (S.ne h fun _ _ _ z => nomatch z))
  | _, _, .wrk h l t o => .wrk (s _ _ h (S.ne h fun _ _ _ z => nomatch z)) l (Dd_but s S t) o
  | _, _, .sup h => .sup (s _ _ h (S.ne h fun _ _ _ z => nomatch z))
theorem DdAll_but {H H' : Hp} {a : Addr} (s : But a H H') (S : IsSrc H a) : ∀ {vs : List V} {ds : List Dt}, DdAll K H vs ds → DdAll K H' vs ds
  | _, _, .nil => .nil
  | _, _, .cons h t => .cons (Dd_but s S h) (DdAll_but s S t)
end
theorem Dd_all3 {G5 G6 G7 G8 : Hp} {a : Addr} {vs : List V} {ds : List Dt} (x6 : Same G5 G6) (b7 : But a G6 G7) (S : IsSrc G6 a) (x8 : Same G7 G8) (D : DdAll K G5 vs ds) : DdAll K G8 vs ds := (DdAll_but b7 S (D.same x6)).same x8
theorem cat_new {H : Hp} {l b : Addr} {xs zs : List V} {Q : VK} (h1 : H l = some (.lst xs)) (h2 : H b = some (.lst zs)) (h3 : xs.length + zs.length ≤ sizeLine) (k : ∀ p G, Same H G → G p = some (.lst (xs ++ zs)) → Q (.ref p) G) : rCat (.ref l) (.ref b) H Q :=
  ⟨l, b, xs, zs, rfl, rfl, h1, h2, h3, fun p hp => k p _ (Same.new hp) upd_same⟩
theorem i_word (d : Dt) : itemD "word" d = isWord d := by
  unfold itemD
  rw [if_neg (by decide +kernel), if_neg (by decide +kernel), if_neg (by decide +kernel), if_neg (by decide +kernel), if_neg (by decide +kernel), if_neg (by decide +kernel)]
theorem i_sent (d : Dt) : itemD "sent word" d = isSent d := by
  unfold itemD
  rw [if_pos rfl]
theorem i_value (d : Dt) : itemD "value" d = dvalD d := by
  unfold itemD
  rw [if_neg (by decide +kernel), if_pos rfl]
theorem i_ticks (d : Dt) : itemD "ticks" d = isBtw 1 1000000000 d := by
  unfold itemD
  rw [if_neg (by decide +kernel), if_neg (by decide +kernel), if_pos rfl]
theorem i_truth (d : Dt) : itemD "truth" d = isBl d := by
  unfold itemD
  rw [if_neg (by decide +kernel), if_neg (by decide +kernel), if_neg (by decide +kernel), if_pos rfl]
theorem i_reason (d : Dt) : itemD "reason" d = isGiven d := by
  unfold itemD
  rw [if_neg (by decide +kernel), if_neg (by decide +kernel), if_neg (by decide +kernel), if_neg (by decide +kernel), if_pos rfl]
theorem i_plan (d : Dt) : itemD "plan" d = planD d := by
  unfold itemD
  rw [if_neg (by decide +kernel), if_neg (by decide +kernel), if_neg (by decide +kernel), if_neg (by decide +kernel), if_neg (by decide +kernel), if_pos rfl]
/-- a deed by its items -/
theorem deed_by {x : Str} {ks : List Str} {ds : List Dt} (h : deedItems.lookup x = some ks) (h2 : itemsD ks ds = true) : deedD (.tup (.str x :: ds)) = true ∧ okDeed (.tup (.str x :: ds)) = true := by
  refine ⟨?_, rfl⟩
  simp only [deedD, h]
  exact h2
def newSc : Dt := .tup [.tup [.str "first", .str "go", .int 1, .tup []]]
theorem newSc_ok : scriptD newSc = true ∧ okSc newSc = true ∧ planD (.wrk newSc) = true ∧ isPlace (.str "new") = true := by decide +kernel
mutual
/-- no list anywhere -/
def noLst : Dt → Bool
  | .lst _ => false
  | .tup ds => noLstAll ds
  | .wrk sc => noLst sc
  | _ => true
def noLstAll : List Dt → Bool
  | [] => true
  | d :: ds => noLst d && noLstAll ds
end
mutual
theorem Dd_butL {H H' : Hp} {a : Addr} {ys : List V} (s : But a H H') (S : H a = some (.lst ys)) : ∀ {v : V} {d : Dt}, Dd K H v d → noLst d = true → Dd K H' v d
  | _, _, .non, _ => .non
  | _, _, .bl b, _ => .bl b
  | _, _, .int i, _ => .int i
  | _, _, .str x h, _ => .str x h
  | _, _, .lst h t, n => by simp [noLst] at n
  | _, _, .tup h t, n => .tup (by
      rcases h with (h | ⟨o, h⟩) | h
      · exact .inl (.inl (s _ _ h (by rintro rfl; rw [S] at h; cases h)))
      · exact .inl (.inr ⟨o, s _ _ h (by rintro rfl; rw [S] at h; cases h)⟩)
      · exact .inr h) (DdAll_butL s S t (by simpa [noLst] using n))
  | _, _, .dic h, _ => .dic (s _ _ h (by rintro rfl; rw [S] at h; cases h))
  | _, _, .wrk h l t o, n => .wrk (s _ _ h (by rintro rfl; rw [S] at h; cases h)) l (Dd_butL s S t (by simpa [noLst] using n)) o
  | _, _, .sup h, _ => .sup (s _ _ h (by rintro rfl; rw [S] at h; cases h))
theorem DdAll_butL {H H' : Hp} {a : Addr} {ys : List V} (s : But a H H') (S : H a = some (.lst ys)) : ∀ {vs : List V} {ds : List Dt}, DdAll K H vs ds → noLstAll ds = true → DdAll K H' vs ds
  | _, _, .nil, _ => .nil
  | _, _, .cons h t, n => .cons (Dd_butL s S h (by simp [noLstAll] at n; exact n.1)) (DdAll_butL s S t (by simp [noLstAll] at n; exact n.2))
end
theorem mul20 : MulOk "x" 20 ∧ Txt.mul "x" 20 = "xxxxxxxxxxxxxxxxxxxx" := by
  refine ⟨⟨by decide, fun _ _ => by decide, fun _ _ => by decide +kernel⟩, by decide +kernel⟩
theorem pow12 : (10 : Int) ^ (12 : Int).toNat = 1000000000000 := by decide
theorem get5 {α : Type} {a b c d e v : α} {j : Nat} (h : [a, b, c, d, e][j]? = some v) : v = a ∨ v = b ∨ v = c ∨ v = d ∨ v = e := by
  rcases j with _ | _ | _ | _ | _ | j <;> simp at h <;> simp [h]
theorem get4 {α : Type} {a b c d v : α} {j : Nat} (h : [a, b, c, d][j]? = some v) : v = a ∨ v = b ∨ v = c ∨ v = d := by
  rcases j with _ | _ | _ | _ | j <;> simp at h <;> simp [h]
theorem get3 {α : Type} {a b c v : α} {j : Nat} (h : [a, b, c][j]? = some v) : v = a ∨ v = b ∨ v = c := by
  rcases j with _ | _ | _ | j <;> simp at h <;> simp [h]
theorem get2 {α : Type} {a b v : α} {j : Nat} (h : [a, b][j]? = some v) : v = a ∨ v = b := by
  rcases j with _ | _ | j <;> simp at h <;> simp [h]
abbrev s_law_good_deed : Stmt := (top 64)
def N_law_good_deed : List Str := ["m", "titles", "way", "name", "word", "worth", "some"]
theorem sc_law_good_deed : FnScope N_law_good_deed ["m", "titles"] (defScope s_law_good_deed) := ⟨rfl, rfl, rfl, by decide +kernel, rfl, by decide +kernel, by decide +kernel⟩
/-- a right deed: a source, words -/
def spGood (K : PySem.W.Frag) : Sp := fun vs H Q _ => ∃ (a c l : Addr) (ns : List Int) (m : Int) (ws : List Str), vs = [.ref a, .ref l] ∧ Src K H a c ns m ∧ m ≤ 900000 ∧ H l = some (.lst (ws.map V.str)) ∧ l ≠ a ∧ 0 < ws.length ∧ ws.length ≤ 1000 ∧ (∀ x ∈ ws, wordS x = true ∧ x.length ≤ 1000) ∧
  ∀ v d H', Dd K H' v d → deedD d = true → okDeed d = true → noLst d = true → Src K H' a c ns (m + 8) → But a H H' → Q v H'
theorem ok_good_deed {fd : FuncData} {mv : List Value} (F : Has K mg "_law_good_deed" s_law_good_deed) (T : Txt K mg) (W : Wk K mg) (FW : FnOk P w K mg base (L2.CX P w) 11 (He.ma K (wkA K) "__init__") fd wPs (spWInit K)) (hb : KBn K fd wPs 2 ["script"] (fun us ws => us ++ mv ++ ws) (fun vs zs => vs ++ [.str "permanent", .int 0, .int 0, .non, .int 0] ++ zs))
    (F_law_next : FnQ P w K mg base CX0 1 "_law_next" ["m", "total"] (spNext K)) (F_law_of : FnQ P w K mg base CX0 2 "_law_of" ["m", "items"] (spOf K)) : FnQ P w K mg base CX0 13 "_law_good_deed" ["m", "titles"] (spGood K) := by
  refine F.q sc_law_good_deed (fun _ _ _ _ _ _ us hl => match us, hl with | [_, _], _ => rfl) (fun vs H Q E h => by obtain ⟨a, c, l, ns, m, xs, rfl, _⟩ := h; rfl) (fun cdv A outer s H vs Q E hr h => ?_)
  obtain ⟨a, c, l, ns, m, ws, rfl, S, hm, hx, nla, lp, lf, hw, k⟩ := h
  refine ⟨_, PSs.nox (pss_cons (ps_swap (is := [2, 3, 4]) rfl sc_law_good_deed.nd (pe_tupM (pa_cons (pe_f F_law_next hr pass0 (pa_cons (pv 0) (pa_cons pe_int pa_nil))) (pa_cons (pe_f F_law_of hr pass0 (pa_cons (pv 0) (pa_cons (pv 1) pa_nil))) (pa_cons (pe_f F_law_of hr pass0 (pa_cons (pv 0) (pa_cons (pe_lstM (pa_cons pe_str (pa_cons pe_str (pa_cons (pe_op op_repS pe_str pe_int) (pa_cons pe_str pa_nil))))) pa_nil))) pa_nil)))) (.cons rfl (.inl rfl) (.inr rfl) (.cons rfl (.inl rfl) (.inr rfl) (.cons rfl (.inl rfl) (.inr rfl) .nil))))
  (pss_cons (ps_set (i := 5) sc_law_good_deed.nd rfl (by first | exact .inl rfl | exact .inr rfl) (pe_f F_law_of hr pass0 (pa_cons (pv 0) (pa_cons (pe_lstM (pa_cons pe_int (pa_cons (pe_op op_pow pe_int pe_int) (pa_cons (pe_op op_sub pe_int (pe_op op_pow pe_int pe_int)) (pa_cons (pe_tupM (pa_cons pe_str (pa_cons pe_int pa_nil))) (pa_cons (pe_tupM (pa_cons pe_str (pa_cons (pe_op op_sub pe_int (pe_op op_pow pe_int pe_int)) pa_nil))) pa_nil)))))) pa_nil))))
  (pss_cons (ps_set (i := 6) sc_law_good_deed.nd rfl (by first | exact .inl rfl | exact .inr rfl) (pe_lstM (pa_cons (pe_tupM (pa_cons pe_str (pa_cons (pv 4) pa_nil))) (pa_cons (pe_tupM (pa_cons pe_str (pa_cons (pv 3) (pa_cons (pv 4) (pa_cons (pv 5) pa_nil))))) (pa_cons (pe_tupM (pa_cons pe_str (pa_cons (pv 3) (pa_cons (pv 4) (pa_cons (pv 5) pa_nil))))) (pa_cons (pe_tupM (pa_cons pe_str (pa_cons (pv 5) pa_nil))) pa_nil))))))
  (pss_cons (ps_set (i := 6) sc_law_good_deed.nd rfl (by first | exact .inl rfl | exact .inr rfl) (pe_op op_cat (pv 6) (pe_lstM (pa_cons (pe_tupM (pa_cons pe_str (pa_cons (pe_f F_law_of hr pass0 (pa_cons (pv 0) (pa_cons (pe_lstM (pa_cons pe_int (pa_cons (pe_op op_pow pe_int pe_int) pa_nil))) pa_nil))) (pa_cons (pv 4) (pa_cons (pv 5) pa_nil))))) (pa_cons (pe_tupM (pa_cons pe_str (pa_cons (pe_f F_law_of hr pass0 (pa_cons (pv 0) (pa_cons (pe_lstM (pa_cons pe_str (pa_cons pe_str (pa_cons (pv 4) pa_nil)))) pa_nil))) pa_nil))) pa_nil)))))
  (pss_cons (ps_set (i := 6) sc_law_good_deed.nd rfl (by first | exact .inl rfl | exact .inr rfl) (pe_op op_cat (pv 6) (pe_lstM (pa_cons (pe_tupM (pa_cons pe_str (pa_cons (pv 3) pa_nil))) (pa_cons (pe_tupM (pa_cons pe_str (pa_cons (pv 3) pa_nil))) pa_nil)))))
  (pss_cons (ps_set (i := 6) sc_law_good_deed.nd rfl (by first | exact .inl rfl | exact .inr rfl) (pe_op op_cat (pv 6) (pe_lstM (pa_cons (pe_tupM (pa_cons pe_str (pa_cons (pv 3) pa_nil))) (pa_cons (pe_tupM (pa_cons pe_str (pa_cons (pv 3) pa_nil))) (pa_cons (pe_tupM (pa_cons pe_str (pa_cons (pe_cmpR op_eq (pe_f F_law_next hr pass0 (pa_cons (pv 0) (pa_cons pe_int pa_nil))) pe_int (by first | exact nomark _ | rfl)) pa_nil))) (pa_cons (pe_tupM (pa_cons pe_str (pa_cons (pv 4) pa_nil))) pa_nil)))))))
  (pss_cons (ps_set (i := 6) sc_law_good_deed.nd rfl (by first | exact .inl rfl | exact .inr rfl) (pe_op op_cat (pv 6) (pe_lstM (pa_cons (pe_tupM (pa_cons pe_str (pa_cons (pv 4) pa_nil))) (pa_cons (pe_tupM (pa_cons pe_str (pa_cons (pv 3) pa_nil))) (pa_cons (pe_tupM (pa_cons pe_str (pa_cons (pv 3) (pa_cons (pe_makeN W.mkr FW hr rfl W.gl hb passNo (pa_cons pe_str pa_nil) (pk_cons (pe_tupM (pa_cons (pe_tupM (pa_cons pe_str (pa_cons pe_str (pa_cons pe_int (pa_cons (pe_tupM pa_nil) pa_nil))))) pa_nil)) pk_nil)) pa_nil)))) pa_nil))))))
  (pss_one (ps_ret (pe_ix ix_list (pv 6) (pv 2) (fun _ _ => rfl))))))))))), ?_⟩
  refine ⟨_, rfl, a, c, ns, m, 15, rfl, S, by omega, by decide, by decide, fun way H1 lt1 S1 b1 => ?_⟩
  refine ⟨_, rfl, _, rfl, a, c, l, ns, m + 1, ws.map V.str, rfl, S1, by omega, b1 l _ hx nla, nla, by simpa using lp, by simpa using lf, fun i2 nm H2 e2 S2 b2 => ?_⟩
  obtain ⟨name, rfl, wn, ln⟩ : ∃ x, nm = .str x ∧ wordS x = true ∧ x.length ≤ 1000 := by
    rw [List.getElem?_map] at e2
    obtain ⟨x, ex, rfl⟩ := Option.map_eq_some_iff.mp e2
    exact ⟨x, rfl, hw x (List.mem_of_getElem? ex)⟩
  refine ⟨_, rfl, _, _, rfl, rfl, mul20.1, (by decide), fun p3 H3 s3 n3 l3 => ?_⟩
  rw [mul20.2] at l3
  have S3 := S2.same s3
  refine ⟨a, c, p3, ns, m + 1 + 1, _, rfl, S3, by omega, l3, S3.is.ne l3 (fun _ _ _ z => nomatch z), by decide, by decide, fun i4 wd H4 e4 S4 b4 => ?_⟩
  obtain ⟨word, rfl, ww, sw, gw, lw⟩ : ∃ x, wd = .str x ∧ wordS x = true ∧ isOne treeS (.str x) = false ∧ isOne reasonS (.str x) = false ∧ x.length ≤ 1000 := by
    rcases get4 e4 with rfl | rfl | rfl | rfl <;> exact ⟨_, rfl, by decide +kernel, by decide +kernel, by decide +kernel, by decide +kernel⟩
  refine ⟨(by show 3 ≤ sizeLine; decide), fun p5 H5 s5 n5 l5 => ⟨p5, _, rfl, SqT.of l5, rfl, ?_⟩⟩
  have S5 := S4.same s5
  have t5 : But a H H5 := (((b1.trans b2).same s3).trans b4).same s5
  refine ⟨_, rfl, _, _, rfl, rfl, ⟨by decide, by decide, by decide⟩, _, _, rfl, rfl, ⟨by decide, by decide, by decide⟩, _, _, rfl, rfl, (by show 2 ≤ sizeLine; decide), fun q6 H6 s6 n6 l6 => ?_⟩
  refine ⟨_, _, rfl, rfl, ⟨by decide, by decide, by decide⟩, _, _, rfl, rfl, (by show 2 ≤ sizeLine; decide), fun q7 H7 s7 n7 l7 => ⟨(by show 5 ≤ sizeLine; decide), fun p8 H8 s8 n8 l8 => ?_⟩⟩
  have S8 := S5.same (s6.trans (s7.trans s8))
  refine ⟨a, c, p8, ns, m + 1 + 1 + 1, _, rfl, S8, by omega, l8, S8.is.ne l8 (fun _ _ _ z => nomatch z), (by show 0 < 5; decide), (by show 5 ≤ 1000; decide), fun i9 wv H9 e9 S9 b9 => ?_⟩
  have t9 : But a H H9 := (t5.same (s6.trans (s7.trans s8))).trans b9
  obtain ⟨dv, hv, vv, nv⟩ : ∃ dv, Dd K H9 wv dv ∧ dvalD dv = true ∧ noLst dv = true := by
    have T6 : Dd K H9 (.ref q6) (.tup [.str "plus", .int 0]) := Dd_but b9 S8.is (.tup (SqT.of (s8 _ _ (s7 _ _ l6))) (.cons (.str _) (.cons (.int _) .nil)))
    have T7 : Dd K H9 (.ref q7) (.tup [.str "plus", .int (0 - 10 ^ (12 : Int).toNat)]) := Dd_but b9 S8.is (.tup (SqT.of (s8 _ _ l7)) (.cons (.str _) (.cons (.int _) .nil)))
    rcases get5 e9 with rfl | rfl | rfl | rfl | rfl
    · exact ⟨_, .int _, by decide +kernel, by decide +kernel⟩
    · exact ⟨_, .int _, by decide +kernel, by decide +kernel⟩
    · exact ⟨_, .int _, by decide +kernel, by decide +kernel⟩
    · exact ⟨_, T6, by decide +kernel, by decide +kernel⟩
    · exact ⟨_, T7, by decide +kernel, by decide +kernel⟩
  have dn : ∀ G, Dd K G (.str name) (.str name) := fun G => .str _ ln
  have dw : ∀ G, Dd K G (.str word) (.str word) := fun G => .str _ lw
  -- note, send, ask, reply
  refine ⟨_, rfl, (by show 2 ≤ sizeLine; decide), fun r1 G1 x1 y1 z1 => ?_⟩
  have D1 : DdAll K G1 [.ref r1] [.tup [.str "note", .str word]] := .cons (.tup (SqT.of z1) (.cons (.str _) (.cons (dw _) .nil))) .nil
  have w1 := hv.same x1
  refine ⟨_, rfl, _, rfl, _, rfl, (by show 4 ≤ sizeLine; decide), fun r2 G2 x2 y2 z2 => ?_⟩
  have w2 := w1.same x2
  have D2 := (D1.same x2).app (.cons (.tup (SqT.of z2) (.cons (.str "send") (.cons (dn _) (.cons (dw _) (.cons w2 .nil))))) .nil)
  refine ⟨_, rfl, _, rfl, _, rfl, (by show 4 ≤ sizeLine; decide), fun r3 G3 x3 y3 z3 => ?_⟩
  have w3 := w2.same x3
  have D3 := (D2.same x3).app (.cons (.tup (SqT.of z3) (.cons (.str "ask") (.cons (dn _) (.cons (dw _) (.cons w3 .nil))))) .nil)
  refine ⟨_, rfl, (by show 2 ≤ sizeLine; decide), fun r4 G4 x4 y4 z4 => ?_⟩
  have w4 := w3.same x4
  have D4 := (D3.same x4).app (.cons (.tup (SqT.of z4) (.cons (.str "reply") (.cons w4 .nil))) .nil)
  refine ⟨(by show 4 ≤ sizeLine; decide), fun l1 G5 x5 y5 z5 => ?_⟩
  have w5 := w4.same x5
  have D5 := D4.same x5
  have S10 := S9.same (x1.trans (x2.trans (x3.trans (x4.trans x5))))
  have t10 := t9.same (x1.trans (x2.trans (x3.trans (x4.trans x5))))
  -- later, cancel
  refine ⟨_, rfl, _, rfl, _, _, rfl, rfl, ⟨by decide, by decide, by decide⟩, (by show 2 ≤ sizeLine; decide), fun l2 G6 x6 y6 z6 => ?_⟩
  have S11 := S10.same x6
  refine ⟨a, c, l2, ns, m + 1 + 1 + 1 + 1, _, rfl, S11, by omega, z6, S11.is.ne z6 (fun _ _ _ z => nomatch z), by decide, by decide, fun i7 tv G7 e7 S12 b7 => ?_⟩
  obtain ⟨tk, rfl, tk1⟩ : ∃ i : Int, tv = .int i ∧ isBtw 1 1000000000 (.int i) = true := by
    rcases get2 e7 with rfl | rfl <;> exact ⟨_, rfl, by decide +kernel⟩
  have w7 := Dd_but b7 S11.is (w5.same x6)
  refine ⟨_, rfl, _, rfl, (by show 4 ≤ sizeLine; decide), fun r5 G8 x8 y8 z8 => ?_⟩
  have w8 := w7.same x8
  have D8 := (Dd_all3 x6 b7 S11.is x8 D5)
  have d5 : Dd K G8 (.ref r5) (.tup [.str "later", .int tk, .str word, dv]) := .tup (SqT.of z8) (.cons (.str "later") (.cons (.int _) (.cons (dw _) (.cons w8 .nil))))
  have z5b : G8 l1 = some (.lst _) := x8 _ _ (b7 _ _ (x6 _ _ z5) (S11.is.ne (x6 _ _ z5) (fun _ _ _ z => nomatch z)))
  have S13 := S12.same x8
  have t13 := ((t10.same x6).trans b7).same x8
  refine ⟨_, rfl, _, rfl, (by show 3 ≤ sizeLine; decide), fun l3 G9 x9 y9 z9 => ?_⟩
  have S14 := S13.same x9
  refine ⟨a, c, l3, ns, m + 1 + 1 + 1 + 1 + 1, _, rfl, S14, by omega, z9, S14.is.ne z9 (fun _ _ _ z => nomatch z), (by show 0 < 3; decide), (by show 3 ≤ 1000; decide), fun i10 cv G10 e10 S15 b10 => ?_⟩
  obtain ⟨cw, rfl, wc, lc⟩ : ∃ x, cv = .str x ∧ wordS x = true ∧ x.length ≤ 1000 := by
    rcases get3 e10 with rfl | rfl | rfl
    · exact ⟨_, rfl, by decide +kernel, by decide +kernel⟩
    · exact ⟨_, rfl, by decide +kernel, by decide +kernel⟩
    · exact ⟨_, rfl, ww, lw⟩
  refine ⟨(by show 2 ≤ sizeLine; decide), fun r6 G11 x11 y11 z11 => ?_⟩
  refine ⟨(by show 2 ≤ sizeLine; decide), fun l4 G12 x12 y12 z12 => ?_⟩
  have w12 := ((Dd_but b10 S14.is (w8.same x9)).same x11).same x12
  have d5b := ((Dd_but b10 S14.is (d5.same x9)).same x11).same x12
  have D12 := (((DdAll_but b10 S14.is (D8.same x9)).same x11).same x12).app (.cons d5b (.cons ((Dd.tup (SqT.of z11) (.cons (.str "cancel") (.cons (.str cw lc) .nil))).same x12) .nil))
  have z12b : G12 l1 = some (.lst _) := x12 _ _ (x11 _ _ (b10 _ _ (x9 _ _ z5b) (S14.is.ne (x9 _ _ z5b) (fun _ _ _ z => nomatch z))))
  have S16 := (S15.same x11).same x12
  have t16 := (((t13.same x9).trans b10).same x11).same x12
  refine cat_new z12b z12 (by show 6 ≤ sizeLine; decide) fun l5 G13 xn z13 => ?_
  have w13 := w12.same xn
  have D13 := D12.same xn
  have S17 := S16.same xn
  have t17 := t16.same xn
  -- link, unlink
  refine ⟨_, rfl, _, rfl, (by show 2 ≤ sizeLine; decide), fun r7 G14 x14 y14 z14 => ?_⟩
  refine ⟨_, rfl, (by show 2 ≤ sizeLine; decide), fun r8 G15 x15 y15 z15 => ⟨(by show 2 ≤ sizeLine; decide), fun l6 G16 x16 y16 z16 => ?_⟩⟩
  have w16 := ((w13.same x14).same x15).same x16
  have D16 := (((D13.same x14).same x15).same x16).app (.cons ((Dd.tup (SqT.of z14) (.cons (.str "link") (.cons (dn _) .nil))).same (x15.trans x16)) (.cons ((Dd.tup (SqT.of z15) (.cons (.str "unlink") (.cons (dn _) .nil))).same x16) .nil))
  refine cat_new (x16 _ _ (x15 _ _ (x14 _ _ z13))) z16 (by show 8 ≤ sizeLine; decide) fun l7 G17 x17 z17 => ?_
  have w17 := w16.same x17
  have D17 := D16.same x17
  have S18 := (((S17.same x14).same x15).same x16).same x17
  have t18 := (((t17.same x14).same x15).same x16).same x17
  -- monitor, unmonitor, trap, mode
  refine ⟨_, rfl, _, rfl, (by show 2 ≤ sizeLine; decide), fun r9 G18 x18 y18 z18 => ?_⟩
  refine ⟨_, rfl, (by show 2 ≤ sizeLine; decide), fun r10 G19 x19 y19 z19 => ?_⟩
  have S19 := (S18.same x18).same x19
  refine ⟨_, rfl, a, c, ns, m + 1 + 1 + 1 + 1 + 1 + 1, 2, rfl, S19, by omega, by decide, by decide, fun tr G20 _ S20 b20 => ?_⟩
  refine ⟨rfl, (by show 2 ≤ sizeLine; decide), fun r11 G21 x21 y21 z21 => ?_⟩
  refine ⟨_, rfl, (by show 2 ≤ sizeLine; decide), fun r12 G22 x22 y22 z22 => ⟨(by show 4 ≤ sizeLine; decide), fun l8 G23 x23 y23 z23 => ?_⟩⟩
  have x2123 := x21.trans (x22.trans x23)
  have w23 := (Dd_but b20 S19.is (w17.same (x18.trans x19))).same x2123
  have D23 := ((DdAll_but b20 S19.is (D17.same (x18.trans x19))).same x2123).app (.cons ((Dd_but b20 S19.is ((Dd.tup (SqT.of z18) (.cons (.str "monitor") (.cons (dn _) .nil))).same x19)).same x2123)
    (.cons ((Dd_but b20 S19.is (Dd.tup (SqT.of z19) (.cons (.str "unmonitor") (.cons (dn _) .nil)))).same x2123) (.cons ((Dd.tup (SqT.of z21) (.cons (.str "trap") (.cons (.bl _) .nil))).same (x22.trans x23)) (.cons ((Dd.tup (SqT.of z22) (.cons (.str "mode") (.cons (dw _) .nil))).same x23) .nil))))
  have z17b := x2123 _ _ (b20 _ _ (x19 _ _ (x18 _ _ z17)) (S19.is.ne (x19 _ _ (x18 _ _ z17)) (fun _ _ _ z => nomatch z)))
  refine cat_new z17b z23 (by show 12 ≤ sizeLine; decide) fun l9 G24 x24 z24 => ?_
  have D24 := D23.same x24
  have S24 := (S20.same x2123).same x24
  have t24 := ((((t18.same x18).same x19).trans b20).same x2123).same x24
  -- end, remove, add
  refine ⟨_, rfl, _, rfl, (by show 2 ≤ sizeLine; decide), fun r13 G25 x25 y25 z25 => ?_⟩
  refine ⟨_, rfl, (by show 2 ≤ sizeLine; decide), fun r14 G26 x26 y26 z26 => ?_⟩
  refine ⟨_, rfl, (by show 0 ≤ sizeLine; decide), fun u1 G27 x27 y27 z27 => ⟨(by show 4 ≤ sizeLine; decide), fun u2 G28 x28 y28 z28 => ⟨(by show 1 ≤ sizeLine; decide), fun u3 G29 x29 y29 z29 => ⟨rfl, rfl, ?_⟩⟩⟩⟩
  have sc : Dd K G29 (.ref u3) newSc := .tup (SqT.of z29) (.cons ((Dd.tup (SqT.of z28) (.cons (.str "first") (.cons (.str "go") (.cons (.int _) (.cons ((Dd.tup (SqT.of z27) .nil).same x28) .nil))))).same x29) .nil)
  refine right_wk (.str "new") newSc_ok.2.2.2 sc newSc_ok.1 newSc_ok.2.1 fun pl G30 x30 y30 z30 => ⟨(by show 3 ≤ sizeLine; decide), fun r15 G31 x31 y31 z31 => ⟨(by show 3 ≤ sizeLine; decide), fun l10 G32 x32 y32 z32 => ?_⟩⟩
  have x2732 := x27.trans (x28.trans (x29.trans (x30.trans (x31.trans x32))))
  have x2532 := x25.trans (x26.trans x2732)
  have D32 := (D24.same x2532).app (.cons ((Dd.tup (SqT.of z25) (.cons (.str "end") (.cons (dw _) .nil))).same (x26.trans x2732)) (.cons ((Dd.tup (SqT.of z26) (.cons (.str "remove") (.cons (dn _) .nil))).same x2732)
    (.cons ((Dd.tup (SqT.of z31) (.cons (.str "add") (.cons (dn _) (.cons (z30.same x31) .nil)))).same x32) .nil)))
  refine cat_new (x2532 _ _ z24) z32 (by show 15 ≤ sizeLine; decide) fun l11 G33 x33 z33 => ?_
  have D33 := D32.same x33
  have S33 := (S24.same x2532).same x33
  have t33 := (t24.same x2532).same x33
  have ltw : way < 15 := by omega
  obtain ⟨v, ev⟩ : ∃ v, ((([V.ref r1, .ref r2, .ref r3, .ref r4] ++ [.ref r5, .ref r6]) ++ [.ref r7, .ref r8]) ++ [.ref r9, .ref r10, .ref r11, .ref r12] ++ [.ref r13, .ref r14, .ref r15])[way]? = some v := ⟨_, List.getElem?_eq_getElem (by simpa using ltw)⟩
  obtain ⟨d, ed, hd⟩ := D33.get ev
  have fin : (deedD d = true ∧ okDeed d = true) ∧ noLst d = true := by
    have hm := List.mem_of_getElem? ed
    have isw : isSent (.str word) = true := by unfold isSent; rw [sw]; simpa [isWord] using ww
    have igw : isGiven (.str word) = true := by unfold isGiven; rw [gw]; simpa [isWord] using ww
    have n1 : isWord (.str name) = true := wn
    have n2 : isWord (.str word) = true := ww
    have n3 : isWord (.str cw) = true := wc
    simp only [List.cons_append, List.nil_append, List.mem_cons, List.not_mem_nil, or_false] at hm
    have n4 : planD (.wrk newSc) = true := newSc_ok.2.2.1
    rcases hm with rfl | rfl | rfl | rfl | rfl | rfl | rfl | rfl | rfl | rfl | rfl | rfl | rfl | rfl | rfl
    · refine ⟨deed_by (ks := ["word"]) (by kernel_rfl) (by simp only [itemsD, i_word, i_sent, i_value, i_ticks, i_truth, i_reason, i_plan, n1, n2, n3, n4, isw, igw, vv, tk1, isBl, Bool.and_self, Bool.and_true, Bool.true_and]), by simp only [noLst, noLstAll, nv, newSc, Bool.and_self, Bool.and_true, Bool.true_and]⟩
    · refine ⟨deed_by (ks := ["word", "sent word", "value"]) (by kernel_rfl) (by simp only [itemsD, i_word, i_sent, i_value, i_ticks, i_truth, i_reason, i_plan, n1, n2, n3, n4, isw, igw, vv, tk1, isBl, Bool.and_self, Bool.and_true, Bool.true_and]), by simp only [noLst, noLstAll, nv, newSc, Bool.and_self, Bool.and_true, Bool.true_and]⟩
    · refine ⟨deed_by (ks := ["word", "sent word", "value"]) (by kernel_rfl) (by simp only [itemsD, i_word, i_sent, i_value, i_ticks, i_truth, i_reason, i_plan, n1, n2, n3, n4, isw, igw, vv, tk1, isBl, Bool.and_self, Bool.and_true, Bool.true_and]), by simp only [noLst, noLstAll, nv, newSc, Bool.and_self, Bool.and_true, Bool.true_and]⟩
    · refine ⟨deed_by (ks := ["value"]) (by kernel_rfl) (by simp only [itemsD, i_word, i_sent, i_value, i_ticks, i_truth, i_reason, i_plan, n1, n2, n3, n4, isw, igw, vv, tk1, isBl, Bool.and_self, Bool.and_true, Bool.true_and]), by simp only [noLst, noLstAll, nv, newSc, Bool.and_self, Bool.and_true, Bool.true_and]⟩
    · refine ⟨deed_by (ks := ["ticks", "sent word", "value"]) (by kernel_rfl) (by simp only [itemsD, i_word, i_sent, i_value, i_ticks, i_truth, i_reason, i_plan, n1, n2, n3, n4, isw, igw, vv, tk1, isBl, Bool.and_self, Bool.and_true, Bool.true_and]), by simp only [noLst, noLstAll, nv, newSc, Bool.and_self, Bool.and_true, Bool.true_and]⟩
    · refine ⟨deed_by (ks := ["word"]) (by kernel_rfl) (by simp only [itemsD, i_word, i_sent, i_value, i_ticks, i_truth, i_reason, i_plan, n1, n2, n3, n4, isw, igw, vv, tk1, isBl, Bool.and_self, Bool.and_true, Bool.true_and]), by simp only [noLst, noLstAll, nv, newSc, Bool.and_self, Bool.and_true, Bool.true_and]⟩
    · refine ⟨deed_by (ks := ["word"]) (by kernel_rfl) (by simp only [itemsD, i_word, i_sent, i_value, i_ticks, i_truth, i_reason, i_plan, n1, n2, n3, n4, isw, igw, vv, tk1, isBl, Bool.and_self, Bool.and_true, Bool.true_and]), by simp only [noLst, noLstAll, nv, newSc, Bool.and_self, Bool.and_true, Bool.true_and]⟩
    · refine ⟨deed_by (ks := ["word"]) (by kernel_rfl) (by simp only [itemsD, i_word, i_sent, i_value, i_ticks, i_truth, i_reason, i_plan, n1, n2, n3, n4, isw, igw, vv, tk1, isBl, Bool.and_self, Bool.and_true, Bool.true_and]), by simp only [noLst, noLstAll, nv, newSc, Bool.and_self, Bool.and_true, Bool.true_and]⟩
    · refine ⟨deed_by (ks := ["word"]) (by kernel_rfl) (by simp only [itemsD, i_word, i_sent, i_value, i_ticks, i_truth, i_reason, i_plan, n1, n2, n3, n4, isw, igw, vv, tk1, isBl, Bool.and_self, Bool.and_true, Bool.true_and]), by simp only [noLst, noLstAll, nv, newSc, Bool.and_self, Bool.and_true, Bool.true_and]⟩
    · refine ⟨deed_by (ks := ["word"]) (by kernel_rfl) (by simp only [itemsD, i_word, i_sent, i_value, i_ticks, i_truth, i_reason, i_plan, n1, n2, n3, n4, isw, igw, vv, tk1, isBl, Bool.and_self, Bool.and_true, Bool.true_and]), by simp only [noLst, noLstAll, nv, newSc, Bool.and_self, Bool.and_true, Bool.true_and]⟩
    · refine ⟨deed_by (ks := ["truth"]) (by kernel_rfl) (by simp only [itemsD, i_word, i_sent, i_value, i_ticks, i_truth, i_reason, i_plan, n1, n2, n3, n4, isw, igw, vv, tk1, isBl, Bool.and_self, Bool.and_true, Bool.true_and]), by simp only [noLst, noLstAll, nv, newSc, Bool.and_self, Bool.and_true, Bool.true_and]⟩
    · refine ⟨deed_by (ks := ["word"]) (by kernel_rfl) (by simp only [itemsD, i_word, i_sent, i_value, i_ticks, i_truth, i_reason, i_plan, n1, n2, n3, n4, isw, igw, vv, tk1, isBl, Bool.and_self, Bool.and_true, Bool.true_and]), by simp only [noLst, noLstAll, nv, newSc, Bool.and_self, Bool.and_true, Bool.true_and]⟩
    · refine ⟨deed_by (ks := ["reason"]) (by kernel_rfl) (by simp only [itemsD, i_word, i_sent, i_value, i_ticks, i_truth, i_reason, i_plan, n1, n2, n3, n4, isw, igw, vv, tk1, isBl, Bool.and_self, Bool.and_true, Bool.true_and]), by simp only [noLst, noLstAll, nv, newSc, Bool.and_self, Bool.and_true, Bool.true_and]⟩
    · refine ⟨deed_by (ks := ["word"]) (by kernel_rfl) (by simp only [itemsD, i_word, i_sent, i_value, i_ticks, i_truth, i_reason, i_plan, n1, n2, n3, n4, isw, igw, vv, tk1, isBl, Bool.and_self, Bool.and_true, Bool.true_and]), by simp only [noLst, noLstAll, nv, newSc, Bool.and_self, Bool.and_true, Bool.true_and]⟩
    · refine ⟨deed_by (ks := ["word", "plan"]) (by kernel_rfl) (by simp only [itemsD, i_word, i_sent, i_value, i_ticks, i_truth, i_reason, i_plan, n1, n2, n3, n4, isw, igw, vv, tk1, isBl, Bool.and_self, Bool.and_true, Bool.true_and]), by simp only [noLst, noLstAll, nv, newSc, Bool.and_self, Bool.and_true, Bool.true_and]⟩
  refine ⟨_, rfl, _, rfl, l11, _, _, _, rfl, rfl, SqL.of z33, atI_nat ev, k v d _ hd fin.1.1 fin.1.2 fin.2 (S33.more (by omega)) t33⟩
end
end K53
namespace K53
open PySem PySem.Spec PyProof.Rows L2
section
variable {P : Program} {w : World} {K : PySem.W.Frag} {mg : Str → Option Value} {base : Heap}
abbrev s_law_good_rows : Stmt := (top 65)
def N_law_good_rows : List Str := ["m", "titles", "found", "k", "deeds", "work", "j"]
theorem sc_law_good_rows : FnScope N_law_good_rows ["m", "titles"] (defScope s_law_good_rows) := ⟨rfl, rfl, rfl, by decide +kernel, rfl, by decide +kernel, by decide +kernel⟩
def spRows (K : PySem.W.Frag) : Sp := fun vs H Q _ => ∃ (a c l : Addr) (ns : List Int) (m : Int) (ws : List Str), vs = [.ref a, .ref l] ∧ Src K H a c ns m ∧ m ≤ 800000 ∧ H l = some (.lst (ws.map V.str)) ∧ l ≠ a ∧ 0 < ws.length ∧ ws.length ≤ 1000 ∧ (∀ x ∈ ws, wordS x = true ∧ x.length ≤ 1000) ∧
  ∀ p xs ds H', H p = none → H' p = some (.lst xs) → DdAll K H' xs ds → ds.length ≤ 6 → wrongAt [] 0 ds = none → (∀ r ∈ ds, okRow r = true ∧ rowD r = true ∧ noLst r = true) → Src K H' a c ns (m + 1000) → But a H H' → Q (.ref p) H'
def keyN (i : Nat) : Str × Str := (if i % 2 = 0 then "first" else "second", if i / 2 = 0 then "go" else if i / 2 = 1 then "put" else "answer")
theorem keyN_inj : ∀ i < 6, ∀ j < 6, keyN i = keyN j → i = j := by decide +kernel
/-- rows that are right, with the keys in order -/
theorem wrong_none : ∀ {rs : List Dt} {seen : List (Str × Str)} {i : Nat}, (∀ q ∈ seen, ∃ j < i, q = keyN j) → i + rs.length ≤ 6 → (∀ j r, rs[j]? = some r → rowD r = true ∧ keyD r = keyN (i + j)) → wrongAt seen i rs = none
  | [], _, _, _, _, _ => rfl
  | r :: rs, seen, i, hs, hl, hr => by
    simp only [List.length_cons] at hl
    obtain ⟨h1, h2⟩ := hr 0 r rfl
    rw [Nat.add_zero] at h2
    unfold wrongAt
    rw [if_neg (by omega), if_neg (by rw [h1]; decide), if_neg]
    · refine wrong_none (fun q hq => ?_) (by omega) (fun j r2 e => ?_)
      · rcases List.mem_cons.mp hq with rfl | hq
        · exact ⟨i, by omega, h2⟩
        · obtain ⟨j, lj, e⟩ := hs q hq
          exact ⟨j, by omega, e⟩
      · have z := hr (j + 1) r2 (by simpa using e)
        rw [show i + 1 + j = i + (j + 1) from by omega]
        exact z
    · intro hq
      obtain ⟨j, lj, e⟩ := hs _ hq
      rw [h2] at e
      have := keyN_inj i (by omega) j (by omega) e
      omega
theorem Src.updL {H : Hp} {a c D : Addr} {ns : List Int} {m : Int} {ys zs : List V} (S : Src K H a c ns m) (h : H D = some (.lst ys)) : Src K (upd H D (.lst zs)) a c ns m := by
  have na : a ≠ D := (S.is.ne h fun _ _ _ z => nomatch z).symm
  obtain ⟨⟨n, r, e, q⟩, cs, few⟩ := S
  refine ⟨⟨n, r, by rw [upd_ne na]; exact e, q⟩, ?_, few⟩
  rcases cs with ⟨o, h2⟩ | h2
  · exact .inl ⟨o, by rw [upd_ne (by rintro rfl; rw [h] at h2; cases h2)]; exact h2⟩
  · exact .inr h2
theorem But.updN {H H' : Hp} {a D : Addr} (b : But a H H') (n : H D = none) (o : HO) : But a H (L2.upd H' D o) := fun x u e ne => by
  rw [upd_ne (ne_of_none e n)]
  exact b x u e ne
theorem but_updL {H : Hp} {D : Addr} {o : HO} : But D H (upd H D o) := fun x u e ne => by
  rw [upd_ne ne]
  exact e
theorem noAll : ∀ {ds : List Dt}, (∀ d ∈ ds, noLst d = true) → noLstAll ds = true
  | [], _ => rfl
  | d :: ds, h => by
    unfold noLstAll
    rw [h d List.mem_cons_self, noAll fun e he => h e (List.mem_cons_of_mem _ he)]
    rfl
theorem ok_good_rows (F : Has K mg "_law_good_rows" s_law_good_rows) (T : Txt K mg)
    (F_law_next : FnQ P w K mg base CX0 1 "_law_next" ["m", "total"] (spNext K)) (F_law_good_deed : FnQ P w K mg base CX0 13 "_law_good_deed" ["m", "titles"] (spGood K)) : FnQ P w K mg base CX0 14 "_law_good_rows" ["m", "titles"] (spRows K) := by
  refine F.q sc_law_good_rows (fun _ _ _ _ _ _ us hl => match us, hl with | [_, _], _ => rfl) (fun vs H Q E h => by obtain ⟨a, c, l, ns, m, xs, rfl, _⟩ := h; rfl) (fun cdv A outer s H vs Q E hr h => ?_)
  obtain ⟨a, c, l, ns, m, ws, rfl, S, hm, hx, nla, lp, lf, hw, k⟩ := h
  refine ⟨_, PSs.nox (pss_cons (ps_set (i := 2) sc_law_good_rows.nd rfl (by first | exact .inl rfl | exact .inr rfl) (pe_lstM pa_nil))
  (pss_cons (ps_for PassesOwn.never rfl (pi_range1 (by rfl) (T.fr "range" (by simp [frees])) (pa_cons (pe_f F_law_next hr pass0 (pa_cons (pv 0) (pa_cons pe_int pa_nil))) pa_nil)) (pg_name (i := 3) sc_law_good_rows.nd rfl (by first | exact .inl rfl | exact .inr rfl))
  (pss_cons (ps_set (i := 4) sc_law_good_rows.nd rfl (by first | exact .inl rfl | exact .inr rfl) (pe_callTy call_tuple_of (by rfl) (T.fr "tuple" (by simp [frees])) PyProof.Rows.boot_tuple (pa_cons (pe_lc (own := [("j", 6)]) (tt := tYes) rfl sc_law_good_rows.nd (pi_range1 (by rfl) (T.fr "range" (by simp [frees])) (pa_cons (pe_ix ix_list (pe_lstM (pa_cons pe_int (pa_cons pe_int (pa_cons pe_int (pa_cons pe_int pa_nil))))) (pe_f F_law_next hr pass0 (pa_cons (pv 0) (pa_cons pe_int pa_nil))) (fun _ _ => rfl)) pa_nil)) (blkOk_by (N := N_law_good_rows) (sc := defScope s_law_good_rows) (by decide +kernel)) (fun _ _ _ _ _ => (pg_name (i := 6) sc_law_good_rows.nd rfl (by first | exact .inl rfl | exact .inr rfl))) (fun _ _ _ _ _ => pts_nil) (fun _ _ _ _ _ => (pe_f F_law_good_deed hr pass0 (pa_cons (pv 0) (pa_cons (pv 1) pa_nil))))) pa_nil)))
  (pss_cons (ps_set (i := 5) sc_law_good_rows.nd rfl (by first | exact .inl rfl | exact .inr rfl) (pe_ix ix_list (pe_lstM (pa_cons pe_int (pa_cons pe_int (pa_cons pe_int pa_nil)))) (pe_f F_law_next hr pass0 (pa_cons (pv 0) (pa_cons pe_int pa_nil))) (fun _ _ => rfl)))
  (pss_one (ps_expr (pe_bm PySem.F.plainAttrs_list PySem.F.slot_list_append PySem.F.type_list_append mt_append (pv 2) (pa_cons (pe_tupM (pa_cons (pe_ix ix_list (pe_lstM (pa_cons pe_str (pa_cons pe_str pa_nil))) (pe_op op_mod (pv 3) pe_int) (fun _ _ => rfl)) (pa_cons (pe_ix ix_list (pe_lstM (pa_cons pe_str (pa_cons pe_str (pa_cons pe_str (pa_cons pe_str pa_nil))))) (pe_op op_fdiv (pv 3) pe_int) (fun _ _ => rfl)) (pa_cons (pv 5) (pa_cons (pv 4) pa_nil))))) pa_nil)))))))
  (pss_one (ps_ret (pv 2))))), ?_⟩
  refine ⟨(by show 0 ≤ sizeLine; decide), fun fl H1 s1 n1 l1 => ?_⟩
  have S1 := S.same s1
  refine ⟨_, rfl, a, c, ns, m, 7, rfl, S1, by omega, by decide, by decide, fun n H2 ln S2 b2 => ?_⟩
  have l2 := b2 _ _ l1 (S1.is.ne l1 fun _ _ _ z => nomatch z)
  refine ⟨n, rfl, by omega, by omega, for_range (n := n) (fun i σ H' => ∃ v3 v4 v5 xs ds, σ = [some (.ref a), some (.ref l), some (.ref fl), v3, v4, v5, none] ∧ H' fl = some (.lst xs) ∧ DdAll K H' xs ds ∧ ds.length = i ∧ (∀ j r, ds[j]? = some r → rowD r = true ∧ keyD r = keyN j ∧ okRow r = true ∧ noLst r = true) ∧ Src K H' a c ns (m + 1 + 100 * i) ∧ But a H H')
    ⟨none, none, none, [], [], rfl, l2, .nil, rfl, fun j r e => by simp at e, S2.more (by omega), (((But.refl a H).same s1).trans b2)⟩ ?_ ?_⟩
  · rintro i σ H3 hi ⟨v3, v4, v5, xs, ds, rfl, l3, D3, ld, good, S3, t3⟩
    refine ⟨(by show 4 ≤ sizeLine; decide), fun p4 H4 s4 n4 l4 => ?_⟩
    have S4 := S3.same s4
    refine ⟨_, rfl, a, c, ns, m + 1 + 100 * i, 4, rfl, S4, by omega, by decide, by decide, fun j4 H5 lj S5 b5 => ?_⟩
    have l4b := b5 _ _ l4 (S4.is.ne l4 fun _ _ _ z => nomatch z)
    obtain ⟨nd, hnd, lnd⟩ : ∃ nd : Nat, [V.int 0, .int 1, .int 2, .int 8][j4]? = some (.int nd) ∧ nd ≤ 8 := by
      rcases j4 with _ | _ | _ | _ | j4
      · exact ⟨0, rfl, by decide⟩
      · exact ⟨1, rfl, by decide⟩
      · exact ⟨2, rfl, by decide⟩
      · exact ⟨8, rfl, by decide⟩
      · omega
    have t5 : But a H H5 := (t3.same s4).trans b5
    refine ⟨p4, _, _, _, rfl, rfl, SqL.of l4b, atI_nat hnd, nd, rfl, by omega, by omega, fun D nD => ?_⟩
    refine lc_it walk_range (n := nd) (fun i2 H' => ∃ ys es, H' D = some (.lst ys) ∧ DdAll K H' ys es ∧ es.length = i2 ∧ (∀ e ∈ es, (deedD e = true ∧ okDeed e = true) ∧ noLst e = true) ∧ Src K H' a c ns (m + 1 + 100 * i + 1 + 9 * i2) ∧ But a H5 H')
      ⟨[], [], upd_same, .nil, rfl, fun e he => (by cases he), (S5.same (Same.new nD)).more (by omega), (But.refl a H5).same (Same.new nD)⟩ (fun _ _ _ _ => trivial) ?_ ?_
    · rintro i2 x H6 H7 li ⟨ys, es, lD, DD, le, ge, S6, b6⟩ ⟨rfl, rfl⟩
      refine ⟨rfl, _, rfl, _, rfl, a, c, l, ns, _, ws, rfl, S6, by omega, (t5.trans b6) l _ hx nla, nla, lp, lf, hw, fun v d H8 hd dd od nd2 S8 b8 => ?_⟩
      have lD8 := b8 _ _ lD (S6.is.ne lD fun _ _ _ z => nomatch z)
      have ly : ys.length = i2 := by rw [DD.len, le]
      refine ⟨ys, lD8, ?_, ys ++ [v], es ++ [d], upd_same, ?_, by simp [le], fun e he => ?_, (S8.updL lD8).more (by omega), (b6.trans b8).updN nD _⟩
      · show ys.length < sizeLine
        exact Nat.lt_of_le_of_lt (show ys.length ≤ 8 by omega) (by decide)
      · exact DdAll_butL but_updL lD8 ((DdAll_but b8 S6.is DD).app (.cons hd .nil)) (noAll fun e he => by
          rcases List.mem_append.mp he with h | h
          · exact (ge e h).2
          · rw [List.mem_singleton.mp h]; exact nd2)
      · rcases List.mem_append.mp he with h | h
        · exact ge e h
        · rw [List.mem_singleton.mp h]; exact ⟨⟨dd, od⟩, nd2⟩
    · rintro H6 ⟨ys, es, lD, DD, le, ge, S6, b6⟩
      refine ⟨D, ys, rfl, .inl ⟨SqL.of lD, fun tl nl => ?_⟩⟩
      have lt : ∀ {b o}, H6 b = some o → upd H6 tl (.tup ys) b = some o := fun {b o} e => Same.new nl _ _ e
      have sT : Same H6 (upd H6 tl (.tup ys)) := Same.new nl
      have lT : upd H6 tl (.tup ys) tl = some (.tup ys) := upd_same
      generalize hT : upd H6 tl (.tup ys) = H7 at *
      have t7 : But a H H7 := (t5.trans b6).same sT
      have S7 := S6.same sT
      have D7 := DD.same sT
      have nes : ds.length ≤ 6 := by omega
      -- what stood
      have bb : But a H3 H7 := (((But.refl a H3).same s4).trans b5).trans (b6.same sT)
      have l7 := bb _ _ l3 (S3.is.ne l3 fun _ _ _ z => nomatch z)
      have E7 := DdAll_but bb S3.is D3
      -- the work
      refine ⟨(by show 3 ≤ sizeLine; decide), fun p8 H8 s8 n8 l8 => ?_⟩
      have S8 := S7.same s8
      refine ⟨_, rfl, a, c, ns, _, 3, rfl, S8, by omega, by decide, by decide, fun j9 H9 lj9 S9 b9 => ?_⟩
      have l8b := b9 _ _ l8 (S8.is.ne l8 fun _ _ _ z => nomatch z)
      obtain ⟨wk, hwk, okw⟩ : ∃ z : Int, [V.int 1, .int 7, .int 1000][j9]? = some (.int z) ∧ isBtw 1 1000 (.int z) = true := by
        rcases j9 with _ | _ | _ | j9
        · exact ⟨1, rfl, by decide +kernel⟩
        · exact ⟨7, rfl, by decide +kernel⟩
        · exact ⟨1000, rfl, by decide +kernel⟩
        · omega
      refine ⟨p8, _, _, _, rfl, rfl, SqL.of l8b, atI_nat hwk, ?_⟩
      have i6 : i < 6 := by omega
      have l9 := b9 _ _ (s8 _ _ l7) (S8.is.ne (s8 _ _ l7) fun _ _ _ z => nomatch z)
      have tyf : tyV K "list" (.ref fl) H9 := .inl ⟨rfl, xs, SqL.of l9⟩
      refine ⟨_, rfl, tyf, (by show 2 ≤ sizeLine; decide), fun q1 G1 x1 y1 z1 => ?_⟩
      have e3 : (0 + (i : Int)) % 2 = ((i % 2 : Nat) : Int) := by omega
      have e4 : (0 + (i : Int)) / 2 = ((i / 2 : Nat) : Int) := by omega
      obtain ⟨md, hmd, kmd, wmd, lmd⟩ : ∃ x : Str, [V.str "first", .str "second"][i % 2]? = some (.str x) ∧ x = (keyN i).1 ∧ isWord (.str x) = true ∧ x.length ≤ 1000 := by
        rcases Nat.mod_two_eq_zero_or_one i with h | h
        · exact ⟨"first", by rw [h]; rfl, (by unfold keyN; rw [if_pos h]), by decide +kernel, by decide +kernel⟩
        · exact ⟨"second", by rw [h]; rfl, (by unfold keyN; rw [if_neg (show ¬ i % 2 = 0 by omega)]), by decide +kernel, by decide +kernel⟩
      obtain ⟨wd, hwd, kwd, wwd, lwd⟩ : ∃ x : Str, [V.str "go", .str "put", .str "answer", .str "x"][i / 2]? = some (.str x) ∧ x = (keyN i).2 ∧ isWord (.str x) = true ∧ x.length ≤ 1000 := by
        have h3 : i / 2 = 0 ∨ i / 2 = 1 ∨ i / 2 = 2 := by omega
        rcases h3 with h | h | h
        · exact ⟨"go", by rw [h]; rfl, (by unfold keyN; rw [if_pos h]), by decide +kernel, by decide +kernel⟩
        · exact ⟨"put", by rw [h]; rfl, (by unfold keyN; rw [if_neg (show ¬ i / 2 = 0 by omega), if_pos h]), by decide +kernel, by decide +kernel⟩
        · exact ⟨"answer", by rw [h]; rfl, (by unfold keyN; rw [if_neg (show ¬ i / 2 = 0 by omega), if_neg (show ¬ i / 2 = 1 by omega)]), by decide +kernel, by decide +kernel⟩
      refine ⟨_, rfl, _, _, rfl, rfl, (by show (0 : Int) < 2; decide), q1, _, _, _, rfl, rfl, SqL.of z1, at_of e3 hmd, (by show 4 ≤ sizeLine; decide), fun q2 G2 x2 y2 z2 => ?_⟩
      refine ⟨_, rfl, _, _, rfl, rfl, ⟨by decide, by decide⟩, q2, _, _, _, rfl, rfl, SqL.of z2, at_of e4 hwd, _, rfl, _, rfl, (by show 4 ≤ sizeLine; decide), fun q3 G3 x3 y3 z3 => ?_⟩
      have x13 := x1.trans (x2.trans x3)
      have l10 := x13 _ _ l9
      refine ⟨fl, xs, _, rfl, rfl, l10, ?_, ?_⟩
      · have : xs.length = ds.length := E7.len
        exact Nat.lt_of_le_of_lt (show xs.length ≤ 6 by omega) (by decide)
      have mv : ∀ {v : V} {d : Dt}, Dd K H7 v d → Dd K G3 v d := fun h => (Dd_but b9 S8.is (h.same s8)).same x13
      have mvA : ∀ {vs : List V} {es : List Dt}, DdAll K H7 vs es → DdAll K G3 vs es := fun h => (DdAll_but b9 S8.is (h.same s8)).same x13
      have row : Dd K G3 (.ref q3) (.tup [.str md, .str wd, .int wk, .tup es]) := .tup (SqT.of z3) (.cons (.str md lmd) (.cons (.str wd lwd) (.cons (.int wk) (.cons (mv (.tup (SqT.of lT) D7)) .nil))))
      have le8 : es.length ≤ 8 := by omega
      have a1 : es.all deedD = true := List.all_eq_true.mpr fun e he => (ge e he).1.1
      have a2 : es.all okDeed = true := List.all_eq_true.mpr fun e he => (ge e he).1.2
      have r1 : rowD (.tup [.str md, .str wd, .int wk, .tup es]) = true := by simp only [rowD, deedsD, wmd, wwd, okw, a1, decide_eq_true le8, Bool.and_self]
      have r2 : okRow (.tup [.str md, .str wd, .int wk, .tup es]) = true := by simp only [okRow, a2, decide_eq_true le8, Bool.and_self]
      have r3 : noLst (.tup [.str md, .str wd, .int wk, .tup es]) = true := by simp only [noLst, noLstAll, noAll (fun e he => (ge e he).2), Bool.and_self]
      have good2 : ∀ j r, (ds ++ [.tup [.str md, .str wd, .int wk, .tup es]])[j]? = some r → rowD r = true ∧ keyD r = keyN j ∧ okRow r = true ∧ noLst r = true := by
        intro j r e
        rcases Nat.lt_or_ge j ds.length with hj | hj
        · rw [List.getElem?_append_left hj] at e
          exact good j r e
        · rw [List.getElem?_append_right hj] at e
          have : j = i := by
            rcases Nat.lt_or_ge (j - ds.length) 1 with q | q
            · omega
            · rw [List.getElem?_eq_none (by simpa using q)] at e; cases e
          subst this
          rw [ld, Nat.sub_self] at e
          cases e
          exact ⟨r1, by rw [show keyD (.tup [.str md, .str wd, .int wk, .tup es]) = (md, wd) from rfl, kmd, kwd], r2, r3⟩
      refine ⟨_, _, _, xs ++ [.ref q3], ds ++ [.tup [.str md, .str wd, .int wk, .tup es]], rfl, upd_same, ?_, by simp [ld], good2, (((S9.same x13).updL l10).more (by omega)), ((((t7.same s8).trans b9).same x13).updN n1 _)⟩
      refine DdAll_butL but_updL l10 ((mvA E7).app (.cons row .nil)) (noAll fun e he => ?_)
      obtain ⟨j, hj, rfl⟩ := List.getElem_of_mem he
      exact (good2 j _ (List.getElem?_eq_getElem hj)).2.2.2
  · rintro σ H3 ⟨v3, v4, v5, xs, ds, rfl, l3, D3, ld, good, S3, t3⟩
    exact ⟨_, rfl, k fl xs ds H3 n1 l3 D3 (by omega) (wrong_none (fun q hq => by cases hq) (by omega) fun j r e => ⟨(good j r e).1, by rw [Nat.zero_add]; exact (good j r e).2.1⟩) (fun r hr => by
      obtain ⟨j, hj, rfl⟩ := List.getElem_of_mem hr
      have z := good j _ (List.getElem?_eq_getElem hj)
      exact ⟨z.2.2.1, z.1, z.2.2.2⟩) (S3.more (by omega)) t3⟩
end
end K53
/-! a tuple times 0 or 1 -/
namespace L2
open PySem PySem.Spec PyProof.Rows
theorem tuple_once (l : Addr) (items : Array Value) (n : Nat) (sl : Array (Option Value)) (u : Tok) (dd : Option Addr) :
    Meets (Builtin.«tuple.__mul__» ⟨[.ref l, .int 1 u], []⟩) (fun _ R s => s.heap.get? l = some { cls := .type "tuple", dict := dd, data := .seq items n, slots := sl } ∧ R (.ok (.ret (Value.ref l))) s) :=
  .of_wp fun prog w A R s h => by
    obtain ⟨hp, g, d, tk, os⟩ := s
    obtain ⟨hl, h⟩ := h
    have f1 := AutoSeq1.idx_int
    have c1 : (items.isEmpty || (1 : Int) == 1) = true := by rw [show ((1 : Int) == 1) = true from rfl, Bool.or_true]
    wp_walk using wpAny_loadPart' hl
    repeat (first
      | (refine wpAny_ite_false (by decide) ?_; wp_walk using wpAny_loadPart' hl)
      | (refine wpAny_ite_true (decide_eq_true c1) ?_; wp_walk using wpAny_loadPart' hl)
      | (refine wpAny_ite_true c1 ?_; wp_walk using wpAny_loadPart' hl))
    exact ⟨_, rfl, h⟩
theorem tuple_zero (l : Addr) (items : Array Value) (n : Nat) (sl : Array (Option Value)) (u : Tok) (dd : Option Addr) (c1 : (items.isEmpty || (0 : Int) == 1) = false) :
    Meets (Builtin.«tuple.__mul__» ⟨[.ref l, .int 0 u], []⟩) (fun _ R s => s.heap.get? l = some { cls := .type "tuple", dict := dd, data := .seq items n, slots := sl } ∧
      R (.ok (.ret (Value.ref s.heap.objs.size))) { s with heap := s.heap.push { cls := Value.type "tuple", data := Data.seq #[] }, toks := s.toks }) :=
  .of_wp fun prog w A R s h => by
    obtain ⟨hp, g, d, tk, os⟩ := s
    obtain ⟨hl, h⟩ := h
    have f1 := AutoSeq1.idx_int
    have c2 : (decide ((0 : Int) ≤ 0) || items.isEmpty) = true := by rw [show decide ((0 : Int) ≤ 0) = true from by decide, Bool.true_or]
    wp_walk using wpAny_loadPart' hl
    repeat (first
      | (refine wpAny_ite_false (by decide) ?_; wp_walk using wpAny_loadPart' hl)
      | (refine wpAny_ite_false (decide_eq_false (by rw [c1]; exact Bool.false_ne_true)) ?_; wp_walk using wpAny_loadPart' hl)
      | (refine wpAny_ite_true (decide_eq_true c2) ?_; wp_walk using wpAny_loadPart' hl)
      | (refine wpAny_ite_true c2 ?_; wp_walk using wpAny_loadPart' hl))
    exact ⟨_, rfl, h⟩
/-- a tuple that isn't empty times 0 or 1 -/
def rRep01 (K : PySem.W.Frag) : R2 := fun x y H Q => ∃ l k xs, x = .ref l ∧ y = .int k ∧ SqT K H l xs ∧ xs ≠ [] ∧ (k = 1 ∧ Q (.ref l) H ∨ k = 0 ∧ ∀ p, H p = none → Q (.ref p) (upd H p (.tup [])))
section
variable {X : Cx}
theorem op_rep01 : OpR X (binaryOp .Mult) (rRep01 X.K) := by
  intro pins s σ H x y v u Q I rx ry h
  obtain ⟨l, k, xs, rfl, rfl, hT, hne, q⟩ := h
  cases rx
  obtain ⟨t, rfl⟩ := ry
  obtain ⟨its, r, ⟨⟨cls, dd, data, sl⟩, ho, hc, n, hd⟩, hs⟩ := I.tuple hT
  simp only at hc hd
  subst hc hd
  have hi : its.toArray.isEmpty = false := by
    cases its with
    | nil => cases r; exact absurd rfl hne
    | cons a b => rfl
  rcases q with ⟨rfl, q⟩ | ⟨rfl, q⟩
  · exact wpAny_binaryOp_repeat_ref (T := "tuple") (U := "int") (by decide) ⟨_, ho, rfl⟩ (fun s' => typeIs_int s' 1 t) noFill_tuple_mul F.fills_int_mul F.slot_int_rmul repeat_tuple F.slot_int_index.lookup
      (call_meets F.slot_int_rmul (typeIs_int s 1 t) F.entry_int_rmul (F.args_int_rmul_2 _ _) (int_rmul_tuple 1 t l its.toArray n dd sl)
        ⟨ho, rfl, ⟨_, ho, rfl⟩, call_meets F.slot_tuple_mul ⟨_, ho, rfl⟩ F.entry_tuple_mul (F.args_tuple_mul_2 _ _) (tuple_once l its.toArray n sl t dd) ⟨ho, ⟨.ref l, H, I.tok _, rfl, q⟩⟩⟩)
  · refine wpAny_binaryOp_repeat_ref (T := "tuple") (U := "int") (by decide) ⟨_, ho, rfl⟩ (fun s' => typeIs_int s' 0 t) noFill_tuple_mul F.fills_int_mul F.slot_int_rmul repeat_tuple F.slot_int_index.lookup
      (call_meets F.slot_int_rmul (typeIs_int s 0 t) F.entry_int_rmul (F.args_int_rmul_2 _ _) (int_rmul_tuple 0 t l its.toArray n dd sl)
        ⟨ho, rfl, ⟨_, ho, rfl⟩, call_meets F.slot_tuple_mul ⟨_, ho, rfl⟩ F.entry_tuple_mul (F.args_tuple_mul_2 _ _) (tuple_zero l its.toArray n sl t dd (by rw [hi]; rfl)) ⟨ho, ?_⟩⟩)
    refine ⟨.ref s.heap.objs.size, _, I.laid (t' := s.toks) (o := .tup []) (fun b ob q => Heap.get?_push_of_some _ q) (Nat.le_refl _) ?_, rfl, q _ (I.hok.fresh (Nat.le_refl _))⟩
    exact ⟨Nat.zero_le _, [], .nil, IsTup.new _ _⟩
end
end L2
namespace K53
open PySem PySem.Spec PyProof.Rows L2
section
variable {P : Program} {w : World} {K : PySem.W.Frag} {mg : Str → Option Value} {base : Heap}
abbrev s_law_wrong_row : Stmt := (top 68)
def N_law_wrong_row : List Str := ["m", "row", "mode", "word", "work", "deeds", "some", "more"]
theorem sc_law_wrong_row : FnScope N_law_wrong_row ["m", "row"] (defScope s_law_wrong_row) := ⟨rfl, rfl, rfl, by decide +kernel, rfl, by decide +kernel, by decide +kernel⟩
/-- a value that is no deed -/
def spBadDeed (K : PySem.W.Frag) : Sp := fun vs H Q _ => ∃ (a c : Addr) (ns : List Int) (m : Int), vs = [.ref a] ∧ Src K H a c ns m ∧ m ≤ 900000 ∧ ∀ v d H', Dd K H' v d → deedD d = false → Src K H' a c ns (m + 8) → But a H H' → Q v H'
/-- a value that is no row -/
def spBadRow (K : PySem.W.Frag) : Sp := fun vs H Q _ => ∃ (a c : Addr) (ns : List Int) (m : Int) (r : V) (md wd : Str) (wk : Int) (es : List Dt), vs = [.ref a, r] ∧ Src K H a c ns m ∧ m ≤ 800000 ∧ Dd K H r (.tup [.str md, .str wd, .int wk, .tup es]) ∧ es.length ≤ 8 ∧
  ∀ v d H', Dd K H' v d → rowD d = false → Src K H' a c ns (m + 20) → But a H H' → Q v H'
theorem cat_any {H : Hp} {a b : Addr} {xs ys : List V} {Q : VK} (h1 : SqT K H a xs) (h2 : SqT K H b ys) (h3 : xs.length + ys.length ≤ sizeLine) (k : ∀ o G, Same H G → SqT K G o (xs ++ ys) → Q (.ref o) G) : rCatA K (.ref a) (.ref b) H Q := by
  refine ⟨a, b, xs, ys, rfl, rfl, h1, h2, h3, fun e => ?_, fun _ e => ?_, fun _ _ p hp => k p _ (Same.new hp) (SqT.of upd_same)⟩
  · subst e
    exact k b H (Same.refl H) h2
  · subst e
    exact k a H (Same.refl H) (by rw [List.append_nil]; exact h1)
theorem rep_any {H : Hp} {a : Addr} {xs : List V} {z : Int} {Q : VK} (h1 : SqT K H a xs) (ne : xs ≠ []) (hz : z = 0 ∨ z = 1) (k : ∀ o G qs, Same H G → SqT K G o qs → (qs = xs ∨ qs = []) → Q (.ref o) G) : rRep01 K (.ref a) (.int z) H Q := by
  refine ⟨a, z, xs, rfl, rfl, h1, ne, ?_⟩
  rcases hz with rfl | rfl
  · exact .inr ⟨rfl, fun p hp => k p _ [] (Same.new hp) (SqT.of upd_same) (.inr rfl)⟩
  · exact .inl ⟨rfl, k a H xs (Same.refl H) h1 (.inl rfl)⟩
theorem ok_law_wrong_row (F : Has K mg "_law_wrong_row" s_law_wrong_row) (T : Txt K mg) (F_law_wrong_deed : FnQ P w K mg base CX0 16 "_law_wrong_deed" ["m"] (spBadDeed K)) (F_law_of : FnQ P w K mg base CX0 2 "_law_of" ["m", "items"] (spOf K)) :
    FnQ P w K mg base CX0 17 "_law_wrong_row" ["m", "row"] (spBadRow K) := by
  refine F.q sc_law_wrong_row (fun _ _ _ _ _ _ us hl => match us, hl with | [_, _], _ => rfl) (fun vs H Q E h => by obtain ⟨_, _, _, _, _, _, _, _, _, rfl, _⟩ := h; rfl) (fun cdv A outer s H vs Q E hr h => ?_)
  obtain ⟨a, c, ns, m, r, md, wd, wk, es, rfl, S, hm, hr2, le8, k⟩ := h
  have gL : mg "len" = none := T.fr _ (by simp [frees])
  refine ⟨_, PSs.nox (pss_cons (ps_asg (pv 1) (pg_tup rfl (pgs_cons (pg_name (i := 2) sc_law_wrong_row.nd rfl (by first | exact .inl rfl | exact .inr rfl)) (pgs_cons (pg_name (i := 3) sc_law_wrong_row.nd rfl (by first | exact .inl rfl | exact .inr rfl)) (pgs_cons (pg_name (i := 4) sc_law_wrong_row.nd rfl (by first | exact .inl rfl | exact .inr rfl)) (pgs_cons (pg_name (i := 5) sc_law_wrong_row.nd rfl (by first | exact .inl rfl | exact .inr rfl)) pgs_nil))))))
  (pss_cons (ps_set (i := 6) sc_law_wrong_row.nd rfl (by first | exact .inl rfl | exact .inr rfl) (pe_lstM (pa_cons pe_non (pa_cons (pe_tupM pa_nil) (pa_cons (pe_callTy call_list_of (by rfl) (T.fr "list" (by simp [frees])) PyProof.Rows.boot_list (pa_cons (pv 1) pa_nil)) (pa_cons (pe_slice sl_tup (pv 1) po_none (po_some pe_int)) (pa_cons (pe_op op_catA (pv 1) (pe_tupM (pa_cons pe_int pa_nil))) (pa_cons (pe_tupM (pa_cons pe_str (pa_cons (pv 3) (pa_cons (pv 4) (pa_cons (pv 5) pa_nil))))) (pa_cons (pe_tupM (pa_cons (pv 2) (pa_cons pe_str (pa_cons (pv 4) (pa_cons (pv 5) pa_nil))))) pa_nil)))))))))
  (pss_cons (ps_set (i := 6) sc_law_wrong_row.nd rfl (by first | exact .inl rfl | exact .inr rfl) (pe_op op_cat (pv 6) (pe_lstM (pa_cons (pe_tupM (pa_cons (pv 2) (pa_cons (pv 3) (pa_cons pe_int (pa_cons (pv 5) pa_nil))))) (pa_cons (pe_tupM (pa_cons (pv 2) (pa_cons (pv 3) (pa_cons pe_int (pa_cons (pv 5) pa_nil))))) (pa_cons (pe_tupM (pa_cons (pv 2) (pa_cons (pv 3) (pa_cons pe_bl (pa_cons (pv 5) pa_nil))))) pa_nil))))))
  (pss_cons (ps_set (i := 7) sc_law_wrong_row.nd rfl (by first | exact .inl rfl | exact .inr rfl) (pe_op op_catA (pe_op op_catA (pv 5) (pe_op op_rep01 (pe_tupM (pa_cons (pe_f F_law_wrong_deed hr pass0 (pa_cons (pv 0) pa_nil)) pa_nil)) (pe_callTy call_int1 (by rfl) (T.fr "int" (by simp [frees])) PyProof.Rows.boot_int (pa_cons (pe_cmpR op_lt (pe_callB call_len_seq (by rfl) gL boot_len (pa_cons (pv 5) pa_nil)) pe_int (by first | exact nomark _ | rfl)) pa_nil)))) (pe_tupM (pa_cons pe_int pa_nil))))
  (pss_cons (ps_set (i := 6) sc_law_wrong_row.nd rfl (by first | exact .inl rfl | exact .inr rfl) (pe_op op_cat (pv 6) (pe_lstM (pa_cons (pe_tupM (pa_cons (pv 2) (pa_cons (pv 3) (pa_cons (pv 4) (pa_cons (pe_callTy call_list_of (by rfl) (T.fr "list" (by simp [frees])) PyProof.Rows.boot_list (pa_cons (pv 5) pa_nil)) pa_nil))))) (pa_cons (pe_tupM (pa_cons (pv 2) (pa_cons (pv 3) (pa_cons (pv 4) (pa_cons pe_non pa_nil))))) (pa_cons (pe_tupM (pa_cons (pv 2) (pa_cons (pv 3) (pa_cons (pv 4) (pa_cons (pv 7) pa_nil))))) pa_nil))))))
  (pss_cons (ps_set (i := 6) sc_law_wrong_row.nd rfl (by first | exact .inl rfl | exact .inr rfl) (pe_op op_cat (pv 6) (pe_lstM (pa_cons (pe_tupM (pa_cons (pv 2) (pa_cons (pv 3) (pa_cons (pv 4) (pa_cons (pe_op op_repT (pe_tupM (pa_cons (pe_tupM (pa_cons pe_str (pa_cons pe_str pa_nil))) pa_nil)) pe_int) pa_nil))))) (pa_cons (pe_tupM (pa_cons pe_non (pa_cons (pv 3) (pa_cons (pv 4) (pa_cons (pv 5) pa_nil))))) (pa_cons (pe_tupM (pa_cons (pv 2) (pa_cons (pv 3) (pa_cons pe_str (pa_cons (pv 5) pa_nil))))) pa_nil))))))
  (pss_one (ps_ret (pe_f F_law_of hr pass0 (pa_cons (pv 0) (pa_cons (pv 6) pa_nil))))))))))), ?_⟩
  obtain ⟨b, ys, rfl, hy, hys, _⟩ := tup_len hr2
  obtain ⟨v1, v2, v3, v4, rfl, h1, h2, h3, h4⟩ := hys.four
  cases h1 with | str _ lmd => ?_
  cases h2 with | str _ lwd => ?_
  cases h3
  obtain ⟨dp, zs, rfl, hz, hzs, lz⟩ := tup_len h4
  refine ⟨_, rfl, b, _, rfl, hy, rfl, _, _, rfl, _, _, rfl, _, _, rfl, _, _, rfl, rfl, ?_⟩
  have D4 : Dd K H (.ref dp) (.tup es) := .tup hz hzs
  -- list(row), row[:3], row + (1,)
  refine ⟨(by show 0 ≤ sizeLine; decide), fun u1 G1 x1 y1 z1 => ?_⟩
  have hy1 := x1.sqT hy
  refine ⟨_, rfl, b, _, rfl, .inr hy1, fun u2 ln2 => ?_⟩
  have x2 : Same G1 (upd G1 u2 (.lst [V.str md, .str wd, .int wk, .ref dp])) := Same.new ln2
  have z2 : (upd G1 u2 (.lst [V.str md, .str wd, .int wk, .ref dp])) u2 = some (.lst [V.str md, .str wd, .int wk, .ref dp]) := upd_same
  generalize upd G1 u2 (.lst [V.str md, .str wd, .int wk, .ref dp]) = G2 at *
  refine ⟨_, rfl, 3, rfl, b, _, rfl, x2.sqT hy1, (by show ¬ (HT.sIx 4 0 none = 0 ∧ HT.sIx 4 4 (some 3) = 4); decide), fun u3 ln3 => ?_⟩
  have x3 : Same G2 (upd G2 u3 (.tup (cutV [V.str md, .str wd, .int wk, .ref dp] none (some 3)))) := Same.new ln3
  have z3 : (upd G2 u3 (.tup (cutV [V.str md, .str wd, .int wk, .ref dp] none (some 3)))) u3 = some (.tup [V.str md, .str wd, .int wk]) := upd_same
  generalize upd G2 u3 (.tup (cutV [V.str md, .str wd, .int wk, .ref dp] none (some 3))) = G3 at *
  refine ⟨_, rfl, (by show 1 ≤ sizeLine; decide), fun u4 G4 x4 y4 z4 => ?_⟩
  refine ⟨b, u4, _, _, rfl, rfl, x4.sqT (x3.sqT (x2.sqT hy1)), SqT.of z4, (by show 5 ≤ sizeLine; decide), fun e => (by cases e), fun _ e => (by cases e), fun _ _ u5 ln5 => ?_⟩
  have x5 : Same G4 (upd G4 u5 (.tup ([V.str md, .str wd, .int wk, .ref dp] ++ [.int 1]))) := Same.new ln5
  have z5 : (upd G4 u5 (.tup ([V.str md, .str wd, .int wk, .ref dp] ++ [.int 1]))) u5 = some (.tup [V.str md, .str wd, .int wk, .ref dp, .int 1]) := upd_same
  generalize upd G4 u5 (.tup ([V.str md, .str wd, .int wk, .ref dp] ++ [.int 1])) = G5 at *
  refine ⟨_, rfl, _, rfl, _, rfl, (by show 4 ≤ sizeLine; decide), fun u6 G6 x6 y6 z6 => ?_⟩
  refine ⟨_, rfl, _, rfl, _, rfl, (by show 4 ≤ sizeLine; decide), fun u7 G7 x7 y7 z7 => ⟨(by show 7 ≤ sizeLine; decide), fun l1 G8 x8 y8 z8 => ?_⟩⟩
  have e1 := D4.same x1
  have e2 := e1.same x2
  have e3 := e2.same x3
  have e5 := (e3.same x4).same x5
  have e6 := e5.same x6
  have e7 := e6.same x7
  have e8 := e7.same x8
  have mk4 : ∀ {G : Hp} {u : Addr} {v1 v2 v3 : V} {d1 d2 d3 : Dt}, G u = some (.tup [v1, v2, v3, .ref dp]) → Dd K G v1 d1 → Dd K G v2 d2 → Dd K G v3 d3 → Dd K G (.ref dp) (.tup es) → Dd K G (.ref u) (.tup [d1, d2, d3, .tup es]) := fun z h1 h2 h3 h4 => .tup (SqT.of z) (.cons h1 (.cons h2 (.cons h3 (.cons h4 .nil))))
  have x28 := x3.trans (x4.trans (x5.trans (x6.trans (x7.trans x8))))
  have D8 : DdAll K G8 [.non, .ref u1, .ref u2, .ref u3, .ref u5, .ref u6, .ref u7] [.non, .tup [], .lst [.str md, .str wd, .int wk, .tup es], .tup [.str md, .str wd, .int wk], .tup [.str md, .str wd, .int wk, .tup es, .int 1], .tup [.str "First", .str wd, .int wk, .tup es], .tup [.str md, .str "", .int wk, .tup es]] :=
    .cons .non (.cons ((Dd.tup (SqT.of z1) .nil).same (x2.trans x28)) (.cons ((Dd.lst (SqL.of z2) (.cons (.str md lmd) (.cons (.str wd lwd) (.cons (.int wk) (.cons e2 .nil))))).same x28) (.cons ((Dd.tup (SqT.of z3) (.cons (.str md lmd) (.cons (.str wd lwd) (.cons (.int wk) .nil)))).same (x4.trans (x5.trans (x6.trans (x7.trans x8)))))
      (.cons ((Dd.tup (SqT.of z5) (.cons (.str md lmd) (.cons (.str wd lwd) (.cons (.int wk) (.cons e5 (.cons (.int 1) .nil)))))).same (x6.trans (x7.trans x8))) (.cons ((mk4 z6 (.str "First") (.str wd lwd) (.int wk) e6).same (x7.trans x8)) (.cons ((mk4 z7 (.str md lmd) (.str "") (.int wk) e7).same x8) .nil))))))
  have S8 : Src K G8 a c ns m := S.same (x1.trans (x2.trans x28))
  have t8 : But a H G8 := (But.refl a H).same (x1.trans (x2.trans x28))
  -- works that are none
  refine ⟨_, rfl, _, rfl, _, rfl, _, rfl, (by show 4 ≤ sizeLine; decide), fun u8 G9 x9 y9 z9 => ?_⟩
  refine ⟨_, rfl, _, rfl, _, rfl, (by show 4 ≤ sizeLine; decide), fun u9 G10 x10 y10 z10 => ?_⟩
  refine ⟨_, rfl, _, rfl, _, rfl, (by show 4 ≤ sizeLine; decide), fun u10 G11 x11 y11 z11 => ⟨(by show 3 ≤ sizeLine; decide), fun l2 G12 x12 y12 z12 => ?_⟩⟩
  have x912 := x9.trans (x10.trans (x11.trans x12))
  refine cat_new (x912 _ _ z8) z12 (by show 10 ≤ sizeLine; decide) fun l3 G13 x13 z13 => ?_
  have e9 := e8.same x9
  have e10 := e9.same x10
  have e11 := e10.same x11
  have D13 := ((D8.same x912).app (.cons ((mk4 z9 (.str md lmd) (.str wd lwd) (.int 0) e9).same (x10.trans (x11.trans x12))) (.cons ((mk4 z10 (.str md lmd) (.str wd lwd) (.int 1001) e10).same (x11.trans x12)) (.cons ((mk4 z11 (.str md lmd) (.str wd lwd) (.bl true) e11).same x12) .nil)))).same x13
  have S13 := S8.same (x912.trans x13)
  have t13 := t8.same (x912.trans x13)
  have e13 := e11.same (x12.trans x13)
  -- one deed too many, or what is none
  refine ⟨_, rfl, _, rfl, a, c, ns, m, rfl, S13, by omega, fun bv bd G14 hbd bad S14 b14 => ⟨(by show 1 ≤ sizeLine; decide), fun u11 G15 x15 y15 z15 => ?_⟩⟩
  have e15 := (Dd_but b14 S13.is e13).same x15
  have hz15 : SqT K G15 dp zs := x15.sqT (b14.sqT S13.is (x13.sqT (x12.sqT (x11.sqT (x10.sqT (x9.sqT ((x2.trans x28).sqT (x1.sqT hz))))))))
  refine ⟨_, rfl, dp, _, rfl, .inr hz15, _, _, rfl, rfl, .inr ⟨_, rfl, rep_any (SqT.of z15) (by simp) (by split <;> simp) fun o1 G16 qs x16 q1 q2 => ?_⟩⟩
  obtain ⟨qd, hqd⟩ : ∃ qd, DdAll K G16 qs qd := by
    rcases q2 with rfl | rfl
    · exact ⟨[bd], .cons ((hbd.same x15).same x16) .nil⟩
    · exact ⟨[], .nil⟩
  have lq : qs.length ≤ 1 := by rcases q2 with rfl | rfl <;> simp
  have lz8 : zs.length ≤ 8 := by have := hzs.len; omega
  refine cat_any (x16.sqT hz15) q1 (Nat.le_trans (show zs.length + qs.length ≤ 9 by omega) (by decide)) fun o2 G17 x17 q3 => ⟨(by show 1 ≤ sizeLine; decide), fun u12 G18 x18 y18 z18 => ?_⟩
  refine cat_any (x18.sqT q3) (SqT.of z18) (Nat.le_trans (show (zs ++ qs).length + [V.int 7].length ≤ 10 by simp; omega) (by decide)) fun o3 G19 x19 q4 => ?_
  have x1619 := x16.trans (x17.trans (x18.trans x19))
  have hzs19 : DdAll K G19 zs es := by
    have z := (DdAll_but b14 S13.is (hzs.same (x1.trans (x2.trans (x28.trans (x912.trans x13)))))).same (x15.trans x1619)
    exact z
  have more : Dd K G19 (.ref o3) (.tup (es ++ qd ++ [.int 7])) := .tup q4 ((hzs19.app (hqd.same (x17.trans (x18.trans x19)))).app (.cons (.int 7) .nil))
  have e19 := e15.same x1619
  have x1519 := x15.trans x1619
  have D19 := (DdAll_but b14 S13.is D13).same x1519
  have z13b := x1519 _ _ (b14 _ _ z13 (S13.is.ne z13 fun _ _ _ z => nomatch z))
  have S19 := S14.same x1519
  have t19 := (t13.trans b14).same x1519
  have hz19 : SqT K G19 dp zs := x1619.sqT hz15
  refine ⟨_, rfl, _, rfl, _, rfl, _, rfl, _, rfl, dp, _, rfl, .inr hz19, fun u13 ln13 => ?_⟩
  have x20 : Same G19 (upd G19 u13 (.lst zs)) := Same.new ln13
  have z20 : (upd G19 u13 (.lst zs)) u13 = some (.lst zs) := upd_same
  generalize upd G19 u13 (.lst zs) = G20 at *
  refine ⟨(by show 4 ≤ sizeLine; decide), fun u14 G21 x21 y21 z21 => ?_⟩
  refine ⟨_, rfl, _, rfl, _, rfl, (by show 4 ≤ sizeLine; decide), fun u15 G22 x22 y22 z22 => ?_⟩
  refine ⟨_, rfl, _, rfl, _, rfl, _, rfl, (by show 4 ≤ sizeLine; decide), fun u16 G23 x23 y23 z23 => ⟨(by show 3 ≤ sizeLine; decide), fun l4 G24 x24 y24 z24 => ?_⟩⟩
  have x2024 := x20.trans (x21.trans (x22.trans (x23.trans x24)))
  refine cat_new (x2024 _ _ z13b) z24 (by show 13 ≤ sizeLine; decide) fun l5 G25 x25 z25 => ?_
  have D25 := ((D19.same x2024).app (.cons ((Dd.tup (SqT.of z21) (.cons (.str md lmd) (.cons (.str wd lwd) (.cons (.int wk) (.cons ((Dd.lst (SqL.of z20) (hzs19.same x20)).same x21) .nil))))).same (x22.trans (x23.trans x24)))
    (.cons ((Dd.tup (SqT.of z22) (.cons (.str md lmd) (.cons (.str wd lwd) (.cons (.int wk) (.cons .non .nil))))).same (x23.trans x24)) (.cons ((Dd.tup (SqT.of z23) (.cons (.str md lmd) (.cons (.str wd lwd) (.cons (.int wk) (.cons (more.same (x20.trans (x21.trans (x22.trans x23)))) .nil))))).same x24) .nil)))).same x25
  have e25 := e19.same (x2024.trans x25)
  have S25 := S19.same (x2024.trans x25)
  have t25 := t19.same (x2024.trans x25)
  -- nine deeds, no mode, no work
  refine ⟨_, rfl, _, rfl, _, rfl, _, rfl, (by show 2 ≤ sizeLine; decide), fun u17 G26 x26 y26 z26 => ⟨(by show 1 ≤ sizeLine; decide), fun u18 G27 x27 y27 z27 => ?_⟩⟩
  refine ⟨u18, 9, _, rfl, rfl, SqT.of z27, (by simp), by decide, by decide, (by show 1 ≤ 1000; decide), fun u19 ln19 => ?_⟩
  have x28b : Same G27 (upd G27 u19 (.tup [V.ref u17, V.ref u17, V.ref u17, V.ref u17, V.ref u17, V.ref u17, V.ref u17, V.ref u17, V.ref u17])) := Same.new ln19
  have z28 : (upd G27 u19 (.tup [V.ref u17, V.ref u17, V.ref u17, V.ref u17, V.ref u17, V.ref u17, V.ref u17, V.ref u17, V.ref u17])) u19 = some (.tup [V.ref u17, V.ref u17, V.ref u17, V.ref u17, V.ref u17, V.ref u17, V.ref u17, V.ref u17, V.ref u17]) := upd_same
  have d17 : Dd K (upd G27 u19 (.tup [V.ref u17, V.ref u17, V.ref u17, V.ref u17, V.ref u17, V.ref u17, V.ref u17, V.ref u17, V.ref u17])) (.ref u17) (.tup [.str "note", .str "go"]) := ((Dd.tup (SqT.of z26) (.cons (.str "note") (.cons (.str "go") .nil))).same x27).same x28b
  have d9 : Dd K (upd G27 u19 (.tup [V.ref u17, V.ref u17, V.ref u17, V.ref u17, V.ref u17, V.ref u17, V.ref u17, V.ref u17, V.ref u17])) (.ref u19) (.tup [.tup [.str "note", .str "go"], .tup [.str "note", .str "go"], .tup [.str "note", .str "go"], .tup [.str "note", .str "go"], .tup [.str "note", .str "go"], .tup [.str "note", .str "go"], .tup [.str "note", .str "go"], .tup [.str "note", .str "go"], .tup [.str "note", .str "go"]]) := .tup (SqT.of z28) (.cons d17 (.cons d17 (.cons d17 (.cons d17 (.cons d17 (.cons d17 (.cons d17 (.cons d17 (.cons d17 .nil)))))))))
  generalize hG28 : upd G27 u19 (.tup [V.ref u17, V.ref u17, V.ref u17, V.ref u17, V.ref u17, V.ref u17, V.ref u17, V.ref u17, V.ref u17]) = G28 at *
  refine ⟨(by show 4 ≤ sizeLine; decide), fun u20 G29 x29 y29 z29 => ?_⟩
  have x29b : Same G28 G29 := by rw [← hG28]; exact x29
  refine ⟨_, rfl, _, rfl, _, rfl, (by show 4 ≤ sizeLine; decide), fun u21 G30 x30 y30 z30 => ?_⟩
  refine ⟨_, rfl, _, rfl, _, rfl, (by show 4 ≤ sizeLine; decide), fun u22 G31 x31 y31 z31 => ⟨(by show 3 ≤ sizeLine; decide), fun l6 G32 x32 y32 z32 => ?_⟩⟩
  have x2632 := x26.trans (x27.trans (x28b.trans (x29b.trans (x30.trans (x31.trans x32)))))
  refine cat_new (x2632 _ _ z25) z32 (by show 16 ≤ sizeLine; decide) fun l7 G33 x33 z33 => ?_
  have e29 := e25.same (x26.trans (x27.trans (x28b.trans x29b)))
  have e30 := e29.same x30
  have e31 := e30.same x31
  have D33 := ((D25.same x2632).app (.cons ((Dd.tup (SqT.of z29) (.cons (.str md lmd) (.cons (.str wd lwd) (.cons (.int wk) (.cons (d9.same x29b) .nil))))).same (x30.trans (x31.trans x32)))
    (.cons ((mk4 z30 .non (.str wd lwd) (.int wk) e30).same (x31.trans x32)) (.cons ((mk4 z31 (.str md lmd) (.str wd lwd) (.str "1") e31).same x32) .nil)))).same x33
  have S33 := S25.same (x2632.trans x33)
  have t33 := t25.same (x2632.trans x33)
  have wF : isWord (.str "First") = false := by decide +kernel
  have wE : isWord (.str "") = false := by decide +kernel
  have b0 : isBtw 1 1000 (.int 0) = false := by decide +kernel
  have b1 : isBtw 1 1000 (.int 1001) = false := by decide +kernel
  have bt : isBtw 1 1000 (.bl true) = false := by decide +kernel
  have bs : isBtw 1 1000 (.str "1") = false := by decide +kernel
  have nm : deedsD (.tup (es ++ qd ++ [.int 7])) = false := by
    simp [deedsD, deedD]
  have n9 : deedsD (.tup [.tup [.str "note", .str "go"], .tup [.str "note", .str "go"], .tup [.str "note", .str "go"], .tup [.str "note", .str "go"], .tup [.str "note", .str "go"], .tup [.str "note", .str "go"], .tup [.str "note", .str "go"], .tup [.str "note", .str "go"], .tup [.str "note", .str "go"]]) = false := by decide +kernel
  refine ⟨_, rfl, _, rfl, a, c, l7, ns, m + 8, _, rfl, S33, by omega, z33, S33.is.ne z33 (fun _ _ _ z => nomatch z), (by show 0 < 16; decide), (by show 16 ≤ 1000; decide), fun j v H' ej S' b' => ?_⟩
  obtain ⟨d, ed, hd⟩ := D33.get ej
  refine k v d H' (Dd_but b' S33.is hd) ?_ (S'.more (by omega)) (t33.trans b')
  have hm2 := List.mem_of_getElem? ed
  simp only [List.cons_append, List.nil_append, List.mem_cons, List.not_mem_nil, or_false] at hm2
  rcases hm2 with rfl | rfl | rfl | rfl | rfl | rfl | rfl | rfl | rfl | rfl | rfl | rfl | rfl | rfl | rfl | rfl
  · rfl
  · rfl
  · rfl
  · rfl
  · rfl
  · simp only [rowD, wF, Bool.false_and]
  · simp only [rowD, wE, Bool.false_and, Bool.and_false]
  · simp only [rowD, b0, Bool.false_and, Bool.and_false]
  · simp only [rowD, b1, Bool.false_and, Bool.and_false]
  · simp only [rowD, bt, Bool.false_and, Bool.and_false]
  · simp only [rowD, deedsD, Bool.and_false]
  · simp only [rowD, deedsD, Bool.and_false]
  · simp only [rowD, nm, Bool.and_false]
  · simp only [rowD, n9, Bool.and_false]
  · simp only [rowD, isWord, Bool.false_and]
  · simp only [rowD, bs, Bool.false_and, Bool.and_false]
end
end K53
/-! SupervisorPlan(name): no children, all settings by default -/
namespace K53
open PySem PySem.Spec PyProof.Rows L2
/-- looked up, one after the other; then t' -/
def KwTo {α : Type} (D : Addr) : List (Str × Value) → Sem α → Sem α → Prop
  | [], t, t' => t = t'
  | q :: l, t, t' => ∃ (β γ : Type) (k1 : Option Value → Sem β) (k2 : β → Sem γ) (k3 : γ → Sem α) (a : β), t = ((nsGet D q.1 >>= k1) >>= k2) >>= k3 ∧ k1 (some q.2) = pure a ∧ KwTo D l (k2 a >>= k3) t'
theorem KwTo.run {α : Type} {K : PySem.W.Frag} {M : Model} {D : Addr} {A : Around} {Q : α → Shared → Prop} {E : Value → Shared → Prop} {s : Shared} (X : K.In s.heap) : ∀ {l : List (Str × Value)} {t t' : Sem α}, (∀ q ∈ l, PySem.W.nsIn K D q.1 = some (some q.2)) → KwTo D l t t' → wpAny M A t' Q E s → wpAny M A t Q E s
  | [], t, t', _, e, h => by
    rw [show t = t' from e]
    exact h
  | q :: l, t, t', hl, e, h => by
    obtain ⟨β, γ, k1, k2, k3, a, e1, e2, e3⟩ := e
    have l1 : PySem.W.Looks M s.heap (nsGet D q.1 >>= k1) a := (PySem.W.looks_nsIn X (hl q (List.mem_cons_self ..))).andThen (PySem.W.Looks.of_pure e2)
    rw [e1, bind_assoc]
    exact wpAny_bind (l1.here (KwTo.run X (fun p hp => hl p (List.mem_cons_of_mem _ hp)) e3 h))
section
variable {P : Program} {w : World} {K : PySem.W.Frag} {mg : Str → Option Value} {base : Heap}
abbrev s_check_children : Stmt := (top 56)
def N_check_children : List Str := ["children", "many", "index", "child"]
theorem sc_check_children : FnScope N_check_children ["children"] (defScope s_check_children) := ⟨rfl, rfl, rfl, by decide +kernel, rfl, by decide +kernel, by decide +kernel⟩
abbrev s_SupervisorPlan___init__ : Stmt := (inClass (top 52) 0)
def N_SupervisorPlan___init__ : List Str := ["self", "name", "restart", "strategy", "most", "span", "deadline", "children"]
theorem sc_SupervisorPlan___init__ : FnScope N_SupervisorPlan___init__ ["self", "name", "restart", "strategy", "most", "span", "deadline", "children"] (defScope s_SupervisorPlan___init__) := ⟨rfl, rfl, rfl, by decide +kernel, rfl, by decide +kernel, by decide +kernel⟩
/-- what is never asked needs no reading -/
def neverS : TS := fun _ _ _ => False
theorem pss_never {X : Cx} (b : List Stmt) : PSs X b neverS := ⟨fun _ _ _ _ _ _ h => (show False from h).elim⟩
/-- no children -/
abbrev spNoKids (K : PySem.W.Frag) : Sp := fun vs H Q _ => ∃ p, vs = [.ref p] ∧ SqT K H p [] ∧ ∀ H', Same H H' → Q .non H'
theorem ok_check_children (F : Has K mg "_check_children" s_check_children) (T : Txt K mg) : FnQ P w K mg base CX0 1 "_check_children" ["children"] (spNoKids K) := by
  refine F.q sc_check_children (fun _ _ _ _ _ _ us hl => match us, hl with | [_], _ => rfl) (fun vs H Q E h => by obtain ⟨p, rfl, _⟩ := h; rfl) (fun cdv A outer s H vs Q E hr h => ?_)
  obtain ⟨p, rfl, hp, k⟩ := h
  refine ⟨_, PSs.nox (pss_cons (ps_set (i := 1) sc_check_children.nd rfl (by first | exact .inl rfl | exact .inr rfl) pe_int) (pss_one (ps_for PassesOwn.never rfl (pi_enumT (by rfl) (T.fr "enumerate" (by simp [frees])) (pa_cons (pv 0) pa_nil)) (pg_tup rfl (pgs_cons (pg_name (i := 2) sc_check_children.nd rfl (.inl rfl)) (pgs_cons (pg_name (i := 3) sc_check_children.nd rfl (.inl rfl)) pgs_nil))) (pss_never _)))), ?_⟩
  refine ⟨_, rfl, p, [], rfl, hp, for_it walk_enumT (fun i σ H' => Same H H') (Same.refl H) (fun i σ H' _ h => h.sqT hp) (fun i v σ H1 H2 hi => (by simp at hi)) fun σ H' s => k H' s⟩
def supSet (d1 : Dt) : List (Str × Bool) := [("name", isPlace d1), ("restart", isOne restarts (.str "permanent")), ("strategy", isOne ["one", "rest", "all"] (.str "one")), ("most", isBtw 0 20 (.int 1)), ("span", isBtw 1 1000000000 (.int 10)), ("deadline", deadD .non)]
abbrev sNames : List Str := ["name", "children", "restart", "strategy", "most", "span", "deadline"]
/-- what is asked of the class SupervisorPlan -/
structure Su (K : PySem.W.Frag) (mg : Str → Option Value) : Prop where
  gl : mg "SupervisorPlan" = some (.ref (suA K))
  cl : Cls K (suA K)
  na : ∀ f ∈ sNames, NoAttr K (suA K) f
  mkr : Mk K (suA K) (He.ma K (suA K) "__init__")
def sDef : List (Str × V) := [("restart", .str "permanent"), ("strategy", .str "one"), ("most", .int 1), ("span", .int 10), ("deadline", .non)]
/-- a right name, no children, the defaults -/
abbrev spSInit (K : PySem.W.Frag) : Sp := fun vs H Q _ => ∃ a dx v1 d1 p, vs = [.ref a, v1, .str "permanent", .str "one", .int 1, .int 10, .non, .ref p] ∧ H a = some (.ins (suA K) dx []) ∧ Dd K H v1 d1 ∧ isPlace d1 = true ∧ SqT K H p [] ∧
  ∀ H' fs, Same H H' → Q .non (upd H' a (.ins (suA K) dx fs))
theorem passNo2 {X : Cx} : Passes (L2.CX P w) X (fun _ _ _ => False) := fun _ _ _ _ _ _ _ h => by
  obtain ⟨_, _, _, _, _, _, _, _, _, _, _, _, z⟩ := h
  exact z.elim
theorem sup_body {A : Around} {outer : List Env} {s : Shared} {H : Hp} {vs : List V} {Q : VK} {E : XK} {f : Addr} {cdv : Value} (T : Txt K mg) (W : Su K mg) (hr : Room 5 (A.deeper (envOfC "SupervisorPlan.__init__" (defScope s_SupervisorPlan___init__) s.heap.objs.size f cdv)))
    (F_check_settings : FnQ P w K mg base (L2.CX P w) 2 "_check_settings" ["checks"] (spSettings K)) (F_is_place_name : FnQ P w K mg base CX0 2 "is_place_name" ["value"] (spChk K isPlace)) (F_is_one_of : FnQ P w K mg base CX0 1 "is_one_of" ["value", "words"] (spOne K))
    (F_is_between : FnQ P w K mg base CX0 2 "is_between" ["value", "low", "high"] (spBtw K)) (F_is_deadline : FnQ P w K mg base CX0 3 "_is_deadline" ["value"] (spChk K deadD)) (F_check_children : FnQ P w K mg base CX0 1 "_check_children" ["children"] (spNoKids K)) (h : spSInit K vs H Q E) :
    ∃ t, PSs (cxOf (L2.CX P w) P w K mg base N_SupervisorPlan___init__ "SupervisorPlan.__init__" (defScope s_SupervisorPlan___init__) f cdv A outer s H E) (defBody s_SupervisorPlan___init__) t ∧ t { nx := fun _ H' => Q .non H', rt := Q } (start N_SupervisorPlan___init__ vs) H := by
  obtain ⟨a, dx, v1, d1, p, rfl, ha, h1, p1, hp, k⟩ := h
  refine ⟨_, PSs.nox (pss_cons (ps_expr (pe_f F_check_settings hr passNo2 (pa_cons (pe_tupM (pa_cons (pe_tupM (pa_cons pe_str (pa_cons (pe_f F_is_place_name hr pass0 (pa_cons (pv 1) pa_nil)) pa_nil))) (pa_cons (pe_tupM (pa_cons pe_str (pa_cons (pe_f F_is_one_of hr pass0 (pa_cons (pv 2) (pa_cons (C8.pe_gc (by rfl) T.c_RESTARTS) pa_nil))) pa_nil))) (pa_cons (pe_tupM (pa_cons pe_str (pa_cons (pe_f F_is_one_of hr pass0 (pa_cons (pv 3) (pa_cons (C8.pe_gc (by rfl) T.c_STRATEGIES) pa_nil))) pa_nil))) (pa_cons (pe_tupM (pa_cons pe_str (pa_cons (pe_f F_is_between hr pass0 (pa_cons (pv 4) (pa_cons pe_int (pa_cons (C8.pe_gc (by rfl) T.c_MOST_RESTARTS) pa_nil)))) pa_nil))) (pa_cons (pe_tupM (pa_cons pe_str (pa_cons (pe_f F_is_between hr pass0 (pa_cons (pv 5) (pa_cons pe_int (pa_cons (C8.pe_gc (by rfl) T.c_MOST_TICKS) pa_nil)))) pa_nil))) (pa_cons (pe_tupM (pa_cons pe_str (pa_cons (pe_f F_is_deadline hr pass0 (pa_cons (pv 6) pa_nil)) pa_nil))) pa_nil))))))) pa_nil)))
  (pss_cons (ps_expr (pe_f F_check_children hr pass0 (pa_cons (pv 7) pa_nil)))
  (pss_cons (ps_fld (pv 0) (pv 1) rfl)
  (pss_cons (ps_fld (pv 0) (pv 7) rfl)
  (pss_cons (ps_fld (pv 0) (pv 2) rfl)
  (pss_cons (ps_fld (pv 0) (pv 3) rfl)
  (pss_cons (ps_fld (pv 0) (pv 4) rfl)
  (pss_cons (ps_fld (pv 0) (pv 5) rfl)
  (pss_one (ps_fld (pv 0) (pv 6) rfl)))))))))), ?_⟩
  have two : (2 : Nat) ≤ sizeLine := by decide
  have hw : ∀ H, SqT K H (He.ga K "RESTARTS") (restarts.map V.str) := T.tq ("RESTARTS", restarts) (by simp [cTups, restarts])
  have hs : ∀ H, SqT K H (He.ga K "STRATEGIES") ((["one", "rest", "all"] : List Str).map V.str) := T.tq ("STRATEGIES", ["one", "rest", "all"]) (by simp [cTups])
  refine ⟨_, rfl, v1, d1, rfl, h1, fun H1 s1 => ⟨two, fun t1 G1 r1 n1 l1 => ?_⟩⟩
  have S1 : Same H G1 := s1.trans r1
  refine ⟨_, rfl, _, .str "permanent", _, restarts, rfl, .str "permanent", hw G1, fun H2 s2 => ⟨two, fun t2 G2 r2 n2 l2 => ?_⟩⟩
  have T2 : Same G1 G2 := s2.trans r2
  refine ⟨_, rfl, _, .str "one", _, ["one", "rest", "all"], rfl, .str "one", hs G2, fun H3 s3 => ⟨two, fun t3 G3 r3 n3 l3 => ?_⟩⟩
  have T3 : Same G2 G3 := s3.trans r3
  refine ⟨_, rfl, _, .int 1, _, _, rfl, .int 1, fun H4 s4 => ⟨two, fun t4 G4 r4 n4 l4 => ?_⟩⟩
  have T4 : Same G3 G4 := s4.trans r4
  refine ⟨_, rfl, _, .int 10, _, _, rfl, .int 10, fun H5 s5 => ⟨two, fun t5 G5 r5 n5 l5 => ?_⟩⟩
  have T5 : Same G4 G5 := s5.trans r5
  refine ⟨_, rfl, _, .non, rfl, .non, fun H6 s6 => ⟨two, fun t6 G6 r6 n6 l6 => ?_⟩⟩
  have T6 : Same G5 G6 := s6.trans r6
  refine ⟨(by show 6 ≤ sizeLine; decide), fun p8 G8 r8 n8 l8 => ?_⟩
  have S6 : Same H G6 := S1.trans (T2.trans (T3.trans (T4.trans (T5.trans T6))))
  have S8 := S6.trans r8
  have m6 := r8 _ _ l6
  have m5 := r8 _ _ (T6 _ _ l5)
  have m4 := r8 _ _ (T6 _ _ (T5 _ _ l4))
  have m3 := r8 _ _ (T6 _ _ (T5 _ _ (T4 _ _ l3)))
  have m2 := r8 _ _ (T6 _ _ (T5 _ _ (T4 _ _ (T3 _ _ l2))))
  have m1 := r8 _ _ (T6 _ _ (T5 _ _ (T4 _ _ (T3 _ _ (T2 _ _ l1)))))
  have fb : firstBad (supSet d1) = none := by
    unfold supSet
    rw [p1]
    decide +kernel
  refine ⟨p8, _, supSet d1, rfl, SqT.of l8, .cons (SqT.of m1) (.cons (SqT.of m2) (.cons (SqT.of m3) (.cons (SqT.of m4) (.cons (SqT.of m5) (.cons (SqT.of m6) .nil))))), fun _ H9 s9 => ?_, fun x z => ?_⟩
  · have S9 := S8.trans s9
    refine ⟨_, rfl, p, rfl, S9.sqT hp, fun H10 s10 => ?_⟩
    have S10 := S9.trans s10
    have a9 := S10 _ _ ha
    have na : ∀ {f : Str}, f ∈ sNames → NoAttr K (suA K) f := fun h => W.na _ h
    refine ⟨_, rfl, _, rfl, a, suA K, dx, _, rfl, a9, W.cl, na (by simp), Nat.lt_of_le_of_lt (Nat.zero_le 0) (by decide), ?_⟩
    refine ⟨_, rfl, _, rfl, a, suA K, dx, _, rfl, upd_same, W.cl, na (by simp), Nat.lt_of_le_of_lt (putF_le (Nat.zero_le 0)) (by decide), ?_⟩
    refine ⟨_, rfl, _, rfl, a, suA K, dx, _, rfl, upd_same, W.cl, na (by simp), Nat.lt_of_le_of_lt (putF_le (putF_le (Nat.zero_le 0))) (by decide), ?_⟩
    refine ⟨_, rfl, _, rfl, a, suA K, dx, _, rfl, upd_same, W.cl, na (by simp), Nat.lt_of_le_of_lt (putF_le (putF_le (putF_le (Nat.zero_le 0)))) (by decide), ?_⟩
    refine ⟨_, rfl, _, rfl, a, suA K, dx, _, rfl, upd_same, W.cl, na (by simp), Nat.lt_of_le_of_lt (putF_le (putF_le (putF_le (putF_le (Nat.zero_le 0))))) (by decide), ?_⟩
    refine ⟨_, rfl, _, rfl, a, suA K, dx, _, rfl, upd_same, W.cl, na (by simp), Nat.lt_of_le_of_lt (putF_le (putF_le (putF_le (putF_le (putF_le (Nat.zero_le 0)))))) (by decide), ?_⟩
    refine ⟨_, rfl, _, rfl, a, suA K, dx, _, rfl, upd_same, W.cl, na (by simp), Nat.lt_of_le_of_lt (putF_le (putF_le (putF_le (putF_le (putF_le (putF_le (Nat.zero_le 0))))))) (by decide), ?_⟩
    simp only [upd_upd]
    exact k H10 _ S10
  · rw [fb] at z
    cases z
/-- C(name): by position -/
abbrev spSMade (K : PySem.W.Frag) : Sp := fun vs H Q _ => ∃ a dx v1 d1, vs = [.ref a, v1] ∧ H a = some (.ins (suA K) dx []) ∧ Dd K H v1 d1 ∧ isPlace d1 = true ∧ ∀ H' fs, Same H H' → Q .non (upd H' a (.ins (suA K) dx fs))
theorem ok_sinit {fd : FuncData} (F : FunD K "__init__" "SupervisorPlan.__init__" (defArgs s_SupervisorPlan___init__) (defBody s_SupervisorPlan___init__) (defScope s_SupervisorPlan___init__) [] sDef (He.ma K (suA K) "__init__") fd) (T : Txt K mg) (W : Su K mg)
    (F_check_settings : FnQ P w K mg base (L2.CX P w) 2 "_check_settings" ["checks"] (spSettings K)) (F_is_place_name : FnQ P w K mg base CX0 2 "is_place_name" ["value"] (spChk K isPlace)) (F_is_one_of : FnQ P w K mg base CX0 1 "is_one_of" ["value", "words"] (spOne K))
    (F_is_between : FnQ P w K mg base CX0 2 "is_between" ["value", "low", "high"] (spBtw K)) (F_is_deadline : FnQ P w K mg base CX0 3 "_is_deadline" ["value"] (spChk K deadD)) (F_check_children : FnQ P w K mg base CX0 1 "_check_children" ["children"] (spNoKids K)) :
    FnR P w K mg base (L2.CX P w) 6 (He.ma K (suA K) "__init__") (spSMade K) := by
  obtain ⟨oc, od, dV, kV, doc, pm, an, cdv, ct, osl, rfl, lk, hcd, hD, hK⟩ := F.ex
  rcases hD with ⟨_, rfl⟩ | ⟨e, _⟩
  rotate_left
  · exact absurd rfl e
  rcases hK with e | ⟨D, rfl, hq⟩
  · cases e
  obtain ⟨mv, hl, rk, hks⟩ := kwd_vals hq
  intro A outer s H us vs Q E hr e0 r hsp
  obtain ⟨a, dx, v1, d1, rfl, ha, h1, p1, k⟩ := hsp
  obtain ⟨u1, u2, rfl, r1, r2⟩ := vals2 r
  have hn : H s.heap.objs.size = none := e0.hok.fresh (Nat.le_refl _)
  refine StX.run_bnd (N := N_SupervisorPlan___init__) (ps := ["self", "name", "restart", "strategy", "most", "span", "deadline", "children"]) lk hcd sc_SupervisorPlan___init__ hr e0 (G := fun xs H2 => ∃ p, H p = none ∧ xs = [V.ref a, v1, .str "permanent", .str "one", .int 1, .int 10, .non, .ref p] ∧ H2 = upd H p (.tup [])) (fun A' Ex Q' h => ?_) fun s2 H2 xs ⟨p, hp, ex, eH⟩ hr' => ?_
  · have kin : K.In s.heap := e0.mod.kin.keeps fun b o e => (e0.bs b o e).1
    have few : ([] : List Value).length ≤ sizeLine := Nat.zero_le _
    match mv, hl with
    | [w1, w2, w3, w4, w5], _ =>
      refine KwTo.run (t' := newTuple [] >>= fun t => pure [("self", u1), ("name", u2), ("restart", w1), ("strategy", w2), ("most", w3), ("span", w4), ("deadline", w5), ("children", t)]) kin hks ⟨_, _, _, _, _, _, rfl, rfl, _, _, _, _, _, _, rfl, rfl, _, _, _, _, _, _, rfl, rfl, _, _, _, _, _, _, rfl, rfl, _, _, _, _, _, _, rfl, rfl, rfl⟩ ?_
      refine wpAny_bind (wpAny_newTuple (wpAny_pure ?_) few)
      have new : ObjOk P w (upd H s.heap.objs.size (.tup [])) (s.heap.push ({ cls := .type "tuple", data := .seq ([] : List Value).toArray } : Obj)) s.heap.objs.size (.tup []) := ⟨few, [], .nil, ⟨_, Heap.get?_push_size _ rfl, rfl, _, rfl⟩⟩
      have un := StX.un_laid (fs := frs outer) (s := s) (o := ({ cls := .type "tuple", data := .seq ([] : List Value).toArray } : Obj)) (u := .tup []) hn
      exact h _ _ [V.ref a, v1, .str "permanent", .str "one", .int 1, .int 10, .non, .ref s.heap.objs.size] [u1, u2, w1, w2, w3, w4, w5, .ref s.heap.objs.size] (StX.env0_laid e0 new) un rfl (fun e s' => StX.cxUp outer s H _ _ E e s' un (fun b o q => Heap.get?_push_of_some _ q) rfl)
        (.cons r1 (.cons r2 (rk.append (.cons rfl .nil)))) rfl ⟨_, hn, rfl, rfl⟩
  · subst ex eH
    have s1 : Same H (upd H p (.tup [])) := Same.new hp
    exact sup_body T W hr' F_check_settings F_is_place_name F_is_one_of F_is_between F_is_deadline F_check_children ⟨a, dx, v1, d1, p, rfl, s1 _ _ ha, h1.same s1, p1, SqT.of upd_same, fun H' fs s' => k H' fs (s1.trans s')⟩
end
end K53
/-! displays of data: what an expression makes, told by the data -/
namespace L2
open PySem PySem.Spec PyProof.Rows
/-- the heap without one address -/
def hide (l : Option Addr) (H : Hp) : Hp := fun b => if l = some b then none else H b
theorem hide_none (H : Hp) : hide none H = H := by
  funext b
  unfold hide
  rw [if_neg (by simp)]
theorem hide_get {l : Option Addr} {H : Hp} {b : Addr} {o : HO} (h : hide l H b = some o) : H b = some o ∧ l ≠ some b := by
  unfold hide at h
  split at h
  · cases h
  · rename_i n
    exact ⟨h, n⟩
theorem hide_at {l : Option Addr} {H : Hp} {b : Addr} (h : l ≠ some b) : hide l H b = H b := if_neg h
theorem hide_sub (l : Option Addr) (H : Hp) : Same (hide l H) H := fun b o e => (hide_get e).1
theorem hide_same {l : Option Addr} {H H' : Hp} (s : Same H H') : Same (hide l H) (hide l H') := fun b o e => by
  rw [hide_at (hide_get e).2]
  exact s _ _ (hide_get e).1
/-- what is hidden stands -/
def Stands (l : Option Addr) (H : Hp) : Prop := ∀ a, l = some a → ∃ o, H a = some o
theorem Stands.same {l : Option Addr} {H H' : Hp} (h : Stands l H) (s : Same H H') : Stands l H' := fun a e => (h a e).elim fun o q => ⟨o, s _ _ q⟩
theorem Stands.ne {l : Option Addr} {H : Hp} (h : Stands l H) {p : Addr} (n : H p = none) : l ≠ some p := fun e => by
  obtain ⟨o, q⟩ := h p e
  rw [n] at q
  cases q
/-- a new object at p: what stood ahead stands without it -/
theorem hide_new {H H' : Hp} {p : Addr} (s : Same H H') (n : H p = none) : Same H (hide (some p) H') := fun b o e => by
  rw [hide_at (fun z => by cases z; rw [n] at e; cases e)]
  exact s _ _ e
/-- e makes the data d; J: what is asked of the slots -/
def MkD (X : Cx) (J : St → Hp → Prop) (e : Expr) (d : Dt) : Prop := ∃ te, PE X e te ∧ ∀ (σ : St) (H : Hp) (Q : VK) (l : Option Addr), Stands l H → J σ (hide l H) → (∀ v H', Same H H' → Dd X.K (hide l H') v d → Q v H') → te σ H Q
def MkDA (X : Cx) (J : St → Hp → Prop) (es : List Expr) (ds : List Dt) : Prop := ∃ ta, PA X es ta ∧ ∀ (σ : St) (H : Hp) (Q : List V → Hp → Prop) (l : Option Addr), Stands l H → J σ (hide l H) → (∀ vs H', Same H H' → DdAll X.K (hide l H') vs ds → Q vs H') → ta σ H Q
def Keeps (J : St → Hp → Prop) : Prop := ∀ σ H H', Same H H' → J σ H → J σ H'
section
variable {X : Cx} {J : St → Hp → Prop}
theorem md_non {j : Nat} {p : Pos} : MkD X J (.Constant .none j p) .non := ⟨_, pe_non, fun σ H Q l st j k => k _ H (Same.refl H) .non⟩
theorem md_bl {b : Bool} {j : Nat} {p : Pos} : MkD X J (.Constant (.bool b) j p) (.bl b) := ⟨_, pe_bl, fun σ H Q l st j k => k _ H (Same.refl H) (.bl b)⟩
theorem md_int {i : Int} {j : Nat} {p : Pos} : MkD X J (.Constant (.int i) j p) (.int i) := ⟨_, pe_int, fun σ H Q l st j k => k _ H (Same.refl H) (.int i)⟩
theorem md_str {x : Str} {j : Nat} {p : Pos} (h : x.length ≤ 1000 := by decide) : MkD X J (.Constant (.str x) j p) (.str x) := ⟨_, pe_str, fun σ H Q l st j k => k _ H (Same.refl H) (.str x h)⟩
theorem mdA_nil : MkDA X J [] [] := ⟨_, pa_nil, fun σ H Q l st j k => k _ H (Same.refl H) .nil⟩
theorem mdA_cons {e : Expr} {es : List Expr} {d : Dt} {ds : List Dt} (kp : Keeps J) (h1 : MkD X J e d) (h2 : MkDA X J es ds) (hst : starEach (e :: es) X.env = (false, eval e X.env) :: starEach es X.env := by rfl) : MkDA X J (e :: es) (d :: ds) := by
  obtain ⟨te, pe, k1⟩ := h1
  obtain ⟨ta, pa, k2⟩ := h2
  refine ⟨_, pa_cons pe pa hst, fun σ H Q l st j k => ?_⟩
  refine k1 σ H _ l st j fun v H1 s1 d1 => ?_
  refine k2 σ H1 _ l (st.same s1) (kp _ _ _ (hide_same s1) j) fun vs H2 s2 d2 => ?_
  exact k _ H2 (s1.trans s2) (.cons (d1.same (hide_same s2)) d2)
theorem md_tup {es : List Expr} {ds : List Dt} {j : Nat} {p : Pos} (h : MkDA X J es ds) (few : ds.length ≤ sizeLine := by decide) : MkD X J (.Tuple es j p) (.tup ds) := by
  obtain ⟨ta, pa, k1⟩ := h
  refine ⟨_, pe_tupM pa, fun σ H Q l st j k => k1 σ H _ l st j fun vs H1 s1 d1 => ⟨by rw [d1.len]; exact few, fun p H2 s2 n2 e2 => ?_⟩⟩
  have ne := (st.same s1).ne n2
  exact k _ H2 (s1.trans s2) (.tup (SqT.of (by rw [hide_at ne]; exact e2)) (d1.same (hide_same s2)))
theorem md_lst {es : List Expr} {ds : List Dt} {p : Pos} (h : MkDA X J es ds) (few : ds.length ≤ sizeLine := by decide) : MkD X J (.List es p) (.lst ds) := by
  obtain ⟨ta, pa, k1⟩ := h
  refine ⟨_, pe_lstM pa, fun σ H Q l st j k => k1 σ H _ l st j fun vs H1 s1 d1 => ⟨by rw [d1.len]; exact few, fun p H2 s2 n2 e2 => ?_⟩⟩
  have ne := (st.same s1).ne n2
  exact k _ H2 (s1.trans s2) (.lst (SqL.of (by rw [hide_at ne]; exact e2)) (d1.same (hide_same s2)))
/-- an int that is worked out, whatever stands -/
theorem md_num {e : Expr} {i : Int} {te : TE} (h : PE X e te) (k : ∀ (σ : St) (H : Hp) (Q : VK), Q (.int i) H → te σ H Q) : MkD X J e (.int i) := ⟨te, h, fun σ H Q l st j q => k σ H Q (q _ H (Same.refl H) (.int i))⟩
theorem md_txt {e : Expr} {x : Str} {te : TE} (h : PE X e te) (k : ∀ (σ : St) (H : Hp) (Q : VK), Q (.str x) H → te σ H Q) (few : x.length ≤ 1000 := by decide) : MkD X J e (.str x) := ⟨te, h, fun σ H Q l st j q => k σ H Q (q _ H (Same.refl H) (.str x few))⟩
/-- a slot that holds data -/
theorem md_var {i : Nat} {x : Str} {d : Dt} {p : Pos} {te : TE} (h : PE X (.Name x p) te) (k : ∀ (σ : St) (H : Hp) (Q : VK) (v : V), σ[i]? = some (some v) → Q v H → te σ H Q) (j : ∀ σ H, J σ H → ∃ v, σ[i]? = some (some v) ∧ Dd X.K H v d) : MkD X J (.Name x p) d := by
  refine ⟨te, h, fun σ H Q l st jj q => ?_⟩
  obtain ⟨v, e, hd⟩ := j σ _ jj
  exact k σ H Q v e (q v H (Same.refl H) hd)
end
/-- a list of one's own, and its data, which don't hold it -/
def LstAt (K : PySem.W.Frag) (H : Hp) (a : Addr) (xs : List V) (ds : List Dt) : Prop := H a = some (.lst xs) ∧ DdAll K (hide (some a) H) xs ds
section
variable {K : PySem.W.Frag} {H H' : Hp} {a b : Addr} {xs zs : List V} {ds es : List Dt}
theorem LstAt.all (h : LstAt K H a xs ds) : DdAll K H xs ds := h.2.same (hide_sub _ _)
theorem LstAt.same (h : LstAt K H a xs ds) (s : Same H H') : LstAt K H' a xs ds := ⟨s _ _ h.1, h.2.same (hide_same s)⟩
theorem LstAt.stands (h : LstAt K H a xs ds) : Stands (some a) H := fun b e => by
  cases e
  exact ⟨_, h.1⟩
/-- some.append(v) -/
theorem LstAt.put (h : LstAt K H a xs ds) {v : V} {d : Dt} (hv : Dd K (hide (some a) H) v d) : LstAt K (upd H a (.lst (xs ++ [v]))) a (xs ++ [v]) (ds ++ [d]) := by
  refine ⟨upd_same, ?_⟩
  have e : hide (some a) (upd H a (.lst (xs ++ [v]))) = hide (some a) H := by
    funext b
    by_cases c : a = b
    · subst c
      unfold hide
      rw [if_pos rfl, if_pos rfl]
    · rw [hide_at (fun z => c (Option.some.inj z)), hide_at (fun z => c (Option.some.inj z)), upd_ne (Ne.symm c)]
  rw [e]
  exact h.2.app (.cons hv .nil)
/-- a new list -/
theorem lst_new (h : DdAll K H xs ds) (s : Same H H') (n : H a = none) (e : H' a = some (.lst xs)) : LstAt K H' a xs ds := ⟨e, h.same (hide_new s n)⟩
end
end L2
namespace L2
open PySem PySem.Spec PyProof.Rows
/-- the reading of such an expression -/
def tMk (K : PySem.W.Frag) (J : St → Hp → Prop) (d : Dt) : TE := fun σ H Q => ∃ l, Stands l H ∧ J σ (hide l H) ∧ ∀ v H', Same H H' → Dd K (hide l H') v d → Q v H'
def tMkL (K : PySem.W.Frag) (J : St → Hp → Prop) (ds : List Dt) : TE := fun σ H Q => J σ H ∧ ∀ a xs H', Same H H' → H a = none → LstAt K H' a xs ds → Q (.ref a) H'
section
variable {X : Cx} {J : St → Hp → Prop}
theorem pe_mk {e : Expr} {d : Dt} (m : MkD X J e d) : PE X e (tMk X.K J d) := by
  obtain ⟨te, pe, k⟩ := m
  exact ⟨fun pins s σ H Q I ⟨l, st, j, h⟩ => pe.run pins s σ H Q I (k σ H Q l st j h)⟩
theorem pe_mkL {es : List Expr} {ds : List Dt} {p : Pos} (m : MkDA X J es ds) (few : ds.length ≤ sizeLine := by decide) : PE X (.List es p) (tMkL X.K J ds) := by
  obtain ⟨ta, pa, k⟩ := m
  refine ⟨fun pins s σ H Q I ⟨j, h⟩ => (pe_lstM pa).run pins s σ H Q I (k σ H _ none (fun a e => nomatch e) (by rw [hide_none]; exact j) fun vs H1 s1 d1 => ⟨by rw [d1.len]; exact few, fun p H2 s2 n2 e2 => ?_⟩)⟩
  rw [hide_none] at d1
  have n0 : H p = none := by
    cases q : H p with
    | none => rfl
    | some o => rw [s1 _ _ q] at n2; cases n2
  exact h p vs H2 (s1.trans s2) n0 (lst_new d1 s2 n2 e2)
end
theorem cat_at {K : PySem.W.Frag} {H : Hp} {l b : Addr} {xs zs : List V} {ds es : List Dt} {Q : VK} (L1 : LstAt K H l xs ds) (L2 : LstAt K H b zs es) (few : ds.length + es.length ≤ sizeLine) (k : ∀ p H', Same H H' → H p = none → LstAt K H' p (xs ++ zs) (ds ++ es) → Q (.ref p) H') : rCat (.ref l) (.ref b) H Q :=
  ⟨l, b, xs, zs, rfl, rfl, L1.1, L2.1, by rw [L1.2.len, L2.2.len]; exact few, fun p hp => k p _ (Same.new hp) hp (lst_new (L1.all.app L2.all) (Same.new hp) hp upd_same)⟩
end L2
namespace K53
open PySem PySem.Spec PyProof.Rows L2
/-! ### plans in displays -/
section
variable {X : Cx} {J : L2.St → Hp → Prop}
theorem md_wk {e7 : Expr} {d7 : Dt} {x : Str} {mv : List Value} {fd : FuncData} {p pos q kq : Pos} {j : Nat} (W : Wk X.K X.mg) (FW : FnOk X.prog X.w X.K X.mg X.base (L2.CX X.prog X.w) 11 (He.ma X.K (wkA X.K) "__init__") fd wPs (spWInit X.K)) (hr : Room 12 X.A)
    (hb : KBn X.K fd wPs 2 ["script"] (fun us ws => us ++ mv ++ ws) (fun vs zs => vs ++ [.str "permanent", .int 0, .int 0, .non, .int 0] ++ zs)) (hg : Gl X "WorkerPlan") (p1 : isPlace (.str x) = true) (lx : x.length ≤ 1000) (h7 : MkD X J e7 d7) (p7 : scriptD d7 = true) (o7 : okSc d7 = true) :
    MkD X J (.Call (.Name "WorkerPlan" p) [.Constant (.str x) j q] [⟨some "script", e7, kq⟩] pos) (.wrk d7) := by
  obtain ⟨te, pe, k7⟩ := h7
  refine ⟨_, pe_makeN W.mkr FW hr hg W.gl hb passNo (pa_cons pe_str pa_nil) (pk_cons pe pk_nil), fun σ H Q l st jj k => ?_⟩
  refine k7 σ H _ l st jj fun v7 H1 s1 d1 => ⟨rfl, rfl, fun a dx na nd ne => ?_⟩
  have s0 : Same H1 (upd (upd H1 dx (.own a)) a (.ins (wkA X.K) dx [])) := (Same.new nd).trans (Same.new (by rw [upd_ne (Ne.symm ne)]; exact na))
  refine ⟨a, dx, .str x, _, _, _, _, _, v7, .str x, .str "permanent", .int 0, .int 0, .non, .int 0, d7, rfl, upd_same, .str x lx, .str _, .int _, .int _, .non, .int _, (d1.same (hide_sub l H1)).same s0, fun _ H' s' => ⟨rfl, ?_⟩, fun y e => ?_⟩
  · have s2 : Same H1 (upd H' a (.ins (wkA X.K) dx (wflds (.str x) (.str "permanent") (.int 0) (.int 0) .non (.int 0) v7))) := fun b o e => by
      rw [upd_ne (ne_of_none e na)]
      exact s' _ _ (s0 _ _ e)
    exact k _ _ (s1.trans s2) (.wrk (by rw [hide_at ((st.same s1).ne na)]; exact upd_same) (by kernel_rfl) (d1.same (hide_same s2)) o7)
  · rw [wset_ok p1 p7] at e
    cases e
theorem md_wk0 {x : Str} {mv : List Value} {dS : Addr} {fd : FuncData} {p pos q : Pos} {j : Nat} (W : Wk X.K X.mg) (FW : FnOk X.prog X.w X.K X.mg X.base (L2.CX X.prog X.w) 11 (He.ma X.K (wkA X.K) "__init__") fd wPs (spWInit X.K)) (hr : Room 12 X.A)
    (hb : KBn X.K fd wPs 2 [] (fun us ws => us ++ mv ++ ws) (fun vs zs => vs ++ [.str "permanent", .int 0, .int 0, .non, .int 0, .ref dS] ++ zs)) (hd : ∀ H, SqT X.K H dS []) (hg : Gl X "WorkerPlan") (p1 : isPlace (.str x) = true) (lx : x.length ≤ 1000) :
    MkD X J (.Call (.Name "WorkerPlan" p) [.Constant (.str x) j q] [] pos) (.wrk (.tup [])) := by
  refine ⟨_, pe_makeN W.mkr FW hr hg W.gl hb passNo (pa_cons pe_str pa_nil) pk_nil, fun σ H Q l st jj k => ⟨rfl, rfl, fun a dx na nd ne => ?_⟩⟩
  have s0 : Same H (upd (upd H dx (.own a)) a (.ins (wkA X.K) dx [])) := (Same.new nd).trans (Same.new (by rw [upd_ne (Ne.symm ne)]; exact na))
  refine ⟨a, dx, .str x, _, _, _, _, _, .ref dS, .str x, .str "permanent", .int 0, .int 0, .non, .int 0, .tup [], rfl, upd_same, .str x lx, .str _, .int _, .int _, .non, .int _, .tup (hd _) .nil, fun _ H' s' => ⟨rfl, ?_⟩, fun y e => ?_⟩
  · have s2 : Same H (upd H' a (.ins (wkA X.K) dx (wflds (.str x) (.str "permanent") (.int 0) (.int 0) .non (.int 0) (.ref dS)))) := fun b o e => by
      rw [upd_ne (ne_of_none e na)]
      exact s' _ _ (s0 _ _ e)
    exact k _ _ s2 (.wrk (by rw [hide_at (st.ne na)]; exact upd_same) (by kernel_rfl) (.tup (hd _) .nil) (by decide +kernel))
  · rw [wset_ok p1 (by decide +kernel)] at e
    cases e
theorem md_sup {x : Str} {p pos q : Pos} {j : Nat} (W : Su X.K X.mg) (FS : FnR X.prog X.w X.K X.mg X.base (L2.CX X.prog X.w) 6 (He.ma X.K (suA X.K) "__init__") (spSMade X.K)) (hr : Room 7 X.A) (hg : Gl X "SupervisorPlan") (p1 : isPlace (.str x) = true) (lx : x.length ≤ 1000) :
    MkD X J (.Call (.Name "SupervisorPlan" p) [.Constant (.str x) j q] [] pos) .sup := by
  refine ⟨_, StX.pe_makeR W.mkr FS hr hg W.gl passNo (pa_cons pe_str pa_nil), fun σ H Q l st jj k a dx na nd ne => ?_⟩
  have s0 : Same H (upd (upd H dx (.own a)) a (.ins (suA X.K) dx [])) := (Same.new nd).trans (Same.new (by rw [upd_ne (Ne.symm ne)]; exact na))
  refine ⟨a, dx, .str x, .str x, rfl, upd_same, .str x lx, p1, fun H' fs s' => ⟨rfl, k _ _ (fun b o e => ?_) (.sup (by rw [hide_at (st.ne na)]; exact upd_same))⟩⟩
  rw [upd_ne (ne_of_none e na)]
  exact s' _ _ (s0 _ _ e)
end
/-- WorkerPlan(name) -/
theorem wk_bind0 {K : PySem.W.Frag} {dS : Addr} {fd : FuncData} (F : FunD K "__init__" "WorkerPlan.__init__" (defArgs s_WorkerPlan___init__) (defBody s_WorkerPlan___init__) (defScope s_WorkerPlan___init__) [] (wDef dS) (He.ma K (wkA K) "__init__") fd) :
    ∃ mv : List Value, KBn K fd wPs 2 [] (fun us ws => us ++ mv ++ ws) (fun vs zs => vs ++ [.str "permanent", .int 0, .int 0, .non, .int 0, .ref dS] ++ zs) := by
  refine F.kbinds0 2 [] (wDef dS) (fun a b c => a ++ b ++ c) (by simp [wDef]) (by simp [wDef]) (fun r1 r2 r3 => (r1.append r2).append r3) ?_
  intro D doc pm an cdv ct us mv ws l1 l2 l3
  match us, mv, ws, l1, l2, l3 with
  | [_, _], [_, _, _, _, _, _], [], _, _, _ => exact ⟨_, _, _, _, _, _, rfl, rfl, _, _, _, _, _, _, rfl, rfl, _, _, _, _, _, _, rfl, rfl, _, _, _, _, _, _, rfl, rfl, _, _, _, _, _, _, rfl, rfl, _, _, _, _, _, _, rfl, rfl, rfl⟩
theorem same_put {H0 G : Hp} {l : Addr} {o : HO} (s : Same H0 G) (n : H0 l = none) : Same H0 (upd G l o) := fun b u e => by
  rw [upd_ne (ne_of_none e n)]
  exact s _ _ e
theorem ddAll_of {K : PySem.W.Frag} {H : Hp} : ∀ {xs : List V} {ds : List Dt}, xs.length = ds.length → (∀ (i : Nat) v d, xs[i]? = some v → ds[i]? = some d → Dd K H v d) → DdAll K H xs ds
  | [], [], _, _ => .nil
  | x :: xs, d :: ds, hl, h => .cons (h 0 x d rfl rfl) (ddAll_of (by simpa using hl) fun i v e a b => h (i + 1) v e (by simpa using a) (by simpa using b))
  | [], _ :: _, hl, _ => by cases hl
  | _ :: _, [], hl, _ => by cases hl
/-- a list of data without lists in it -/
theorem lst_plain {K : PySem.W.Frag} {H : Hp} {p : Addr} {xs : List V} {ds : List Dt} (e : H p = some (.lst xs)) (h : DdAll K H xs ds) (n : noLstAll ds = true) : LstAt K H p xs ds :=
  ⟨e, DdAll_butL (a := p) (fun b o q nb => by rw [hide_at (fun z => nb (Option.some.inj z).symm)]; exact q) e h n⟩
section
variable {P : Program} {w : World} {K : PySem.W.Frag} {mg : Str → Option Value} {base : Heap}
abbrev s_law_wrong_deed : Stmt := (top 67)
def N_law_wrong_deed : List Str := ["m", "worse", "some", "five", "word"]
theorem sc_law_wrong_deed : FnScope N_law_wrong_deed ["m"] (defScope s_law_wrong_deed) := ⟨rfl, rfl, rfl, by decide +kernel, rfl, by decide +kernel, by decide +kernel⟩
def fiveS : List Str := ["answer", "back", "ended", "down", "told"]
def worseD : Dt := .wrk (.tup [.tup [.str "first", .str "go", .int 1, .tup [.tup [.str "add", .str "r", .wrk (.tup [])]]]])
theorem five_item {i : Nat} {x : V} (e : (fiveS.map V.str)[i]? = some x) : ∃ y, fiveS[i]? = some y ∧ x = .str y := by
  rw [List.getElem?_map] at e
  obtain ⟨y, ey, rfl⟩ := Option.map_eq_some_iff.mp e
  exact ⟨y, ey, rfl⟩
theorem five_len : ∀ y ∈ fiveS, y.length ≤ 1000 := by decide +kernel
theorem five_data {H : Hp} {f : Str → Dt} {xs : List V} (hl : xs.length = 5) (h : ∀ (i : Nat) v, xs[i]? = some v → ∃ y, fiveS[i]? = some y ∧ Dd K H v (f y)) : DdAll K H xs (fiveS.map f) := ddAll_of (by rw [hl]; rfl) fun i v d e1 e2 => by
  obtain ⟨y, ey, hd⟩ := h i v e1
  rw [List.getElem?_map, ey] at e2
  cases e2
  exact hd
theorem bad_of {ds : List Dt} (h : (ds.all fun d => !deedD d) = true) (d : Dt) (hd : d ∈ ds) : deedD d = false := by
  have z := List.all_eq_true.mp h d hd
  simpa using z
/-- a list of n values that are no deeds -/
def LstB (K : PySem.W.Frag) (H : Hp) (a : Addr) (n : Nat) : Prop := ∃ xs ds, LstAt K H a xs ds ∧ ds.length = n ∧ (ds.all fun d => !deedD d) = true
theorem LstB.same {H H' : Hp} {a : Addr} {n : Nat} (h : LstB K H a n) (s : Same H H') : LstB K H' a n := by
  obtain ⟨xs, ds, L, l, b⟩ := h
  exact ⟨xs, ds, L.same s, l, b⟩
theorem cat_b {H : Hp} {l b : Addr} {n m : Nat} {zs : List V} {es : List Dt} {Q : VK} (L : LstB K H l n) (M : LstAt K H b zs es) (hm : es.length = m) (hb : (es.all fun d => !deedD d) = true) (few : n + m ≤ sizeLine) (k : ∀ p H', Same H H' → H p = none → LstB K H' p (n + m) → Q (.ref p) H') : rCat (.ref l) (.ref b) H Q := by
  obtain ⟨xs, ds, L, ln, lb⟩ := L
  exact cat_at L M (by rw [ln, hm]; exact few) fun p H' s n' L' => k p H' s n' ⟨_, _, L', by rw [List.length_append, ln, hm], by rw [List.all_append, lb, hb]; rfl⟩
def J1 (K : PySem.W.Frag) (σ : L2.St) (H : Hp) : Prop := ∃ v, σ[1]? = some (some v) ∧ Dd K H v worseD
theorem keeps1 : Keeps (J1 K) := fun σ H H' s ⟨v, e, h⟩ => ⟨v, e, h.same s⟩
def J9 (_ : L2.St) (_ : Hp) : Prop := True
theorem keeps9 : Keeps J9 := fun _ _ _ _ _ => trivial
theorem ok_wrong_deed {fd : FuncData} {mv mv0 : List Value} {dS : Addr} (F : Has K mg "_law_wrong_deed" s_law_wrong_deed) (T : Txt K mg) (W : Wk K mg) (WS : Su K mg) (FW : FnOk P w K mg base (L2.CX P w) 11 (He.ma K (wkA K) "__init__") fd wPs (spWInit K))
    (FS : FnR P w K mg base (L2.CX P w) 6 (He.ma K (suA K) "__init__") (spSMade K)) (hb : KBn K fd wPs 2 ["script"] (fun us ws => us ++ mv ++ ws) (fun vs zs => vs ++ [.str "permanent", .int 0, .int 0, .non, .int 0] ++ zs))
    (hb0 : KBn K fd wPs 2 [] (fun us ws => us ++ mv0 ++ ws) (fun vs zs => vs ++ [.str "permanent", .int 0, .int 0, .non, .int 0, .ref dS] ++ zs)) (hds : ∀ H, SqT K H dS []) (F_law_of : FnQ P w K mg base CX0 2 "_law_of" ["m", "items"] (spOf K)) :
    FnQ P w K mg base CX0 16 "_law_wrong_deed" ["m"] (spBadDeed K) := by
  refine F.q sc_law_wrong_deed (fun _ _ _ _ _ _ us hl => match us, hl with | [_], _ => rfl) (fun vs H Q E h => by obtain ⟨a, c, ns, m, rfl, _⟩ := h; rfl) (fun cdv A outer s H vs Q E hr h => ?_)
  obtain ⟨a, c, ns, m, rfl, S, hm, k⟩ := h
  have KJ : Keeps (J1 K) := keeps1
  have KJ9 : Keeps J9 := keeps9
  refine ⟨_, PSs.nox (pss_cons (ps_set (i := 1) sc_law_wrong_deed.nd rfl (.inl rfl) (pe_mk (J := J9) (md_wk W FW (hr.mono (by decide)) hb (by rfl) (by decide +kernel) (by decide) (md_tup (mdA_cons KJ9 (md_tup (mdA_cons KJ9 (md_str) (mdA_cons KJ9 (md_str) (mdA_cons KJ9 md_int (mdA_cons KJ9 (md_tup (mdA_cons KJ9 (md_tup (mdA_cons KJ9 (md_str) (mdA_cons KJ9 (md_str) (mdA_cons KJ9 (md_wk0 W FW (hr.mono (by decide)) hb0 hds (by rfl) (by decide +kernel) (by decide)) mdA_nil)))) mdA_nil)) mdA_nil))))) mdA_nil)) (by decide +kernel) (by decide +kernel))))
  (pss_cons (ps_set (i := 2) sc_law_wrong_deed.nd rfl (by first | exact .inl rfl | exact .inr rfl) (pe_mkL (J := J1 K) (mdA_cons KJ md_non (mdA_cons KJ (md_tup mdA_nil) (mdA_cons KJ (md_str) (mdA_cons KJ (md_lst (mdA_cons KJ (md_str) (mdA_cons KJ (md_str) mdA_nil))) (mdA_cons KJ (md_tup (mdA_cons KJ (md_str) mdA_nil)) (mdA_cons KJ (md_tup (mdA_cons KJ (md_str) (mdA_cons KJ (md_str) mdA_nil))) (mdA_cons KJ (md_tup (mdA_cons KJ (md_str) (mdA_cons KJ (md_str) (mdA_cons KJ md_int mdA_nil)))) (mdA_cons KJ (md_tup (mdA_cons KJ (md_str) (mdA_cons KJ (md_str) mdA_nil))) mdA_nil))))))))))
  (pss_cons (ps_expr (pe_bm PySem.F.plainAttrs_list PySem.F.slot_list_append PySem.F.type_list_append mt_append (pv 2) (pa_cons (pe_mk (J := J1 K) (md_tup (mdA_cons KJ (md_str) (mdA_cons KJ (md_str) mdA_nil)))) pa_nil)))
  (pss_cons (ps_set (i := 2) sc_law_wrong_deed.nd rfl (by first | exact .inl rfl | exact .inr rfl) (pe_op op_cat (pv 2) (pe_mkL (J := J1 K) (mdA_cons KJ (md_tup (mdA_cons KJ (md_str) (mdA_cons KJ (md_str) (mdA_cons KJ (md_str) mdA_nil)))) (mdA_cons KJ (md_tup (mdA_cons KJ (md_str) (mdA_cons KJ (md_str) (mdA_cons KJ (md_str) (mdA_cons KJ md_int mdA_nil))))) (mdA_cons KJ (md_tup (mdA_cons KJ (md_str) (mdA_cons KJ (md_str) (mdA_cons KJ (md_str) (mdA_cons KJ md_int mdA_nil))))) (mdA_cons KJ (md_tup (mdA_cons KJ (md_str) (mdA_cons KJ (md_str) (mdA_cons KJ (md_str) (mdA_cons KJ md_bl mdA_nil))))) mdA_nil)))))))
  (pss_cons (ps_set (i := 2) sc_law_wrong_deed.nd rfl (by first | exact .inl rfl | exact .inr rfl) (pe_op op_cat (pv 2) (pe_mkL (J := J1 K) (mdA_cons KJ (md_tup (mdA_cons KJ (md_str) (mdA_cons KJ (md_str) (mdA_cons KJ (md_str) (mdA_cons KJ md_int mdA_nil))))) (mdA_cons KJ (md_tup (mdA_cons KJ (md_str) (mdA_cons KJ (md_str) (mdA_cons KJ (md_str) (mdA_cons KJ (md_num (i := 10 ^ (12 : Int).toNat + 1) (pe_op op_add (pe_op op_pow pe_int pe_int) pe_int) (fun σ H Q q => ⟨_, _, rfl, rfl, ⟨by decide, by decide, by decide⟩, _, _, rfl, rfl, q⟩)) mdA_nil))))) (mdA_cons KJ (md_tup (mdA_cons KJ (md_str) (mdA_cons KJ (md_tup (mdA_cons KJ (md_str) (mdA_cons KJ md_bl mdA_nil))) mdA_nil))) mdA_nil))))))
  (pss_cons (ps_expr (pe_bm PySem.F.plainAttrs_list PySem.F.slot_list_append PySem.F.type_list_append mt_append (pv 2) (pa_cons (pe_mk (J := J1 K) (md_tup (mdA_cons KJ (md_str) (mdA_cons KJ md_non mdA_nil)))) pa_nil)))
  (pss_cons (ps_set (i := 2) sc_law_wrong_deed.nd rfl (by first | exact .inl rfl | exact .inr rfl) (pe_op op_cat (pv 2) (pe_mkL (J := J1 K) (mdA_cons KJ (md_tup (mdA_cons KJ (md_str) (mdA_cons KJ (md_tup (mdA_cons KJ (md_str) (mdA_cons KJ (md_num (i := 10 ^ (12 : Int).toNat + 1) (pe_op op_add (pe_op op_pow pe_int pe_int) pe_int) (fun σ H Q q => ⟨_, _, rfl, rfl, ⟨by decide, by decide, by decide⟩, _, _, rfl, rfl, q⟩)) mdA_nil))) mdA_nil))) (mdA_cons KJ (md_tup (mdA_cons KJ (md_str) (mdA_cons KJ (md_lst (mdA_cons KJ (md_str) (mdA_cons KJ md_int mdA_nil))) mdA_nil))) (mdA_cons KJ (md_tup (mdA_cons KJ (md_str) (mdA_cons KJ md_int (mdA_cons KJ (md_str) (mdA_cons KJ md_int mdA_nil))))) mdA_nil))))))
  (pss_cons (ps_expr (pe_bm PySem.F.plainAttrs_list PySem.F.slot_list_append PySem.F.type_list_append mt_append (pv 2) (pa_cons (pe_mk (J := J1 K) (md_tup (mdA_cons KJ (md_str) (mdA_cons KJ md_int (mdA_cons KJ (md_str) (mdA_cons KJ md_int mdA_nil)))))) pa_nil)))
  (pss_cons (ps_set (i := 2) sc_law_wrong_deed.nd rfl (by first | exact .inl rfl | exact .inr rfl) (pe_op op_cat (pv 2) (pe_mkL (J := J1 K) (mdA_cons KJ (md_tup (mdA_cons KJ (md_str) (mdA_cons KJ (md_num (i := 10 ^ (9 : Int).toNat + 1) (pe_op op_add (pe_op op_pow pe_int pe_int) pe_int) (fun σ H Q q => ⟨_, _, rfl, rfl, ⟨by decide, by decide, by decide⟩, _, _, rfl, rfl, q⟩)) (mdA_cons KJ (md_str) (mdA_cons KJ md_int mdA_nil))))) (mdA_cons KJ (md_tup (mdA_cons KJ (md_str) (mdA_cons KJ md_bl (mdA_cons KJ (md_str) (mdA_cons KJ md_int mdA_nil))))) (mdA_cons KJ (md_tup (mdA_cons KJ (md_str) (mdA_cons KJ md_int mdA_nil))) (mdA_cons KJ (md_tup (mdA_cons KJ (md_str) (mdA_cons KJ md_non mdA_nil))) (mdA_cons KJ (md_tup (mdA_cons KJ (md_str) (mdA_cons KJ (md_str) mdA_nil))) mdA_nil))))))))
  (pss_cons (ps_set (i := 2) sc_law_wrong_deed.nd rfl (by first | exact .inl rfl | exact .inr rfl) (pe_op op_cat (pv 2) (pe_mkL (J := J1 K) (mdA_cons KJ (md_tup (mdA_cons KJ (md_str) (mdA_cons KJ (md_txt (x := Txt.mul "x" 21) (pe_op op_repS pe_str pe_int) (fun σ H Q q => ⟨_, _, rfl, rfl, ⟨by decide, fun _ _ => by decide, fun _ _ => by decide +kernel⟩, q⟩) (by decide +kernel)) mdA_nil))) (mdA_cons KJ (md_tup (mdA_cons KJ (md_str) (mdA_cons KJ (md_str) mdA_nil))) (mdA_cons KJ (md_tup (mdA_cons KJ (md_str) (mdA_cons KJ (md_str) mdA_nil))) (mdA_cons KJ (md_tup (mdA_cons KJ (md_str) (mdA_cons KJ (md_str) mdA_nil))) (mdA_cons KJ (md_tup (mdA_cons KJ (md_str) (mdA_cons KJ (md_str) mdA_nil))) mdA_nil))))))))
  (pss_cons (ps_set (i := 2) sc_law_wrong_deed.nd rfl (by first | exact .inl rfl | exact .inr rfl) (pe_op op_cat (pv 2) (pe_mkL (J := J1 K) (mdA_cons KJ (md_tup (mdA_cons KJ (md_str) (mdA_cons KJ (md_str) (mdA_cons KJ (md_str) mdA_nil)))) (mdA_cons KJ (md_tup (mdA_cons KJ (md_str) (mdA_cons KJ md_int mdA_nil))) (mdA_cons KJ (md_tup (mdA_cons KJ (md_str) (mdA_cons KJ md_non mdA_nil))) (mdA_cons KJ (md_tup (mdA_cons KJ (md_str) (mdA_cons KJ (md_str) (mdA_cons KJ (md_str) mdA_nil)))) (mdA_cons KJ (md_tup (mdA_cons KJ (md_str) (mdA_cons KJ (md_str) (mdA_cons KJ (md_var (i := 1) (pv 1) (fun σ H Q v e q => ⟨v, e, q⟩) (fun σ H h => h)) mdA_nil)))) mdA_nil))))))))
  (pss_cons (ps_set (i := 2) sc_law_wrong_deed.nd rfl (by first | exact .inl rfl | exact .inr rfl) (pe_op op_cat (pv 2) (pe_mkL (J := J1 K) (mdA_cons KJ (md_tup (mdA_cons KJ (md_str) (mdA_cons KJ (md_str) (mdA_cons KJ (md_sup WS FS (hr.mono (by decide)) (by rfl) (by decide +kernel) (by decide)) mdA_nil)))) (mdA_cons KJ (md_tup (mdA_cons KJ (md_str) mdA_nil)) (mdA_cons KJ (md_tup (mdA_cons KJ (md_str) (mdA_cons KJ (md_str) (mdA_cons KJ (md_str) (mdA_cons KJ md_int mdA_nil))))) mdA_nil))))))
  (pss_cons (ps_set (i := 2) sc_law_wrong_deed.nd rfl (by first | exact .inl rfl | exact .inr rfl) (pe_op op_cat (pv 2) (pe_mkL (J := J1 K) (mdA_cons KJ (md_tup (mdA_cons KJ (md_str) (mdA_cons KJ (md_str) (mdA_cons KJ (md_str) (mdA_cons KJ md_int mdA_nil))))) (mdA_cons KJ md_int mdA_nil)))))
  (pss_cons (ps_set (i := 3) sc_law_wrong_deed.nd rfl (.inl rfl) (pe_lstM (pa_cons pe_str (pa_cons pe_str (pa_cons pe_str (pa_cons pe_str (pa_cons pe_str pa_nil)))))))
  (pss_cons (ps_set (i := 2) sc_law_wrong_deed.nd rfl (by first | exact .inl rfl | exact .inr rfl) (pe_op op_cat (pe_op op_cat (pv 2) (pe_lc (own := [("word", 4)]) (tt := tYes) rfl sc_law_wrong_deed.nd (pi_list (pv 3)) (blkOk_by (N := N_law_wrong_deed) (sc := defScope s_law_wrong_deed) (by decide +kernel)) (fun _ _ _ _ _ => (pg_name (i := 4) sc_law_wrong_deed.nd rfl (by first | exact .inl rfl | exact .inr rfl))) (fun _ _ _ _ _ => pts_nil) (fun _ _ _ _ _ => (pe_tupM (pa_cons pe_str (pa_cons pe_str (pa_cons (pv 4) (pa_cons pe_int pa_nil)))))))) (pe_lc (own := [("word", 4)]) (tt := tYes) rfl sc_law_wrong_deed.nd (pi_list (pv 3)) (blkOk_by (N := N_law_wrong_deed) (sc := defScope s_law_wrong_deed) (by decide +kernel)) (fun _ _ _ _ _ => (pg_name (i := 4) sc_law_wrong_deed.nd rfl (by first | exact .inl rfl | exact .inr rfl))) (fun _ _ _ _ _ => pts_nil) (fun _ _ _ _ _ => (pe_tupM (pa_cons pe_str (pa_cons pe_str (pa_cons (pv 4) (pa_cons pe_int pa_nil)))))))))
  (pss_cons (ps_set (i := 2) sc_law_wrong_deed.nd rfl (by first | exact .inl rfl | exact .inr rfl) (pe_op op_cat (pe_op op_cat (pv 2) (pe_lc (own := [("word", 4)]) (tt := tYes) rfl sc_law_wrong_deed.nd (pi_list (pv 3)) (blkOk_by (N := N_law_wrong_deed) (sc := defScope s_law_wrong_deed) (by decide +kernel)) (fun _ _ _ _ _ => (pg_name (i := 4) sc_law_wrong_deed.nd rfl (by first | exact .inl rfl | exact .inr rfl))) (fun _ _ _ _ _ => pts_nil) (fun _ _ _ _ _ => (pe_tupM (pa_cons pe_str (pa_cons pe_int (pa_cons (pv 4) (pa_cons pe_int pa_nil)))))))) (pe_mkL (J := J1 K) (mdA_cons KJ (md_tup (mdA_cons KJ (md_str) (mdA_cons KJ (md_num (i := 0 - 10 ^ (12 : Int).toNat - 1) (pe_op op_sub (pe_op op_sub pe_int (pe_op op_pow pe_int pe_int)) pe_int) (fun σ H Q q => ⟨_, _, rfl, rfl, ⟨by decide, by decide, by decide⟩, _, _, rfl, rfl, _, _, rfl, rfl, q⟩)) mdA_nil))) mdA_nil))))
  (pss_cons (ps_set (i := 2) sc_law_wrong_deed.nd rfl (by first | exact .inl rfl | exact .inr rfl) (pe_op op_cat (pv 2) (pe_mkL (J := J1 K) (mdA_cons KJ (md_tup (mdA_cons KJ (md_str) (mdA_cons KJ (md_tup (mdA_cons KJ (md_str) (mdA_cons KJ (md_num (i := 0 - 10 ^ (12 : Int).toNat - 1) (pe_op op_sub (pe_op op_sub pe_int (pe_op op_pow pe_int pe_int)) pe_int) (fun σ H Q q => ⟨_, _, rfl, rfl, ⟨by decide, by decide, by decide⟩, _, _, rfl, rfl, _, _, rfl, rfl, q⟩)) mdA_nil))) mdA_nil))) (mdA_cons KJ (md_tup (mdA_cons KJ (md_str) (mdA_cons KJ (md_str) (mdA_cons KJ (md_str) (mdA_cons KJ (md_num (i := 0 - 10 ^ (12 : Int).toNat - 1) (pe_op op_sub (pe_op op_sub pe_int (pe_op op_pow pe_int pe_int)) pe_int) (fun σ H Q q => ⟨_, _, rfl, rfl, ⟨by decide, by decide, by decide⟩, _, _, rfl, rfl, _, _, rfl, rfl, q⟩)) mdA_nil))))) mdA_nil)))))
  (pss_one (ps_ret (pe_f F_law_of hr pass0 (pa_cons (pv 0) (pa_cons (pv 2) pa_nil)))))))))))))))))))))), ?_⟩
  refine ⟨none, (fun _ e => nomatch e), trivial, fun v0 H0 s0 d0 => ?_⟩
  rw [hide_none] at d0
  have S0 : Same H0 H0 := Same.refl H0
  refine ⟨⟨v0, rfl, d0⟩, fun l1 x1 H1 r1 n1 L0 => ?_⟩
  have L1 : LstB K H1 l1 8 := ⟨_, _, L0, by rfl, by decide +kernel⟩
  clear L0
  have S1 := S0.trans r1
  have m1 : H0 l1 = none := n1
  obtain ⟨xs2, ds2, K2, ln2, lb2⟩ := L1
  refine ⟨_, rfl, .inl ⟨rfl, _, SqL.of K2.1⟩, some l1, K2.stands, ⟨v0, rfl, d0.same (hide_new S1 m1)⟩, fun v2 G2 r2 d2 => ⟨l1, _, _, rfl, rfl, r2 _ _ K2.1, ?_, ?_⟩⟩
  · exact Nat.lt_of_le_of_lt (show _ ≤ 9 by rw [K2.2.len, ln2]; exact Nat.le_succ 8) (by decide)
  have L2 : LstB K _ l1 9 := ⟨_, _, (K2.same r2).put d2, by rw [List.length_append, ln2]; rfl, by rw [List.all_append, lb2]; decide +kernel⟩
  generalize hH2 : upd G2 l1 (.lst (_ ++ [v2])) = H2 at L2 ⊢
  have S2 : Same H0 H2 := hH2 ▸ same_put (S1.trans r2) m1
  refine ⟨_, rfl, ⟨v0, rfl, d0.same S2⟩, fun b3 z3 G3 r3 _ M3 => cat_b (L2.same r3) M3 (m := 4) (by rfl) (by decide +kernel) (by show 13 ≤ sizeLine; decide) fun l3 H3 t3 n3 L3 => ?_⟩
  have S3 := S2.trans (r3.trans t3)
  have m3 : H0 l3 = none := none_back (S2.trans r3) n3
  refine ⟨_, rfl, ⟨v0, rfl, d0.same S3⟩, fun b4 z4 G4 r4 _ M4 => cat_b (L3.same r4) M4 (m := 3) (by rfl) (by decide +kernel) (by show 16 ≤ sizeLine; decide) fun l4 H4 t4 n4 L4 => ?_⟩
  have S4 := S3.trans (r4.trans t4)
  have m4 : H0 l4 = none := none_back (S3.trans r4) n4
  obtain ⟨xs5, ds5, K5, ln5, lb5⟩ := L4
  refine ⟨_, rfl, .inl ⟨rfl, _, SqL.of K5.1⟩, some l4, K5.stands, ⟨v0, rfl, d0.same (hide_new S4 m4)⟩, fun v5 G5 r5 d5 => ⟨l4, _, _, rfl, rfl, r5 _ _ K5.1, ?_, ?_⟩⟩
  · exact Nat.lt_of_le_of_lt (show _ ≤ 17 by rw [K5.2.len, ln5]; exact Nat.le_succ 16) (by decide)
  have L5 : LstB K _ l4 17 := ⟨_, _, (K5.same r5).put d5, by rw [List.length_append, ln5]; rfl, by rw [List.all_append, lb5]; decide +kernel⟩
  generalize hH5 : upd G5 l4 (.lst (_ ++ [v5])) = H5 at L5 ⊢
  have S5 : Same H0 H5 := hH5 ▸ same_put (S4.trans r5) m4
  refine ⟨_, rfl, ⟨v0, rfl, d0.same S5⟩, fun b6 z6 G6 r6 _ M6 => cat_b (L5.same r6) M6 (m := 3) (by rfl) (by decide +kernel) (by show 20 ≤ sizeLine; decide) fun l6 H6 t6 n6 L6 => ?_⟩
  have S6 := S5.trans (r6.trans t6)
  have m6 : H0 l6 = none := none_back (S5.trans r6) n6
  obtain ⟨xs7, ds7, K7, ln7, lb7⟩ := L6
  refine ⟨_, rfl, .inl ⟨rfl, _, SqL.of K7.1⟩, some l6, K7.stands, ⟨v0, rfl, d0.same (hide_new S6 m6)⟩, fun v7 G7 r7 d7 => ⟨l6, _, _, rfl, rfl, r7 _ _ K7.1, ?_, ?_⟩⟩
  · exact Nat.lt_of_le_of_lt (show _ ≤ 21 by rw [K7.2.len, ln7]; exact Nat.le_succ 20) (by decide)
  have L7 : LstB K _ l6 21 := ⟨_, _, (K7.same r7).put d7, by rw [List.length_append, ln7]; rfl, by rw [List.all_append, lb7]; decide +kernel⟩
  generalize hH7 : upd G7 l6 (.lst (_ ++ [v7])) = H7 at L7 ⊢
  have S7 : Same H0 H7 := hH7 ▸ same_put (S6.trans r7) m6
  refine ⟨_, rfl, ⟨v0, rfl, d0.same S7⟩, fun b8 z8 G8 r8 _ M8 => cat_b (L7.same r8) M8 (m := 5) (by rfl) (by decide +kernel) (by show 26 ≤ sizeLine; decide) fun l8 H8 t8 n8 L8 => ?_⟩
  have S8 := S7.trans (r8.trans t8)
  have m8 : H0 l8 = none := none_back (S7.trans r8) n8
  refine ⟨_, rfl, ⟨v0, rfl, d0.same S8⟩, fun b9 z9 G9 r9 _ M9 => cat_b (L8.same r9) M9 (m := 5) (by rfl) (by decide +kernel) (by show 31 ≤ sizeLine; decide) fun l9 H9 t9 n9 L9 => ?_⟩
  have S9 := S8.trans (r9.trans t9)
  have m9 : H0 l9 = none := none_back (S8.trans r9) n9
  refine ⟨_, rfl, ⟨v0, rfl, d0.same S9⟩, fun b10 z10 G10 r10 _ M10 => cat_b (L9.same r10) M10 (m := 5) (by rfl) (by decide +kernel) (by show 36 ≤ sizeLine; decide) fun l10 H10 t10 n10 L10 => ?_⟩
  have S10 := S9.trans (r10.trans t10)
  have m10 : H0 l10 = none := none_back (S9.trans r10) n10
  refine ⟨_, rfl, ⟨v0, rfl, d0.same S10⟩, fun b11 z11 G11 r11 _ M11 => cat_b (L10.same r11) M11 (m := 3) (by rfl) (by decide +kernel) (by show 39 ≤ sizeLine; decide) fun l11 H11 t11 n11 L11 => ?_⟩
  have S11 := S10.trans (r11.trans t11)
  have m11 : H0 l11 = none := none_back (S10.trans r11) n11
  refine ⟨_, rfl, ⟨v0, rfl, d0.same S11⟩, fun b12 z12 G12 r12 _ M12 => cat_b (L11.same r12) M12 (m := 2) (by rfl) (by decide +kernel) (by show 41 ≤ sizeLine; decide) fun l12 H12 t12 n12 L12 => ?_⟩
  have S12 := S11.trans (r12.trans t12)
  have m12 : H0 l12 = none := none_back (S11.trans r12) n12
  refine ⟨(by show 5 ≤ sizeLine; decide), fun q5 G5 y5 m5 e5 => ?_⟩
  have five_at : G5 q5 = some (.lst (fiveS.map V.str)) := e5
  have L12b := L12.same y5
  have S12b := S12.trans y5
  have f13 : G5 q5 = some (.lst (fiveS.map V.str)) := five_at
  refine ⟨_, rfl, _, rfl, q5, rfl, ⟨_, SqL.of f13⟩, comp_any walk_list (P := fun i v G => ∃ y, fiveS[i]? = some y ∧ Dd K G v (.tup [.str "send", .str "a", .str y, .int 1])) (by show 5 < sizeLine; decide) (fun G g => SqL.of (g _ _ f13)) (fun i G x G' y b o e => by rw [y.1]; exact e) (fun i v G1 G2 g ⟨y, e, h⟩ => ⟨y, e, h.same g⟩) (fun i v G1 D xs ys _ e ⟨y, e2, h⟩ => ⟨y, e2, Dd_butL but_updL e h rfl⟩) (fun i x G1 G2 R hi g1 yy kk => ?_) fun p13 G13 w13 z13 g13 h13 len13 val13 => ?_⟩
  · obtain ⟨rfl, ex⟩ := yy
    obtain ⟨y, ey, rfl⟩ := five_item ex
    have ly : y.length ≤ 1000 := five_len y (List.mem_of_getElem? ey)
    exact ⟨rfl, _, rfl, (by show 4 ≤ sizeLine; decide), fun tp G3 g3 n3 e3 => kk _ G3 g3 ⟨y, ey, .tup (SqT.of e3) (.cons (.str _) (.cons (.str _) (.cons (.str _ ly) (.cons (.int _) .nil))))⟩⟩
  have M13 : LstAt K G13 p13 w13 (fiveS.map fun y => .tup [.str "send", .str "a", .str y, .int 1]) := lst_plain h13 (five_data len13 val13) (by rfl)
  refine cat_b (L12b.same z13) M13 (m := 5) (by rfl) (by decide +kernel) (by show 46 ≤ sizeLine; decide) fun l13 H13 t13 n13 L13 => ?_
  have S13 := S12b.trans (z13.trans t13)
  have m13 : H0 l13 = none := none_back (S12b.trans z13) n13
  have five_at : H13 q5 = some (.lst (fiveS.map V.str)) := t13 _ _ (z13 _ _ f13)
  have f14 : H13 q5 = some (.lst (fiveS.map V.str)) := five_at
  refine ⟨_, rfl, q5, rfl, ⟨_, SqL.of f14⟩, comp_any walk_list (P := fun i v G => ∃ y, fiveS[i]? = some y ∧ Dd K G v (.tup [.str "ask", .str "a", .str y, .int 1])) (by show 5 < sizeLine; decide) (fun G g => SqL.of (g _ _ f14)) (fun i G x G' y b o e => by rw [y.1]; exact e) (fun i v G1 G2 g ⟨y, e, h⟩ => ⟨y, e, h.same g⟩) (fun i v G1 D xs ys _ e ⟨y, e2, h⟩ => ⟨y, e2, Dd_butL but_updL e h rfl⟩) (fun i x G1 G2 R hi g1 yy kk => ?_) fun p14 G14 w14 z14 g14 h14 len14 val14 => ?_⟩
  · obtain ⟨rfl, ex⟩ := yy
    obtain ⟨y, ey, rfl⟩ := five_item ex
    have ly : y.length ≤ 1000 := five_len y (List.mem_of_getElem? ey)
    exact ⟨rfl, _, rfl, (by show 4 ≤ sizeLine; decide), fun tp G3 g3 n3 e3 => kk _ G3 g3 ⟨y, ey, .tup (SqT.of e3) (.cons (.str _) (.cons (.str _) (.cons (.str _ ly) (.cons (.int _) .nil))))⟩⟩
  have M14 : LstAt K G14 p14 w14 (fiveS.map fun y => .tup [.str "ask", .str "a", .str y, .int 1]) := lst_plain h14 (five_data len14 val14) (by rfl)
  refine cat_b (L13.same z14) M14 (m := 5) (by rfl) (by decide +kernel) (by show 51 ≤ sizeLine; decide) fun l14 H14 t14 n14 L14 => ?_
  have S14 := S13.trans (z14.trans t14)
  have m14 : H0 l14 = none := none_back (S13.trans z14) n14
  have five_at : H14 q5 = some (.lst (fiveS.map V.str)) := t14 _ _ (z14 _ _ f14)
  have f15 : H14 q5 = some (.lst (fiveS.map V.str)) := five_at
  refine ⟨_, rfl, _, rfl, q5, rfl, ⟨_, SqL.of f15⟩, comp_any walk_list (P := fun i v G => ∃ y, fiveS[i]? = some y ∧ Dd K G v (.tup [.str "later", .int 2, .str y, .int 1])) (by show 5 < sizeLine; decide) (fun G g => SqL.of (g _ _ f15)) (fun i G x G' y b o e => by rw [y.1]; exact e) (fun i v G1 G2 g ⟨y, e, h⟩ => ⟨y, e, h.same g⟩) (fun i v G1 D xs ys _ e ⟨y, e2, h⟩ => ⟨y, e2, Dd_butL but_updL e h rfl⟩) (fun i x G1 G2 R hi g1 yy kk => ?_) fun p15 G15 w15 z15 g15 h15 len15 val15 => ?_⟩
  · obtain ⟨rfl, ex⟩ := yy
    obtain ⟨y, ey, rfl⟩ := five_item ex
    have ly : y.length ≤ 1000 := five_len y (List.mem_of_getElem? ey)
    exact ⟨rfl, _, rfl, (by show 4 ≤ sizeLine; decide), fun tp G3 g3 n3 e3 => kk _ G3 g3 ⟨y, ey, .tup (SqT.of e3) (.cons (.str _) (.cons (.int _) (.cons (.str _ ly) (.cons (.int _) .nil))))⟩⟩
  have M15 : LstAt K G15 p15 w15 (fiveS.map fun y => .tup [.str "later", .int 2, .str y, .int 1]) := lst_plain h15 (five_data len15 val15) (by rfl)
  refine cat_b (L14.same z15) M15 (m := 5) (by rfl) (by decide +kernel) (by show 56 ≤ sizeLine; decide) fun l15 H15 t15 n15 L15 => ?_
  have S15 := S14.trans (z15.trans t15)
  have m15 : H0 l15 = none := none_back (S14.trans z15) n15
  have five_at : H15 q5 = some (.lst (fiveS.map V.str)) := t15 _ _ (z15 _ _ f15)
  refine ⟨⟨v0, rfl, d0.same S15⟩, fun b16 z16 G16 r16 _ M16 => cat_b (L15.same r16) M16 (m := 1) (by rfl) (by decide +kernel) (by show 57 ≤ sizeLine; decide) fun l16 H16 t16 n16 L16 => ?_⟩
  have S16 := S15.trans (r16.trans t16)
  have m16 : H0 l16 = none := none_back (S15.trans r16) n16
  have five_at : H16 q5 = some (.lst (fiveS.map V.str)) := t16 _ _ (r16 _ _ five_at)
  refine ⟨_, rfl, ⟨v0, rfl, d0.same S16⟩, fun b17 z17 G17 r17 _ M17 => cat_b (L16.same r17) M17 (m := 2) (by rfl) (by decide +kernel) (by show 59 ≤ sizeLine; decide) fun l17 H17 t17 n17 L17 => ?_⟩
  have S17 := S16.trans (r17.trans t17)
  have m17 : H0 l17 = none := none_back (S16.trans r17) n17
  have five_at : H17 q5 = some (.lst (fiveS.map V.str)) := t17 _ _ (r17 _ _ five_at)
  have T17 : Same H H17 := s0.trans S17
  have SR := S.same T17
  obtain ⟨xs, ds, LL, ln, lb⟩ := L17
  refine ⟨_, rfl, _, rfl, a, c, l17, ns, m, _, rfl, SR, by omega, LL.1, SR.is.ne LL.1 (fun _ _ _ z => nomatch z), ?_, ?_, fun j v H' ej S' b' => ?_⟩
  · rw [LL.2.len, ln]; exact (by show 0 < 59; decide)
  · rw [LL.2.len, ln]; exact (by show 59 ≤ 1000; decide)
  obtain ⟨d, ed, hd⟩ := LL.all.get ej
  refine k v d H' (Dd_but b' SR.is hd) ?_ (S'.more (by omega)) (((But.refl a H).same T17).trans b')
  exact bad_of lb d (List.mem_of_getElem? ed)
end
end K53
/-! try .. except (A, B) as n: .. where the error is kept: it is tracked behind the suite -/
namespace L2
open PySem PySem.Spec PyProof.Rows
/-- an error that was caught: its class, its dict -/
def ExK (cls : Value) (d : Option Addr) (a : Addr) : HO := .ext fun h => ∃ oe vs, h.get? a = some oe ∧ Zc cls d oe ∧ oe.data = .fields vs
theorem exK_ok {P : Program} {w : World} {H : Hp} {h : Heap} {a : Addr} {cls : Value} {d : Option Addr} {oe : Obj} (at_ : h.get? a = some oe) (z : Zc cls d oe) (f : ∃ vs, oe.data = .fields vs) : ObjOk P w H h a (ExK cls d a) := by
  obtain ⟨vs, f⟩ := f
  exact ⟨⟨oe, vs, at_, z, f⟩, ⟨oe, at_⟩, fun _ _ ⟨o2, v2, e, z2, f2⟩ k => ⟨o2, v2, k _ e, z2, f2⟩⟩
theorem FlyingZ.more {B h h2 : Heap} {l : List Env} {a : Addr} {Z : Obj → Prop} (x : HandSPX.FlyingZ B l a Z h) (k : ∀ b o, h.get? b = some o → h2.get? b = some o) : HandSPX.FlyingZ B l a Z h2 := by
  obtain ⟨f1, f2, f3, oe, vs, T, oT, ts, e1, e2, e3, e4, e5, e6, e7, e8, e9⟩ := x
  exact ⟨fun b o e => k b o (f1 b o e), f2, f3.of_keeps fun b o e _ => ⟨o, k b o e, rfl⟩, oe, vs, T, oT, ts, k _ _ e1, e2, e3, e4, e5, e6, k _ _ e7, e8, e9⟩
section
variable {X : Cx} {pins : List (Addr × Obj)} {σ : St} {H : Hp} {s : Shared}
/-- an object that came in since the entry is tracked from now on -/
theorem Inv.track {a : Addr} {o : HO} (I : Inv X pins σ H s) (na : H a = none) (n0 : X.s_0.heap.get? a = none) (nL : a ≠ X.env.locals) (nC : ∀ x c, X.env.cells.lookup x = some c → c ≠ a) (nP : ∀ p ∈ X.pn ++ pins, p.1 ≠ a) (new : ObjOk X.prog X.w (upd H a o) s.heap a o) : Inv X pins σ (upd H a o) s := by
  have keep : ∀ {b : Addr} {u : HO}, H b = some u → upd H a o b = some u := fun {b u} e => by rw [upd_ne (ne_of_none e na)]; exact e
  refine ⟨I.ok, I.os, I.bare, ⟨I.base.keep, I.base.slot, fun b u e n x => ?_, I.base.there, fun b xs e => keep (I.base.tups b xs e), fun b ob u e => keep (I.base.frzs b ob u e), fun b ps e => ?_⟩, I.loc, I.cell, ?_, fun x c e => ?_, fun p hp => ?_, HOk.laidN I.hok (fun _ _ e => e) na new, I.len⟩
  · rw [upd_ne (fun z => by rw [z, n0] at e; cases e)]
    exact I.base.free b u e n x
  · obtain ⟨more, q⟩ := I.base.tbls b ps e
    exact ⟨more, keep q⟩
  · rw [upd_ne nL.symm]
    exact I.free
  · rw [upd_ne (nC x c e)]
    exact I.freeC x c e
  · obtain ⟨q1, q2, q3⟩ := I.pin p hp
    exact ⟨q1, by rw [upd_ne (nP p hp)]; exact q2, q3⟩
end
/-- what «except (c1, c2) as n» wishes, the error tracked behind the suite -/
def wKeep (K : PySem.W.Frag) (cs : List Value) (i : Nat) (ts : Addr → Value → Option Addr → TS) (Wout : WX) (D : Ends) : WX := fun cls d σ H =>
  ∃ b, PySem.W.exmAny K cls cs = some b ∧ (b = true → ∀ a, H a = none → ts a cls d { nx := fun σ' H' => D.nx (σ'.set i none) (upd H' a (ExK cls d a)), rt := fun v H' => D.rt v (upd H' a (ExK cls d a)), bk := fun σ' H' => D.bk (σ'.set i none) (upd H' a (ExK cls d a)), ct := fun σ' H' => D.ct (σ'.set i none) (upd H' a (ExK cls d a)) } (σ.set i (some (.ref a))) H) ∧
    (b = false → Wout cls d σ H)
/-- a test by clauses: t reads to something that matches by the classes cs -/
def TestBy (X : Cx) (t : Expr) (cs : List Value) : Prop := ∀ (a : Addr) (oe : Obj) (pn : List (Addr × Obj)) (σ : St) (H : Hp) (s : Shared) (cls : Value) (b : Bool) (R : Bool → Shared → Prop) (E : Value → Shared → Prop), Inv (X.suite a ((a, oe) :: pn)) [] σ H s → s.heap.get? a = some oe → oe.cls = cls →
  PySem.W.exmAny X.K cls cs = some b → (∀ s2, (∀ c o, s.heap.get? c = some o → s2.heap.get? c = some o) → s2.gens = s.gens → s2.os = s.os → R b s2) →
  wpAny (model X.prog X.w) (X.A.mark (some (.ref a))) (eval t X.env) (fun c s1 => wpAny (model X.prog X.w) (X.A.mark (some (.ref a))) (excMatches (.ref a) c) R E s1) E s
section
variable {X : Cx}
theorem test_pair {x1 x2 : Str} {p1 p2 tp : Pos} {k : Nat} {c1 c2 : Value} (h1 : Names X x1 c1) (h2 : Names X x2 c2) : TestBy X (.Tuple [.Name x1 p1, .Name x2 p2] k tp) [c1, c2] := by
  intro a oe pn σ H s cls b R E S at_ ec hb fin
  have one : ∀ {x : Str} {c : Value} {p : Pos} {Q : Value → Shared → Prop} {E : Value → Shared → Prop}, Names X x c → Q c s → wpAny (model X.prog X.w) (X.A.mark (some (.ref a))) (eval (.Name x p) X.env) Q E s := fun {x c p Q E} hc q => by
    obtain ⟨hg, hd, hm | ⟨hm, hv, hn⟩⟩ := hc
    · exact ld_glob (X := X.suite a ((a, oe) :: pn)) S hg hm q hd
    · exact ld_blt (X := X.suite a ((a, oe) :: pn)) S hg hm hv q hn hd
  refine wpAny_Tuple_spliced ?_
  refine Calls.spliced_cons (one h1 (Calls.spliced_cons (one h2 (Calls.spliced_nil ⟨(by show 2 ≤ sizeLine; decide), ?_⟩))))
  have up : ∀ c o, s.heap.get? c = some o → (s.heap.push { cls := .type "tuple", data := .seq [c1, c2].toArray }).get? c = some o := fun c o e => Heap.get?_push_of_some _ e
  have LT : PySem.W.Looks (model X.prog X.w) (s.heap.push { cls := .type "tuple", data := .seq [c1, c2].toArray }) (typeOf (.ref a)) cls := fun A Q E s k q => wpAny_typeOf_ref (k _ _ (up _ _ at_)) (by rw [ec]; exact q)
  have kin : X.K.In (s.heap.push { cls := .type "tuple", data := .seq [c1, c2].toArray }) := S.kIn.keeps up
  exact (PySem.W.exm_tup2 kin LT (Heap.get?_push_size _ rfl) hb).here (fin _ up rfl rfl)
theorem test_one {x : Str} {p : Pos} {c : Value} (h : Names X x c) (h1 : ∀ cls b, PySem.W.exmAny X.K cls [c] = some b → PySem.W.exmOne X.K cls c = some b) : TestBy X (.Name x p) [c] := by
  intro a oe pn σ H s cls b R E S at_ ec hb fin
  have LT : PySem.W.Looks (model X.prog X.w) s.heap (typeOf (.ref a)) cls := fun A Q E s k q => wpAny_typeOf_ref (k _ _ at_) (by rw [ec]; exact q)
  have q := (PySem.W.exm_one (M := model X.prog X.w) S.kIn LT (h1 cls b hb)).here (A := X.A.mark (some (.ref a))) (E := E) (fin s (fun _ _ e => e) rfl rfl)
  obtain ⟨hg, hd, hm | ⟨hm, hv, hn⟩⟩ := h
  · exact ld_glob (X := X.suite a ((a, oe) :: pn)) S hg hm q hd
  · exact ld_blt (X := X.suite a ((a, oe) :: pn)) S hg hm hv q hn hd
variable {n : Str} {t : Expr} {cs : List Value} {i : Nat} {body suite : List Stmt} {b₀ : Stmt} {pos pos2 : Pos} {tb : WX → TS} {ts : Addr → Value → Option Addr → TS} {Wout : WX}
theorem ps_try_keep (stk : X.stack = X.env :: X.outer) (frm : X.env.frame = some X.env.locals) (noex : X.ex = []) (hN : X.N.Nodup) (hi : X.N[i]? = some n) (loc : X.env.kindOf n = some .local) (ht : TestBy X t cs) (tk : Takes X Wout)
    (hb : ∀ (W : WX) (pn : List (Addr × Obj)) (xe : Value → Shared → Prop), Takes (X.tr pn xe) W → PassesOwn (model X.prog X.w) X.A X.env xe → PSs (X.tr pn xe) body (tb W))
    (hsu : ∀ (a : Addr) (oe : Obj) (cls : Value) (d : Option Addr) (pn : List (Addr × Obj)), Zc cls d oe → (∃ vs, oe.data = .fields vs) → PSs (X.suite a ((a, oe) :: pn)) (b₀ :: suite) (ts a cls d)) :
    PS X (.Try body [.ExceptHandler (some t) (some n) (b₀ :: suite) pos2] [] [] pos) (fun D σ H => tb (wKeep X.K cs i ts Wout D) D σ H) := by
  refine ⟨fun pins s σ H D I h => ?_⟩
  have ok := I.ok
  have frames : X.A.frames = some (X.env :: X.outer) := by rw [ok.frames, stk]
  have isLoc : Loc X.env.scope n := .inl loc
  refine wpAny_Try_except ?_
  refine wpAny_mono ((hb (wKeep X.K cs i ts Wout D) (X.pn ++ pins) (fun e s₁ => wpAny (model X.prog X.w) X.A (noteFrame e X.env) (fun _ s₂ => wpAny (model X.prog X.w) X.A (setFlight e none) (fun _ s₃ =>
    wpAny (model X.prog X.w) X.A (handleBy e X.env [.ExceptHandler (some t) (some n) (b₀ :: suite) pos2]) (SP X pins D) X.xe s₃) X.xe s₂) X.xe s₁) (fun u sE air => ?_) PassesOwn.looking).run [] s σ H D (I.toTry _) h) (fun f s1 q => ?_) (fun e s1 he => he)
  · obtain ⟨a, B, sI, pins', σ', H', cls, d, rfl, J', ground, up, sky, na, os, ag, b, hb1, yes, no⟩ := air
    have J : Inv X pins σ' H' sI := J'.ofTry ok
    have sky' : Sky B (X.env :: X.outer) a (Zc cls d) X.env.locals sE.heap := by rw [← stk]; exact sky
    show wpAny (model X.prog X.w) X.A (noteFrame (.ref a) X.env) _ _ _
    refine Sky.land Zc.steady frames frm sky' fun hF fl up2 => ?_
    have JF : Inv X pins σ' H' { sE with heap := hF } := J.landed ground fl.1 (up.trans up2) os ag
    obtain ⟨oF, vF, atF, zF, dF⟩ := fl.there
    have notFrame : ∀ {h : Heap} {o : Obj} {vs : Array Value}, h.FunFrames B (X.env :: X.outer) → h.get? a = some o → o.data = .fields vs → a ∉ frs (X.env :: X.outer) := fun {h o vs} ff e dd hm => by
      obtain ⟨_, o2, e2, nf⟩ := ff.mem hm
      rw [e] at e2
      cases e2
      exact nf _ dd
    have nfr := notFrame fl.2.2.1 atF dF
    have nL : a ≠ X.env.locals := fun z => nfr (List.mem_filterMap.mpr ⟨X.env, List.mem_cons_self, by rw [frm, z]⟩)
    have nF : a ∉ X.fs := fun hm => by
      obtain ⟨e, he, q⟩ := List.mem_filterMap.mp hm
      exact nfr (List.mem_filterMap.mpr ⟨e, List.mem_cons_of_mem _ he, q⟩)
    -- it came in since the entry
    have nI : sI.heap.get? a = none := by
      cases q : sI.heap.get? a with
      | none => rfl
      | some o =>
        have z := ground a o q (by rw [stk]; exact nfr)
        rw [fl.2.1] at z
        cases z
    have n0 : X.s_0.heap.get? a = none := by
      cases q : X.s_0.heap.get? a with
      | none => rfl
      | some o =>
        obtain ⟨o2, z⟩ := J.base.there a o q (by rw [noex]; exact fun z => nomatch z)
        rw [nI] at z
        cases z
    have nC : ∀ x c, X.env.cells.lookup x = some c → c ≠ a := fun x c e z => by
      obtain ⟨v, o, q, _⟩ := J.cell x c e
      rw [z, nI] at q
      cases q
    have nP : ∀ p ∈ X.pn ++ pins, p.1 ≠ a := fun p hp z => by
      have q := (J.pin p hp).1
      rw [z, nI] at q
      cases q
    have SF := JF.suite atF dF na nL nF
    refine wpAny_handleBy_cons (codeAny_handlers_test ?_) (by intro q; cases q)
    refine ht a oF (X.pn ++ pins) σ' H' { sE with heap := hF } cls b _ _ SF atF zF.1 hb1 fun sG keep gG oG => ?_
    have flG : HandSPX.FlyingZ B (X.env :: X.outer) a (Zc cls d) sG.heap := FlyingZ.more fl keep
    have upG : hF.UpToSlots sG.heap := (Heap.UpToSlots.of_keeps keep)
    have osG : sG.os = sI.os := oG.trans os
    have agG : AllBare sG.gens := by rw [gG]; exact ag
    obtain ⟨hG, gensG, drawG, tokG, oSG⟩ := sG
    cases b with
    | true =>
      refine codeAny_handlers_suite_as ?_
      refine HandSPX.lands_againZ flG fun h4 fl4 up4 => ?_
      have J4 : Inv X pins σ' H' { heap := h4, gens := gensG, drawn := drawG, toks := tokG, os := oSG } := J.landed ground fl4.1 (((up.trans up2).trans upG).trans up4) osG agG
      obtain ⟨oe4, vs4, he4, hz4, hd4⟩ := fl4.there
      have S4 := J4.suite he4 hd4 na nL nF
      refine store_ok (X := X.suite a ((a, oe4) :: (X.pn ++ pins))) (v := .ref a) S4 hN hi isLoc rfl (fun s5 S5 => ?_) (.inr loc)
      refine wpAny_mono ((hsu a oe4 cls d (X.pn ++ pins) hz4 ⟨_, hd4⟩).run [] s5 _ H' _ S5 (yes rfl a na)) (fun f s6 hsp => ?_) (fun _ _ z => False.elim z)
      have end_ : ∀ {σ6 : St} {H6 : Hp} {Q : Shared → Prop}, Inv (X.suite a ((a, oe4) :: (X.pn ++ pins))) [] σ6 H6 s6 → (∀ s7, Inv X pins (σ6.set i none) (upd H6 a (ExK cls d a)) s7 → Q s7) →
          wpAny (model X.prog X.w) X.A (do bindName X.env n .none; unbindBehindTheSuite X.env n pos2) (fun _ s7 => Q s7) X.xe s6 := fun {σ6 H6 Q} S6 hq => by
        obtain ⟨p1, p2, _⟩ := S6.pin (a, oe4) (List.mem_append_left _ List.mem_cons_self)
        exact gone_ok (Inv.track (S6.unsuite ok) p2 n0 nL nC nP (exK_ok p1 hz4 ⟨_, hd4⟩)) hN hi loc hq
      cases f with
      | next =>
        obtain ⟨σ6, H6, S6, q6⟩ := hsp
        exact end_ S6 fun s7 J7 => ⟨_, _, J7, q6⟩
      | brk =>
        obtain ⟨σ6, H6, S6, q6⟩ := hsp
        exact end_ S6 fun s7 J7 => ⟨_, _, J7, q6⟩
      | cont =>
        obtain ⟨σ6, H6, S6, q6⟩ := hsp
        exact end_ S6 fun s7 J7 => ⟨_, _, J7, q6⟩
      | ret u =>
        obtain ⟨v6, σ6, H6, S6, r6, q6⟩ := hsp
        exact end_ S6 fun s7 J7 => ⟨_, _, _, J7, r6, q6⟩
    | false =>
      show wpAny _ X.A (handleBy (.ref a) X.env []) _ _ _
      refine wpAny_handleBy_nil ?_
      obtain ⟨k1, k2, k3, oe, vs, T, oT, ts', he, hz, hd, h1, hr⟩ := id flG
      unfold PySem.passOn
      refine wpAny_bind (wpAny_field he hd h1 ?_)
      rw [if_neg (show ¬ ((Value.ref T == Value.none) = true) from by simp)]
      have fin : wpAny (model X.prog X.w) X.A (setFlight (.ref a) X.env.frame) (fun _ s4 => wpAny (model X.prog X.w) X.A (throw (.ref a) : Sem Flow) (SP X pins D) X.xe s4) X.xe { heap := hG, gens := gensG, drawn := drawG, toks := tokG, os := oSG } := by
        rw [frm]
        refine HandSPX.setFlight_upZ flG fun h4 hh4 up4 => wpAny_throw (tk _ _ ?_)
        exact ⟨a, B, sI, pins, σ', H', cls, d, rfl, J, ground, ((up.trans up2).trans upG).trans up4, .inr (.inr (by rw [stk]; exact hh4)), na, osG, agG, no rfl⟩
      first
        | exact wpAny_bind (wpAny_pure (wpAny_bind fin))
        | exact wpAny_bind fin
  · cases f with
    | next =>
      obtain ⟨σ', H', J', q⟩ := q
      exact wpAny_execs_nil ⟨σ', H', J'.ofTry ok, q⟩
    | brk =>
      obtain ⟨σ', H', J', q⟩ := q
      exact ⟨σ', H', J'.ofTry ok, q⟩
    | cont =>
      obtain ⟨σ', H', J', q⟩ := q
      exact ⟨σ', H', J'.ofTry ok, q⟩
    | ret u =>
      obtain ⟨v, σ', H', J', r, q⟩ := q
      exact ⟨v, σ', H', J'.ofTry ok, r, q⟩
end
end L2
/-! an error that was caught and kept: its field, isinstance -/
namespace L2
open PySem PySem.Spec PyProof.Rows
section
variable {X : Cx} {C : Addr} {f : Str} {newId : String} {bmB : List Value} {pins : List (Addr × Obj)} {σ : St} {H : Hp} {s : Shared}
/-- a kept error of the class at C at a, its dict at d -/
def Kept (H : Hp) (a C d : Addr) (fs : List (Str × V)) : Prop := H a = some (ExK (.ref C) (some d) a) ∧ H d = some (.xd fs)
theorem kept_at {a d : Addr} {fs : List (Str × V)} (I : Inv X pins σ H s) (h : Kept H a C d fs) : ∃ (oe : Obj) (od : Obj) (mA : Str → Option Value), PySem.W.InstAt s.heap a oe C (some od) ∧ (∀ g, PySem.W.lookIn g od = some (mA g)) ∧ ∀ g, RelO (fs.lookup g) (mA g) := by
  obtain ⟨ea, ed⟩ := h
  have za : ObjOk X.prog X.w H s.heap a (ExK (.ref C) (some d) a) := I.hok a _ ea
  obtain ⟨⟨oe, vs, ho, ⟨hc, hd⟩, hf⟩, _, _⟩ := za
  have zd : ObjOk X.prog X.w H s.heap d (.xd fs) := I.hok d _ ed
  obtain ⟨mA, ns, rel⟩ := zd
  obtain ⟨od, hod, look⟩ := lookIn_ns ns
  refine ⟨oe, od, mA, ⟨ho, hc, by unfold PySem.W.notCls; rw [hf], ?_⟩, look, rel⟩
  rw [hd]
  exact hod
/-- e.f -/
def tKfl (K : PySem.W.Frag) (newId : String) (bmB : List Value) (f : Str) (te : TE) : TE := fun σ H Q => te σ H fun v H1 => ∃ (a C d : Addr) (fs : List (Str × V)) (y : V), v = .ref a ∧ Kept H1 a C d fs ∧ fs.lookup f = some y ∧
  XCl K C newId bmB ∧ PySem.W.findIn K (.ref C) f = some none ∧ Q y H1
theorem pe_kfl {e : Expr} {te : TE} {apos : Pos} (he : PE X e te) (hb : attributeBase e f X.env (eval e X.env) = eval e X.env := by rfl) : PE X (.Attribute e f apos) (tKfl X.K newId bmB f te) := by
  refine ⟨fun pins s σ H Q I h => attr_of hb (thn (he.run pins s σ H _ I h) fun u s1 hh => ?_)⟩
  obtain ⟨v, H1, I1, rv, a, C, d, fs, y, rfl, kp, lf, T, nf, q⟩ := hh
  obtain rfl : u = Value.ref a := rv
  obtain ⟨oe, od, mA, J, look, rel⟩ := kept_at I1 kp
  obtain ⟨w0, hw, rw0⟩ := RelO.some_of (v := y) (o := mA f) (by rw [← lf]; exact rel f)
  exact PySem.PX.exc_get I1.kIn J T.ga T.gg T.xb (PySem.W.findObj_own T.hd nf rfl (by rw [look, hw])) (handed_of rw0) ⟨y, H1, I1.tok _, rw0, q⟩
/-- isinstance(e, c) -/
def rIsK (K : PySem.W.Frag) (newId : String) (bmB : List Value) : List V → Hp → VK → Prop := fun xs H Q => ∃ (a C d : Addr) (fs : List (Str × V)) (c : V) (u : Value) (b : Bool), xs = [.ref a, c] ∧ Kept H a C d fs ∧
  XCl K C newId bmB ∧ ClsV c u ∧ PySem.W.kitOne K (.ref C) u = some b ∧ Q (.bl b) H
theorem call_isK : CallR X (.builtin "isinstance") (rIsK X.K newId bmB) := by
  intro pins s σ H xs us Q I r h
  obtain ⟨a, C, d, fs, c, u, b, rfl, kp, T, kc, kt, q⟩ := h
  obtain ⟨u1, u2, rfl, r1, r2⟩ := vals2 r
  obtain rfl : u1 = Value.ref a := r1
  obtain rfl : u2 = u := kc.eq r2
  obtain ⟨oe, od, mA, J, look, rel⟩ := kept_at I kp
  have cl : (PySem.W.clsIn X.K C).isSome = true := T.ic
  exact PySem.W.kia_one (PySem.W.kitx_exc (od := some od) cl T.ga T.gg T.xb T.ca T.sg T.tk T.mo) I.kIn J kt (fun z => nomatch z) fun tk => ⟨.bl b, H, I.tok tk, rfl, q⟩
end
end L2
/-! lambdas: the tables of code objects, told by the head; data behind a lambda -/
namespace He
open PySem PySem.Spec PyProof.Rows L2
/-- a def's code object, its table -/
def codeOf (K : PySem.W.Frag) (x : Str) : Value := match K.lookup (ga K x) with
  | some ⟨_, _, .func fd, _⟩ => fd.code
  | _ => .none
def codeAd (K : PySem.W.Frag) (x : Str) : Addr := match codeOf K x with
  | .ref c => c
  | _ => 0
def tabAd (K : PySem.W.Frag) (x : Str) : Addr := match K.lookup (codeAd K x) with
  | some ⟨_, _, .fields vs, _⟩ => (match vs.getD 11 .none with
    | .ref P => P
    | _ => 0)
  | _ => 0
def isTab : Option Obj → Bool
  | some ⟨.none, none, .fields vs, sl⟩ => vs.isEmpty && sl.isEmpty
  | _ => false
def lamB (g : Addr → Option Obj) (K : PySem.W.Frag) (x : Str) : Bool := decide (codeOf K x = .ref (codeAd K x)) && (isTab (g (tabAd K x)) && (decide (codeAd K x ≠ tabAd K x) && ((K.lookup (tabAd K x)).isNone && (match K.lookup (codeAd K x) with
  | some ⟨.type c, _, .fields vs, _⟩ => decide (c = "code") && (decide (vs[11]? = some (.ref (tabAd K x))) && (decide (vs.getD 11 .none = .ref (tabAd K x)) && ((match vs.getD 18 .none with | .str _ _ => true | _ => false) && ((match vs.getD 7 .none with | .int _ _ => true | _ => false) &&
    ((match vs.getD 9 .none with | .bool _ => true | _ => false) && (match vs.getD 10 .none with | .int _ _ => true | _ => false))))))
  | _ => false))))
structure LamAt (h : Heap) (K : PySem.W.Frag) (x : Str) : Prop where
  cd : codeOf K x = .ref (codeAd K x)
  hd : PySem.W.CodeHd h (codeAd K x) (tabAd K x)
  tb : h.get? (tabAd K x) = some { cls := .none, data := .fields #[] }
  no : K.lookup (tabAd K x) = none
theorem isTab_ok {o : Option Obj} (h : isTab o = true) : o = some { cls := .none, data := .fields #[] } := by
  unfold isTab at h
  split at h
  · rename_i vs sl
    simp only [Bool.and_eq_true, Array.isEmpty_iff] at h
    obtain ⟨rfl, rfl⟩ := h
    rfl
  · cases h
theorem lamB_ok {h : Heap} {K : PySem.W.Frag} {x : Str} (kin : K.In h) (z : lamB h.get? K x = true) : LamAt h K x := by
  unfold lamB at z
  simp only [Bool.and_eq_true, decide_eq_true_eq, Option.isNone_iff_eq_none] at z
  obtain ⟨z1, z2, z3, z4, z5⟩ := z
  refine ⟨z1, ?_, isTab_ok z2, z4⟩
  split at z5
  · rename_i c dd vs sl e
    simp only [Bool.and_eq_true, decide_eq_true_eq] at z5
    obtain ⟨a1, a2, a3, a4, a5, a6, a7⟩ := z5
    subst a1
    split at a4
    · rename_i f1 t1 q1
      split at a5
      · rename_i f2 t2 q2
        split at a6
        · rename_i f3 q3
          split at a7
          · rename_i f4 t4 q4
            exact ⟨_, vs, f1, t1, f2, t2, f3, f4, t4, kin _ _ e, rfl, rfl, a2, a3, q1, q2, q3, q4, z3⟩
          · cases a7
        · cases a6
      · cases a5
    · cases a4
  · cases z5
theorem LamAt.keeps {h h' : Heap} {K : PySem.W.Frag} {x : Str} (a : LamAt h K x) (k : ∀ b o, h.get? b = some o → h'.get? b = some o) : LamAt h' K x := ⟨a.cd, a.hd.keeps k, k _ _ a.tb, a.no⟩
/-- what is looked at, without the tables of code objects -/
def asZ (g : Addr → Option Obj) (n : Nat) (ex : List (PySem.W.Frag → Addr)) : List Addr := (asY g n ex).filter fun a => !isTab (g a)
def obsL (g : Addr → Option Obj) (n : Nat) (ex : List (PySem.W.Frag → Addr)) (fa : List Fx) (fn : List DefD) (ts : List Tab) (xs : List Str) : AlT × Bool := (obsXT fa fn ts (frG g (asZ g n ex)), xs.all fun x => lamB g (frG g (asZ g n ex)) x)
def hookL (n : Nat) (ex : List (PySem.W.Frag → Addr)) (fa : List Fx) (fn : List DefD) (ts : List Tab) (xs : List Str) : PySem.W.Hook where
  α := AlT × Bool
  obs := fun s => obsL s.heap.get? n ex fa fn ts xs
  val := fun w => (valT fn ts w, true)
  says := fun w h => ∃ K : PySem.W.Frag, K.In h ∧ SaysXT fa fn ts w K ∧ ∀ x ∈ xs, LamAt h K x
  of := fun w s e => ⟨frG s.heap.get? (asZ s.heap.get? n ex), frG_in, show _ = _ from congrArg Prod.fst e, fun x hx => lamB_ok frG_in (List.all_eq_true.mp (congrArg Prod.snd e) x hx)⟩
  keeps := fun _ _ _ ⟨K, hK, c, l⟩ k => ⟨K, PySem.W.Frag.In.keeps hK k, c, fun x hx => (l x hx).keeps k⟩
theorem obsL_eq {n : Nat} {ex : List (PySem.W.Frag → Addr)} {fa : List Fx} {fn : List DefD} {ts : List Tab} {xs : List Str} {g : Addr → Option Obj} {s : Shared} (h : ∀ a, g a = s.heap.get? a) : obsL g n ex fa fn ts xs = (hookL n ex fa fn ts xs).obs s := by
  obtain rfl : g = s.heap.get? := funext h
  rfl
end He
namespace L2
open PySem PySem.Spec PyProof.Rows
section
variable {P : Program} {w : World} {K : PySem.W.Frag} {mg : Str → Option Value} {base : Heap} {CX : CXT} {k : Nat} {x : Str} {ps : List Str} {sp : Sp} {st : Stmt} {N : List Str}
/-- a def's promise, its code object known -/
theorem Has.qc (Hs : Has K mg x st) (S : FnScope N ps (defScope st)) (B : BindOk x st ps) (len : ∀ vs H Q E, sp vs H Q E → vs.length = ps.length)
    (hb : ∀ (A : Around) (outer : List Env) (s : Shared) (H : Hp) (vs : List V) (Q : VK) (E : XK), Room k (A.deeper (envOfC x (defScope st) s.heap.objs.size (He.ga K x) (He.codeOf K x))) → sp vs H Q E →
      ∃ t, PSs (cxOf CX P w K mg base N x (defScope st) (He.ga K x) (He.codeOf K x) A outer s H E) (defBody st) t ∧ t { nx := fun _ H' => Q .non H', rt := Q } (start N vs) H) : FnQ P w K mg base CX (k + 1) x ps sp := by
  obtain ⟨fd, F⟩ := Hs.df
  refine ⟨Hs.gl, F.kp, fd, ?_, F.bindsN B, lookD F⟩
  obtain ⟨oc, od, dV, kV, doc, pm, an, cdv, ct, osl, rfl, lk, hcd, _, _⟩ := F.ex
  have e : He.codeOf K x = cdv := by
    unfold He.codeOf
    rw [lk]
  rw [e] at hb
  exact fn_of lk hcd S len fun A outer s H vs Q E hr hsp => hb A outer s H vs Q E hr hsp
end
/-- data behind a lambda -/
abbrev ExtN := LamX.ExtN
theorem ExtN.sqL {K : PySem.W.Frag} {H H' : Hp} {a : Addr} {xs : List V} (e : LamX.ExtN H H') (h : SqL K H a xs) : SqL K H' a xs := by
  rcases h with (h | ⟨o, h⟩) | h
  · exact .inl (.inl (e _ _ h fun _ z => nomatch z))
  · exact .inl (.inr ⟨o, e _ _ h fun _ z => nomatch z⟩)
  · exact .inr h
theorem ExtN.sqT {K : PySem.W.Frag} {H H' : Hp} {a : Addr} {xs : List V} (e : LamX.ExtN H H') (h : SqT K H a xs) : SqT K H' a xs := by
  rcases h with (h | ⟨o, h⟩) | h
  · exact .inl (.inl (e _ _ h fun _ z => nomatch z))
  · exact .inl (.inr ⟨o, e _ _ h fun _ z => nomatch z⟩)
  · exact .inr h
mutual
theorem Dd.ext {K : PySem.W.Frag} {H H' : Hp} (s : LamX.ExtN H H') : ∀ {v : V} {d : Dt}, Dd K H v d → Dd K H' v d
  | _, _, .non => .non
  | _, _, .bl b => .bl b
  | _, _, .int i => .int i
  | _, _, .str x h => .str x h
  | _, _, .lst h t => .lst (ExtN.sqL s h) (DdAll.ext s t)
  | _, _, .tup h t => .tup (ExtN.sqT s h) (DdAll.ext s t)
  | _, _, .dic h => .dic (s _ _ h fun _ z => nomatch z)
  | _, _, .wrk h l t o => .wrk (s _ _ h fun _ z => nomatch z) l (Dd.ext s t) o
  | _, _, .sup h => .sup (s _ _ h fun _ z => nomatch z)
theorem DdAll.ext {K : PySem.W.Frag} {H H' : Hp} (s : LamX.ExtN H H') : ∀ {vs : List V} {ds : List Dt}, DdAll K H vs ds → DdAll K H' vs ds
  | _, _, .nil => .nil
  | _, _, .cons h t => .cons (Dd.ext s h) (DdAll.ext s t)
end
end L2
/-! _law_field: what a lambda lets out -/
namespace K53
open PySem PySem.Spec PyProof.Rows L2
abbrev s_law_field : Stmt := (top 66)
def N_law_field : List Str := ["act", "found", "e", "error"]
theorem sc_law_field : FnScope N_law_field ["act"] (defScope s_law_field) := ⟨rfl, rfl, rfl, by decide +kernel, rfl, by decide +kernel, by decide +kernel⟩
/-- how the two errors match -/
structure ErrF (K : PySem.W.Frag) : Prop where
  m1 : PySem.W.exmOne K (.ref (He.ga K "BadScript")) (.ref (He.ga K "BadScript")) = some true
  m2 : PySem.W.exmOne K (.ref (He.ga K "BadScript")) (.ref (He.ga K "BadSetting")) = some false
  m3 : PySem.W.exmOne K (.ref (He.ga K "BadSetting")) (.ref (He.ga K "BadScript")) = some false
  m4 : PySem.W.exmOne K (.ref (He.ga K "BadSetting")) (.ref (He.ga K "BadSetting")) = some true
  k1 : PySem.W.kitOne K (.ref (He.ga K "BadScript")) (.ref (He.ga K "BadScript")) = some true
  k2 : PySem.W.kitOne K (.ref (He.ga K "BadSetting")) (.ref (He.ga K "BadScript")) = some false
  k3 : PySem.W.kitOne K (.ref (He.ga K "BadScript")) (.ref (He.ga K "PlanError")) = some true
/-- what the lambda may let out, and what is made of it -/
def EField (K : PySem.W.Frag) (Q : VK) : XK := fun cls d H => (∃ u d0, cls = .ref (He.ga K "BadScript") ∧ d = some d0 ∧ H d0 = some (.xd [("index", u)]) ∧ ∀ l H', Same H H' → H' l = some (.lst [u, .bl true]) → Q (.ref l) H') ∨
  (∃ y d0, cls = .ref (He.ga K "BadSetting") ∧ d = some d0 ∧ H d0 = some (.xd [("setting", .str y)]) ∧ ∀ t H', Same H H' → H' t = some (.tup [.str "setting", .str y]) → Q (.ref t) H')
def TTfield (K : PySem.W.Frag) : (XK → Hp → VK → Prop) → Hp → VK → Prop := fun tl H Q => ∀ H1 Q', Same H H1 → tl (EField K Q) H1 Q'
theorem exm_two {K : PySem.W.Frag} {c a b : Value} {x y : Bool} (h1 : PySem.W.exmOne K c a = some x) (h2 : PySem.W.exmOne K c b = some y) : PySem.W.exmAny K c [a, b] = some (x || (y || false)) := by
  unfold PySem.W.exmAny PySem.W.exmAny PySem.W.exmAny
  rw [h1, h2]
theorem four_of {σ : L2.St} (h : σ.length = 4) : ∃ a b c d, σ = [a, b, c, d] := by
  match σ, h with
  | [a, b, c, d], _ => exact ⟨a, b, c, d, rfl⟩
theorem takes_len {X : Cx} {W : WX} (tk : Takes X W) {n : Nat} (hn : X.N.length = n) : Takes X (fun cls d σ H => σ.length = n → W cls d σ H) := fun u s' ⟨a, B, sI, pins, σ, H, cls, d, e, I, nb, up, sky, na, os, ag, w⟩ =>
  tk u s' ⟨a, B, sI, pins, σ, H, cls, d, e, I, nb, up, sky, na, os, ag, w (I.len.trans hn)⟩
section
variable {X : Cx} {g : Addr} {cdg : Value} {q : Str}
theorem field_gives (T : Txt X.K X.mg) (TI : Err X.K X.mg "BadScript" "index") (TS : Err X.K X.mg "BadSetting" "setting") (M : ErrF X.K) :
    LamX.GivesTo X N_law_field "_law_field" (defScope s_law_field) g cdg (defBody s_law_field) "act" q (TTfield X.K) := by
  intro f c' s H Q tl act hc h
  have gI : X.mg "isinstance" = none := T.fr _ (by simp [frees])
  refine ⟨_, pss_cons (ps_asg (pe_tupM (pa_cons pe_non (pa_cons pe_non pa_nil))) (pg_tup rfl (pgs_cons (pg_name (i := 1) sc_law_field.nd rfl (.inl rfl)) (pgs_cons (pg_name (i := 2) sc_law_field.nd rfl (.inl rfl)) pgs_nil)))) (pss_cons
    (ps_try_keep (X := (cxOf C8.CX0 X.prog X.w X.K X.mg X.base N_law_field "_law_field" (defScope s_law_field) g cdg X.A X.stack s H C8.E0).nox) (i := 3) (cs := [.ref (He.ga X.K "BadScript"), .ref (He.ga X.K "BadSetting")])
      (tb := fun W D σ H => ∃ Ech : XK, (∀ cls d σ' H', Ech cls d H' → σ'.length = 4 → W cls d σ' H') ∧ σ[0]? = some (some (.ref f)) ∧ H c' = some (LamX.CodeO c' q) ∧ tl Ech H fun v H1 => D.nx (σ.set 1 (some v)) H1)
      rfl rfl rfl sc_law_field.nd rfl rfl (test_pair ⟨rfl, by decide, .inl TI.gl⟩ ⟨rfl, by decide, .inl TS.gl⟩) LamX.takes0 (fun W pn xe tk _ => ?body) (fun a oe cls d pn _ _ => pss_one (ps_set (i := 2) sc_law_field.nd rfl (.inl rfl) (pv 3))))
    (pss_cons (ps_if (pt_val (pe_callB (call_isK (newId := "ValueError.__new__") (bmB := veB)) (by rfl) gI boot_isinstance (pa_cons (pv 2) (pa_cons (C8.pe_gc (by rfl) T.c_BadScript) pa_nil))))
  (pss_one (ps_ret (pe_lstM (pa_cons (pe_kfl (newId := "ValueError.__new__") (bmB := veB) (pv 2)) (pa_cons (pe_callB (call_isK (newId := "ValueError.__new__") (bmB := veB)) (by rfl) gI boot_isinstance (pa_cons (pv 2) (pa_cons (C8.pe_gc (by rfl) T.c_PlanError) pa_nil))) pa_nil)))))
  pss_nil) (pss_one (ps_ret (pe_ifExp (pt_cmpR op_isN (pv 2) pe_non (by first | exact nomark _ | rfl)) (pv 1) (pe_tupM (pa_cons pe_str (pa_cons (pe_kfl (newId := "ValueError.__new__") (bmB := veB) (pv 2)) pa_nil)))))))), ?_⟩
  case body =>
    refine ⟨fun pins s' σ H' D I h' => ?_⟩
    obtain ⟨Ech, hW, h1, h2, h3⟩ := h'
    exact PSs.run (pss_one (ps_set (i := 1) sc_law_field.nd rfl (.inl rfl) (act (fun cls d σ H => σ.length = 4 → W cls d σ H) pn xe Ech _ _ (takes_len tk rfl) hW))) pins s' σ H' D I ⟨h1, h2, h3⟩
  refine ⟨(by show 2 ≤ sizeLine; decide), fun tp G1 s1 _ e1 => ⟨tp, _, rfl, SqT.of e1, rfl, _, _, rfl, _, _, rfl, rfl, EField X.K Q, fun cls d σ' H' he hl => ?_, rfl, s1 _ _ hc, h G1 _ s1⟩⟩
  obtain ⟨x0, x1, x2, x3, rfl⟩ := four_of hl
  rcases he with ⟨u, d0, rfl, rfl, hx, k⟩ | ⟨y, d0, rfl, rfl, hx, k⟩
  · refine ⟨true, exm_two M.m1 M.m2, fun _ a na => ⟨_, rfl, ?_⟩, fun z => nomatch z⟩
    have s2 : Same H' (upd H' a (ExK (.ref (He.ga X.K "BadScript")) (some d0) a)) := Same.new na
    have kp : Kept (upd H' a (ExK (.ref (He.ga X.K "BadScript")) (some d0) a)) a (He.ga X.K "BadScript") d0 [("index", u)] := ⟨upd_same, s2 _ _ hx⟩
    refine ⟨_, rfl, a, _, d0, _, _, _, _, rfl, kp, TI.cl, .own _, M.k1, _, rfl, if_yes rfl ?_⟩
    exact ⟨_, rfl, a, _, d0, _, u, rfl, kp, by kernel_rfl, TI.cl, TI.xi.nf, _, rfl, a, _, d0, _, _, _, _, rfl, kp, TI.cl, .own _, M.k3, (by show 2 ≤ sizeLine; decide), fun l G2 s3 _ e3 => k l G2 (s2.trans s3) e3⟩
  · refine ⟨true, exm_two M.m3 M.m4, fun _ a na => ⟨_, rfl, ?_⟩, fun z => nomatch z⟩
    have s2 : Same H' (upd H' a (ExK (.ref (He.ga X.K "BadSetting")) (some d0) a)) := Same.new na
    have kp : Kept (upd H' a (ExK (.ref (He.ga X.K "BadSetting")) (some d0) a)) a (He.ga X.K "BadSetting") d0 [("setting", .str y)] := ⟨upd_same, s2 _ _ hx⟩
    refine ⟨_, rfl, a, _, d0, _, _, _, _, rfl, kp, TS.cl, .own _, M.k2, _, rfl, if_no rfl ?_⟩
    exact ⟨_, rfl, rfl, _, rfl, if_no rfl ⟨_, rfl, a, _, d0, _, .str y, rfl, kp, by kernel_rfl, TS.cl, TS.xi.nf, (by show 2 ≤ sizeLine; decide), fun t G2 s3 _ e3 => k t G2 (s2.trans s3) e3⟩⟩
end
end K53
/-! set(a list of texts) -/
namespace L2
open PySem PySem.Spec PyProof.Rows
section
variable {P : Program} {w : World} {A : Around} {E : Value → Shared → Prop} {s : Shared}
abbrev mT (xs : List Str) (i : Nat) : Str → Bool := fun y => decide (y ∈ xs.take i)
theorem mT_next {xs : List Str} {i : Nat} {x : Str} (h : xs[i]? = some x) : (fun y => mT xs i y || decide (y = x)) = mT xs (i + 1) := by
  funext y
  unfold mT
  rw [List.take_add_one, h]
  simp [List.mem_append]
theorem strs_item : ∀ {us : List Value} {xs : List Str}, StrsAre us xs → ∀ (i : Nat) (v : Value), us[i]? = some v → ∃ x t, xs[i]? = some x ∧ v = .str x t
  | _, _, .nil, i, v, e => by simp at e
  | _, _, .cons y t r, 0, v, e => ⟨y, t, rfl, by simpa using e.symm⟩
  | _, _, .cons y t r, i + 1, v, e => strs_item r i v (by simpa using e)
/-- the set's own loop over what is handed on item by item -/
theorem gather_txts {I : Addr} {fp wr : List Addr} {G : Array GenState → Array GenState → Prop} {n : Nat} {Pv : Nat → Value → Prop} {St : Nat → Shared → Prop} {R : Result → Shared → Prop} (W : WalksS P w A.in1 I fp wr G n Pv St) (D : Addr) (out : D ∉ fp) (xs : List Str)
    (len : n = xs.length) (room : xs.length + 1 < scanBound) (val : ∀ i v, Pv i v → ∃ x t, xs[i]? = some x ∧ v = .str x t) (fin : ∀ s' c, Moved (D :: wr) G s s' → c ≤ n → SetX w s'.heap D (mT xs n) c → R (.ok (.ret .none)) s') :
    ∀ (m i : Nat) (s0 : Shared), i + m = n → St i s0 → Moved (D :: wr) G s s0 → (∃ c, c ≤ i ∧ SetX w s0.heap D (mT xs i) c) → codeAny (model P w) A (.builtin "set.update.loop" ⟨[.ref D, .ref I], []⟩) R s0 := by
  have noW : D ∉ wr := fun z => out (W.sub _ z)
  have more : ∀ b ∈ wr, b ∈ D :: wr := fun b hb => List.mem_cons_of_mem _ hb
  intro m
  induction m with
  | zero =>
    rintro i s0 hi st mv ⟨c, le, S⟩
    obtain rfl : i = n := hi
    refine codeAny_builtin F.entry_set_update_loop (by
      rw [Around.under_plainId F.plain_set_update_loop _]
      exact wpAny_bind (W.done s0 _ _ st fun s1 k => wpAny_pure (fin s1 c (Moved.trans W.gtrans mv (k.mono more)) le (S.at fun o e => k.heap D o noW e))))
  | succ m ih =>
    rintro i s0 hi st mv ⟨c, le, S⟩
    have lt : i < n := by omega
    refine codeAny_builtin F.entry_set_update_loop (by
      rw [Around.under_plainId F.plain_set_update_loop _]
      refine wpAny_bind (W.item i s0 _ _ lt st fun v s1 pv st1 k => ?_)
      obtain ⟨x, t, ex, rfl⟩ := val i v pv
      have S1 := S.at fun o e => k.heap D o noW e
      show wpAny _ A.in1 (holding [Value.str x t] (setAdd D (.str x t)) >>= _) _ _ s1
      unfold setAdd
      refine wpAny_bind (wpAny_holding (wpAny_holding (wpAny_bind ((strKind P w).pyHash (k := x) (strKind_is _ _ _ _) ?_))))
      refine tset_hashed (s := { s1 with toks := s1.toks + 1 }) S1 (by omega) fun h2 sb S2 => ?_
      rw [mT_next ex] at S2
      have stay : ∀ b, b ≠ D → ∀ o, s1.heap.get? b = some o → h2.get? b = some o := fun b nb o e => (sb.2 b nb).trans e
      refine wpAny_pure ⟨plainId_quiet F.plain_set_update_loop _, ih (i + 1) _ (by omega) (W.frame _ s1 _ _ st1 (Nat.le_succ _) fun b hb o e => stay b (fun z => out (z ▸ hb)) o e) ?_ ⟨_, ?_, S2⟩⟩
      · exact Moved.trans W.gtrans mv ((k.mono more).then_heap (Nat.le_succ _) fun b o hb e => stay b (fun z => hb (z ▸ List.mem_cons_self)) o e)
      · split <;> omega)
theorem setX_new {h : Heap} {D : Addr} {xs : List Str} (e : h.get? D = some (newX w)) : SetX w h D (mT xs 0) 0 := by
  refine ⟨newX w, #[], 0, _, e, ⟨rfl, rfl, rfl⟩, rfl, (fun z hz => by simp at hz), (by simp), fun y => by simp [mT], by decide, rfl, rfl, List.Pairwise.nil, ?_⟩
  show _ ∨ (!w.params.followText "set-order") = true
  cases w.params.followText "set-order" <;> first | exact .inl rfl | exact .inr rfl
set_option maxHeartbeats 6400000 in
theorem call_setX {l : Addr} {items : Array Value} {xs : List Str} {Q : Value → Shared → Prop} (free : A.handled = none) (hl : s.heap.IsList l items) (are : StrsAre items.toList xs) (room : xs.length + 1 < scanBound)
    (fin : ∀ h' tk c, SetX w h' s.heap.objs.size (mT xs xs.length) c → c ≤ xs.length → (∀ b o, s.heap.get? b = some o → h'.get? b = some o) → Q (.ref s.heap.objs.size) { s with heap := h', toks := tk }) : wpAny (model P w) A (call (.type "set") [.ref l]) Q E s := by
  have lenI : items.size = xs.length := by rw [← Array.length_toList, are.length]
  obtain ⟨_, _, m1⟩ := F.called_set.mro
  have m2 := F.called_set.made
  have m3 := F.called_set.sub
  refine wpAny_call (codeAny_of_tree (show wpAny _ _ (callAny (.type "set") _) _ _ _ from wpAny_pure ⟨Code.quiet_builtin _ (by decide +kernel), codeAny_builtin F.entry_type_call ?_⟩))
  rw [Around.under_plain (weight_type_call_type "set" [.ref l] []) rfl]
  have m4 := F.called_set.notType
  have m5 := F.called_set.canCreate
  have m6 := F.typeCall_set_1 (.ref l)
  repeat (any_goals (first | assumption | (wp_step)))
  refine codeAny_mono (code_set_led1 (.ref l) (E := E) (Q₁ := fun o s1 => o = .ref s.heap.objs.size ∧ s1 = { s with heap := s.heap.push (newX w) }) ⟨rfl, rfl⟩) fun r s1 z => ?_
  rcases r with e | (v | _ | _ | _) <;> first | exact z.elim | exact z | skip
  obtain ⟨rfl, rfl⟩ := z
  have at_ : (s.heap.push (newX w)).get? s.heap.objs.size = some (newX w) := Heap.get?_push_size _ rfl
  have ty : Shared.TypeIs { s with heap := s.heap.push (newX w) } (.ref s.heap.objs.size) "set" := ⟨_, at_, rfl⟩
  have m7 := F.called_set.init.lookup
  have m8 := F.called_set.init.bind (.ref s.heap.objs.size)
  repeat (any_goals (first | assumption | (wp_step)))
  refine codeAny_mono (codeAny_call_builtin (R := wants (fun r s2 => r = .none ∧ ∃ h' tk c, s2 = { s with heap := h', toks := tk } ∧ SetX w h' s.heap.objs.size (mT xs xs.length) c ∧ c ≤ xs.length ∧ ∀ b o, s.heap.get? b = some o → h'.get? b = some o) E) F.called_set.init.plain F.entry_set_init
    (check_set_init_1 ty ?_)) fun r s2 z => ?_
  · obtain ⟨⟨oc, odc, odt, osl⟩, ho, hcl, nl, hdt⟩ := hl
    simp only at hcl hdt
    subst hcl hdt
    have ho1 : (s.heap.push (newX w)).get? l = some { cls := .type "list", dict := odc, data := .seq items nl, slots := osl } := Heap.get?_push_of_some _ ho
    have f1 := F.sub_list_set
    have f2 := F.sub_list_frozenset
    have f3 : (Value.type "list" == Value.type "dict") = false := by decide
    have isL : (s.heap.push (newX w)).IsList l items := ⟨_, ho1, rfl, nl, rfl⟩
    unfold Builtin.«set.__init__» noKeywords Builtin.Frozenset.updateFrom
    generalize hPI : pyIter = PI
    wp_walk
    subst hPI
    refine wpAny_pyIter_list isL (wpAny_bind (wpAny_runValue ?_))
    have free3 : A.in1.in1.in1.handled = none := by simp [free]
    have sz : (s.heap.push (newX w)).objs.size = s.heap.objs.size + 1 := Heap.size_push ..
    have lS : l < s.heap.objs.size := Heap.lt_size ho
    have neI : l ≠ (s.heap.push (newX w)).objs.size := by rw [sz]; exact Nat.ne_of_lt (Nat.lt_succ_of_lt lS)
    have outF : s.heap.objs.size ∉ [(s.heap.push (newX w)).objs.size, l] := by
      rw [sz]
      simp only [List.mem_cons, List.not_mem_nil, or_false, not_or]
      exact ⟨Nat.ne_of_lt (Nat.lt_succ_self _), Nat.ne_of_gt lS⟩
    have val : ∀ (i : Nat) (v : Value), items[i]? = some v → ∃ x t, xs[i]? = some x ∧ v = .str x t := fun i v hv => by
      have q : items.toList[i]? = some v := by rw [Array.getElem?_toList]; exact hv
      exact strs_item are i v q
    refine gather_txts ((Walks.list free3 _ l neI items).toS) s.heap.objs.size outF xs lenI room val (fun s' c mv le S => ?_) items.size 0 _ (by omega) ⟨⟨_, Heap.get?_push_size _ rfl, rfl, rfl⟩, isL.push _⟩ (Moved.refl fun _ => rfl) ⟨0, Nat.le_refl _, setX_new (Heap.get?_push_of_some _ at_)⟩
    have kp : ∀ b o, s.heap.get? b = some o → s'.heap.get? b = some o := fun b o e => mv.heap b o (fun hb => by
      have lt := Heap.lt_size e
      simp only [List.mem_cons, List.not_mem_nil, or_false] at hb
      rw [sz] at hb
      rcases hb with rfl | rfl
      · exact Nat.lt_irrefl _ lt
      · exact Nat.lt_irrefl _ (Nat.lt_trans lt (Nat.lt_succ_self _))) (Heap.get?_push_of_some _ (Heap.get?_push_of_some _ e))
    obtain ⟨h', g2, d', tk', os'⟩ := s'
    obtain rfl : g2 = s.gens := mv.gens
    obtain rfl : d' = s.drawn := mv.drawn
    obtain rfl : os' = s.os := mv.os
    rw [lenI] at S le
    exact wpAny_pure (wpAny_pure ⟨rfl, h', tk', c, rfl, S, le, kp⟩)
  · rcases r with e | (v | _ | _ | _) <;> first | exact z.elim | exact z | skip
    obtain ⟨rfl, h', tk, c, rfl, S, le, kp⟩ := z
    repeat (any_goals (first | assumption | (wp_step)))
    exact fin h' tk c S le kp
end
/-- set(xs): a new set -/
def rSetOf (K : PySem.W.Frag) (w : World) : List V → Hp → VK → Prop := fun vs H Q => ∃ (l : Addr) (xs : List Str), vs = [.ref l] ∧ SqL K H l (xs.map V.str) ∧ xs.length + 1 < scanBound ∧
  ∀ p c, H p = none → c ≤ xs.length → Q (.ref p) (upd H p (SetXO w p (fun y => decide (y ∈ xs)) c))
theorem vals_txts : ∀ {xs : List Str} {us : List Value}, Vals (xs.map V.str) us → StrsAre us xs
  | [], _, .nil => .nil
  | x :: xs, _, .cons ⟨t, e⟩ r => by
    subst e
    exact .cons x t (vals_txts r)
theorem cr_setOf {X : Cx} (calm : X.calm = true) : CallR X (.type "set") (rSetOf X.K X.w) := by
  intro pins s σ H vs us Q I r h
  obtain ⟨l, xs, rfl, hl, room, q⟩ := h
  rw [Vals.ref1 r]
  obtain ⟨its, rv, pl, hz⟩ := I.list hl
  refine call_setX (P := X.prog) (I.ok.hd calm) pl.isList (by simpa using vals_txts rv) room fun h' tk c S le kp => ?_
  have e : mT xs xs.length = fun y => decide (y ∈ xs) := by
    funext y
    unfold mT
    rw [List.take_length]
  rw [e] at S
  exact ⟨.ref s.heap.objs.size, _, I.laid (t' := tk) kp (Nat.le_refl _) (setXO_ok S), rfl, q _ c (I.hok.fresh (Nat.le_refl _)) le⟩
end L2
/-! x != x of one tuple, whatever it holds -/
namespace L2
open PySem PySem.Spec PyProof.Rows
def rNeSame (K : PySem.W.Frag) : R2 := fun x y H Q => (x = .non ∧ y = .non ∨ ∃ a xs, x = .ref a ∧ y = .ref a ∧ SqT K H a xs) ∧ Q (.bl false) H
theorem op_neSame {X : Cx} (hu : X.A.units + 64 < cLine) : OpR X (compareOp .NotEq) (rNeSame X.K) := by
  rintro pins s σ H x y v u Q I rx ry ⟨⟨rfl, rfl⟩ | ⟨a, xs, rfl, rfl, hT⟩, q⟩
  · exact op_ne pins s σ H .non .non v u Q I rx ry ⟨rfl, q⟩
  · obtain rfl : v = Value.ref a := rx
    obtain rfl : u = Value.ref a := ry
    obtain ⟨its, r, hl, _⟩ := I.tuple hT
    have all : ((List.range (min its.toArray.size its.toArray.size)).all fun _ => true) = true := List.all_eq_true.mpr fun _ _ => rfl
    have z := SeqAt.RcNeAt.tuples (A := X.A) (e := fun _ => true) hl hl (by omega) (fun j _ _ => SeqAt.EqAt.same _)
    rw [all, show (its.toArray.size == its.toArray.size) = true from beq_self_eq_true _] at z
    exact z X.prog X.w X.xe _ ⟨.bl false, H, I, rfl, q⟩
end L2
/-! f(k = v, ..); rules for the inside of a comprehension -/
namespace L2
open PySem PySem.Spec PyProof.Rows
section
variable {P : Program} {w : World} {K : PySem.W.Frag} {mg : Str → Option Value} {base : Heap} {CX : CXT} {k : Nat} {x : Str} {ps : List Str} {sp : Sp} {st : Stmt}
/-- a def all of whose parameters are given by name -/
structure FnK (P : Program) (w : World) (K : PySem.W.Frag) (mg : Str → Option Value) (base : Heap) (CX : CXT) (k : Nat) (x : Str) (ps : List Str) (sp : Sp) : Prop where
  gl : mg x = some (.ref (He.ga K x))
  kp : PySem.W.keepIn K (.ref (He.ga K x)) = true
  fn : ∃ fd, FnOk P w K mg base CX k (He.ga K x) fd ps sp ∧ KBn K fd ps 0 ps (fun _ ws => ws) (fun _ zs => zs)
theorem Has.kw (Hs : Has K mg x st) (F : FnQ P w K mg base CX k x ps sp)
    (B : ∀ (kV doc pm : Value) (an : Option Addr) (cdv ct : Value) (us : List Value), us.length = ps.length → bindArgs (PySem.W.fnOf x x (defArgs st) (defBody st) (defScope st) .none kV doc pm an cdv ct) ⟨[], ps.zip us⟩ = pure (ps.zip us)) : FnK P w K mg base CX k x ps sp := by
  obtain ⟨fd2, F2⟩ := Hs.df
  obtain ⟨oc2, od2, osl2, lk2⟩ := lookD F2
  obtain ⟨fd, ok, _, oc, od, osl, lk⟩ := F.fn
  have same : fd2 = fd := by
    have z := lk2.symm.trans lk
    cases z
    rfl
  subst same
  refine ⟨F.gl, F.kp, fd2, ok, ?_⟩
  obtain ⟨oc, od, dV, kV, doc, pm, an, cdv, ct, osl, rfl, _, _, hD, _⟩ := F2.ex
  rcases hD with ⟨_, rfl⟩ | ⟨e, _⟩
  · exact ⟨fun s us ws X l1 l2 => by
      have : us = [] := List.length_eq_zero_iff.mp l1
      subst this
      exact BindsTo.of_eq (B kV doc pm an cdv ct ws l2), fun _ r => r⟩
  · exact absurd rfl e
end
section
variable {X : Cx} {CX : CXT} {k j : Nat} {ps : List Str} {sp : Sp} {E : XK} {x : Str} {p pos : Pos} {kws : List Keyword} {tk : TA}
def tKw (n : Nat) (sp : Sp) (E : XK) (tk : TA) : TE := fun σ H Q => tk σ H fun zs H1 => zs.length = n ∧ sp zs H1 Q E
theorem pe_fKw (F : FnK X.prog X.w X.K X.mg X.base CX j x ps sp) (hr : Room k X.A) (hx : Passes CX X E) (hkw : PK X kws tk) (hg : Gl X x := by rfl) (hj : j ≤ k := by decide) (hdb : (x == ("__debug__" : Str)) = false := by decide)
    (hall : (backToKw pos (keywordEach kws X.env)).all (·.1.isSome) = true := by rfl) (hks : (backToKw pos (keywordEach kws X.env)).filterMap (·.1) = ps := by rfl)
    (hpl : ((backTo pos (starEach [] X.env)).any (·.1) || (backToKw pos (keywordEach kws X.env)).any (·.1.isNone)) = false := by rfl) : PE X (.Call (.Name x p) [] kws pos) (tKw ps.length sp E tk) := by
  obtain ⟨fd, ok, hb⟩ := F.fn
  refine ⟨fun pins s σ H Q I h => wpAny_Call_Name_kw (ld_glob I hg F.gl ?_ hdb)⟩
  refine PySem.W.callWith_KW0 (h₀ := X.base) I.ok.mod.kin F.kp hall (thn (hkw.run pos pins s σ H _ I h) fun ws s2 ⟨zs, H2, I2, rz, l2, q2⟩ => ⟨I2.kIn, ?_⟩) hpl
  rw [hks]
  exact run_fnN (us := []) (vs := []) ok (hr.mono hj) hb hx I2 .nil rz rfl l2 q2
theorem op_eqDK (K : PySem.W.Frag) (hu : X.A.units + 64 < cLine) (h : X.K = K := by rfl) : OpR X (compareOp .Eq) (rEqD K) := by
  subst h; exact op_eqD hu
theorem op_neDK (K : PySem.W.Frag) (hu : X.A.units + 64 < cLine) (h : X.K = K := by rfl) : OpR X (compareOp .NotEq) (rNeD K) := by
  subst h; exact op_neD hu
theorem sl_tupK (K : PySem.W.Frag) (h : X.K = K := by rfl) : SlR X (rSlT K) := by
  subst h; exact sl_tup
end
end L2
/-! _law_right -/
namespace K53
open PySem PySem.Spec PyProof.Rows L2
section
variable {P : Program} {w : World} {K : PySem.W.Frag} {mg : Str → Option Value} {base : Heap}
theorem right_wkF {H : Hp} {v1 v7 : V} {d1 d7 : Dt} {Q : Addr → Hp → Prop} (h1 : Dd K H v1 d1) (p1 : isPlace d1 = true) (h7 : Dd K H v7 d7) (p7 : scriptD d7 = true) (k : ∀ x dx fs H', Same H H' → H x = none → H' x = some (.ins (wkA K) dx fs) → fs.lookup ("script" : Str) = some v7 → Q x H') :
    ∀ x dx, H x = none → H dx = none → dx ≠ x → spWInit K [.ref x, v1, .str "permanent", .int 0, .int 0, .non, .int 0, v7] (upd (upd H dx (.own x)) x (.ins (wkA K) dx [])) (fun v H3 => v = .non ∧ Q x H3) ENo := by
  intro x dx nx nd ne
  have s0 : Same H (upd (upd H dx (.own x)) x (.ins (wkA K) dx [])) := (Same.new nd).trans (Same.new (by rw [upd_ne (Ne.symm ne)]; exact nx))
  refine ⟨x, dx, v1, _, _, _, _, _, v7, d1, .str "permanent", .int 0, .int 0, .non, .int 0, d7, rfl, upd_same, h1.same s0, .str _, .int _, .int _, .non, .int _, h7.same s0, fun _ H' s' => ⟨rfl, ?_⟩, fun y e => ?_⟩
  · exact k x _ _ _ (fun b o e => by rw [upd_ne (ne_of_none e nx)]; exact s' _ _ (s0 _ _ e)) nx upd_same (by kernel_rfl)
  · rw [wset_ok p1 p7] at e
    cases e
/-- the rows of that key -/
def filR (m x : Str) : List Dt → List V → List V
  | r :: rs, v :: vs => if keyD r = (m, x) then v :: filR m x rs vs else filR m x rs vs
  | _, _ => []
theorem filR_cons (m x : Str) (r : Dt) (rs : List Dt) (v : V) (vs : List V) : filR m x (r :: rs) (v :: vs) = if keyD r = (m, x) then v :: filR m x rs vs else filR m x rs vs := by
  conv => lhs; unfold filR
theorem filR_first (m x : Str) : ∀ (ds : List Dt) (vs : List V), (filR m x ds vs ++ [V.non])[0]? = some (findRow m x ds vs)
  | [], [] => rfl
  | [], _ :: _ => rfl
  | _ :: _, [] => rfl
  | r :: rs, v :: vs => by
    unfold filR findRow
    split
    · rfl
    · exact filR_first m x rs vs
theorem filR_len (m x : Str) : ∀ (ds : List Dt) (vs : List V), (filR m x ds vs).length ≤ vs.length
  | [], [] => Nat.le_refl _
  | [], _ :: _ => Nat.zero_le _
  | _ :: _, [] => Nat.le_refl _
  | r :: rs, v :: vs => by
    unfold filR
    have := filR_len m x rs vs
    split <;> simp <;> omega
theorem findRow_in (m x : Str) : ∀ (ds : List Dt) (vs : List V), findRow m x ds vs = .non ∨ ∃ (i : Nat) (v : V), vs[i]? = some v ∧ findRow m x ds vs = v
  | [], _ => .inl (by unfold findRow; rfl)
  | _ :: _, [] => .inl (by unfold findRow; rfl)
  | r :: rs, v :: vs => by
    unfold findRow
    split
    · exact .inr ⟨0, v, rfl, rfl⟩
    · rcases findRow_in m x rs vs with h | ⟨i, u, h1, h2⟩
      · exact .inl h
      · exact .inr ⟨i + 1, u, by simpa using h1, h2⟩
theorem eqv_two (a b c d : Str) : PyData.eqv (.tuple [.str a, .str b]) (.tuple [.str c, .str d]) = decide ((a, b) = (c, d)) := by
  show ((a == c) && ((b == d) && true)) = _
  by_cases h1 : a = c
  · subst h1
    by_cases h2 : b = d
    · subst h2
      simp
    · rw [beq_self_eq_true, Bool.true_and, Bool.and_true, beq_eq_false_iff_ne.mpr h2]
      exact (decide_eq_false fun e => h2 (congrArg Prod.snd e)).symm
  · rw [beq_eq_false_iff_ne.mpr h1, Bool.false_and]
    exact (decide_eq_false fun e => h1 (congrArg Prod.fst e)).symm
theorem sqT_upd {H : Hp} {t D : Addr} {ys xs : List V} {o : HO} (h : SqT K H t ys) (e : H D = some (.lst xs)) : SqT K (upd H D o) t ys := by
  rcases h with (h | ⟨u, h⟩) | h
  · exact .inl (.inl (by rw [upd_ne (by rintro rfl; rw [e] at h; cases h)]; exact h))
  · exact .inl (.inr ⟨u, by rw [upd_ne (by rintro rfl; rw [e] at h; cases h)]; exact h⟩)
  · exact .inr h
theorem eqv_strs : ∀ ws : List Str, PyData.eqv (.tuple (ws.map .str)) (.tuple (ws.map .str)) = true
  | [] => rfl
  | w :: ws => by
    show ((w == w) && PyData.eqv (.tuple (ws.map .str)) (.tuple (ws.map .str))) = true
    rw [eqv_strs ws, beq_self_eq_true]
    rfl
theorem word_ok {x : Str} (h : wordS x = true) : PyData.strOk x = true := by
  unfold wordS at h
  simp only [Bool.and_eq_true] at h
  have z := List.all_eq_true.mp h.2
  have small : ∀ c ∈ signsS.cps.toList, c < 0x110000 := by decide +kernel
  unfold PyData.strOk
  rw [← Array.all_toList]
  exact List.all_eq_true.mpr fun c hc => decide_eq_true (small c (of_decide_eq_true (z c hc)))
theorem word_len {x : Str} (h : wordS x = true) : x.length ≤ 1000 := by
  unfold wordS at h
  simp only [Bool.and_eq_true, decide_eq_true_eq] at h
  have := h.1.1.2
  omega
theorem shaped_two {m x : Str} (hm : wordS m = true) (hx : wordS x = true) : SeqAt.shaped (.tuple [.str m, .str x]) = true := by
  unfold SeqAt.shaped
  have h1 : PyData.canLay0 (.tuple [.str m, .str x]) = true := by
    show (PyData.strOk m && (PyData.strOk x && true)) = true
    rw [word_ok hm, word_ok hx]; rfl
  have h2 : PyData.depth (.tuple [.str m, .str x]) ≤ 64 := by show max 0 (max 0 0) + 1 ≤ 64; decide
  rw [h1, decide_eq_true h2]; rfl
theorem dp_strs {H : Hp} : ∀ ws : List Str, DpAll K H (ws.map V.str) (ws.map PyData.str)
  | [] => .nil
  | w :: ws => .cons (.str w) (dp_strs ws)
theorem lay_strs : ∀ ws : List Str, (∀ x ∈ ws, PyData.strOk x = true) → PyData.canLayAll0 (ws.map PyData.str) = true
  | [], _ => rfl
  | w :: ws, h => by
    show (PyData.strOk w && PyData.canLayAll0 (ws.map PyData.str)) = true
    rw [lay_strs ws fun x hx => h x (List.mem_cons_of_mem _ hx), h w List.mem_cons_self]; rfl
theorem depth_strs : ∀ ws : List Str, PyData.depthAll (ws.map PyData.str) = 0
  | [] => rfl
  | w :: ws => by
    show max (PyData.depth (.str w)) (PyData.depthAll (ws.map PyData.str)) = 0
    rw [depth_strs ws]; rfl
theorem shaped_strs (ws : List Str) (h : ∀ x ∈ ws, PyData.strOk x = true) : SeqAt.shaped (.tuple (ws.map PyData.str)) = true := by
  unfold SeqAt.shaped
  have h1 : PyData.canLay0 (.tuple (ws.map PyData.str)) = true := lay_strs ws h
  have h2 : PyData.depth (.tuple (ws.map PyData.str)) ≤ 64 := by
    show PyData.depthAll (ws.map PyData.str) + 1 ≤ 64
    rw [depth_strs]; decide
  rw [h1, decide_eq_true h2]; rfl
abbrev s_law_right : Stmt := (top 69)
def N_law_right : List Str := ["m", "rows", "told", "mode", "word", "due", "row", "deed"]
theorem sc_law_right : FnScope N_law_right ["m", "rows"] (defScope s_law_right) := ⟨rfl, rfl, rfl, by decide +kernel, rfl, by decide +kernel, by decide +kernel⟩
def retE : Stmt → Expr
  | .Return (some e) _ => e | _ => .Name "" ⟨0, 0, 0, 0⟩
def cmpL : Expr → Expr
  | .Compare l _ _ _ => l | e => e
def lcScope : Expr → Scope
  | .ListComp _ _ sc _ => sc | _ => defScope (.Pass ⟨0, 0, 0, 0⟩)
def lastSc : Scope := lcScope (cmpL (retE ((defBody s_law_right).getD 4 (.Pass ⟨0, 0, 0, 0⟩))))
def spRight (K : PySem.W.Frag) : Sp := fun vs H Q _ => ∃ (v0 : V) (l : Addr) (xs : List V) (ds : List Dt), vs = [v0, .ref l] ∧ H l = some (.lst xs) ∧ DdAll K H xs ds ∧ wrongAt [] 0 ds = none ∧ (∀ r ∈ ds, okRow r = true) ∧ ∀ H', Same H H' → Q (.bl true) H'
theorem ok_law_right {fd : FuncData} {mv : List Value} (F : Has K mg "_law_right" s_law_right) (T : Txt K mg) (W : Wk K mg) (FW : FnOk P w K mg base (L2.CX P w) 11 (He.ma K (wkA K) "__init__") fd wPs (spWInit K)) (hb : KBn K fd wPs 2 ["script"] (fun us ws => us ++ mv ++ ws) (fun vs zs => vs ++ [.str "permanent", .int 0, .int 0, .non, .int 0] ++ zs))
    (K_is_script : FnK P w K mg base CX0 10 "is_script" ["value"] (spChk K scriptD)) (K_wrong_row : FnK P w K mg base (L2.CX P w) 9 "wrong_row" ["script"] (spWrong K)) (K_is_deed : FnK P w K mg base CX0 6 "is_deed" ["value"] (spChk K deedD)) (F_row_for : FnQ P w K mg base (L2.CX P w) 11 "row_for" ["script", "mode", "word"] (spRowFor K))
    (F_words_of : FnQ P w K mg base (L2.CX P w) 11 "words_of" ["script"] (spWordsOf K)) : FnQ P w K mg base CX0 13 "_law_right" ["m", "rows"] (spRight K) := by
  refine F.q sc_law_right (fun _ _ _ _ _ _ us hl => match us, hl with | [_, _], _ => rfl) (fun vs H Q E h => by obtain ⟨_, _, _, _, rfl, _⟩ := h; rfl) (fun cdv A outer s H vs Q E hr h => ?_)
  obtain ⟨v0, l, xs, ds, rfl, hl, ha, ok, rows, k⟩ := h
  have n : xs.length = ds.length := ha.len
  have few : ds.length ≤ 30 := by have := wrongAt_few ok (by decide); omega
  have right : ∀ r ∈ ds, rowD r = true := rows_ok ok
  refine ⟨_, PSs.nox (pss_cons (ps_set (i := 2) sc_law_right.nd rfl (by first | exact .inl rfl | exact .inr rfl) (pe_callTy call_tuple_of (by rfl) (T.fr "tuple" (by simp [frees])) PyProof.Rows.boot_tuple (pa_cons (pv 1) pa_nil)))
  (pss_cons (ps_if (pw_or (pt_not (pt_val (pe_fKw K_is_script hr pass0 (pk_cons (pv 2) pk_nil)))) (pw_or (pt_cmpR op_notN (pe_fKw K_wrong_row hr passNo (pk_cons (pv 2) pk_nil)) pe_non (by first | exact nomark _ | rfl)) (pw_or1 (pt_cmpR (op_neSame hr.units) (pe_fld (pe_makeN W.mkr FW hr (by rfl) W.gl hb passNo (pa_cons pe_str pa_nil) (pk_cons (pv 2) pk_nil)) rfl) (pv 2) (by first | exact nomark _ | rfl))))).pt
  (pss_one (ps_ret pe_bl))
  pss_nil)
  (pss_cons (ps_for PassesOwn.never rfl (pi_list (pe_op op_cat (pe_lc (own := [("row", 6)]) (tt := tYes) rfl sc_law_right.nd (pi_list (pv 1)) (blkOk_by (N := N_law_right) (sc := defScope s_law_right) (by decide +kernel)) (fun _ _ _ _ _ => (pg_name (i := 6) sc_law_right.nd rfl (by first | exact .inl rfl | exact .inr rfl))) (fun _ _ _ _ _ => pts_nil) (fun _ _ _ _ _ => (pe_slice (sl_tupK K) (pv 6) po_none (po_some pe_int)))) (pe_lstM (pa_cons (pe_tupM (pa_cons pe_str (pa_cons pe_str pa_nil))) (pa_cons (pe_tupM (pa_cons pe_str (pa_cons pe_str pa_nil))) pa_nil))))) (pg_tup rfl (pgs_cons (pg_name (i := 3) sc_law_right.nd rfl (by first | exact .inl rfl | exact .inr rfl)) (pgs_cons (pg_name (i := 4) sc_law_right.nd rfl (by first | exact .inl rfl | exact .inr rfl)) pgs_nil)))
  (pss_cons (ps_set (i := 5) sc_law_right.nd rfl (by first | exact .inl rfl | exact .inr rfl) (pe_ix ix_list (pe_op op_cat (pe_lc (own := [("row", 6)]) rfl sc_law_right.nd (pi_list (pv 1)) (blkOk_by (N := N_law_right) (sc := defScope s_law_right) (by decide +kernel)) (fun _ _ _ _ _ => (pg_name (i := 6) sc_law_right.nd rfl (by first | exact .inl rfl | exact .inr rfl))) (fun _ _ _ _ _ => (pts_one (pt_cmpR (op_eqDK K hr.units) (pe_slice (sl_tupK K) (pv 6) po_none (po_some pe_int)) (pe_tupM (pa_cons (pv 3) (pa_cons (pv 4) pa_nil))) (by first | exact nomark _ | rfl)))) (fun _ _ _ _ _ => (pv 6))) (pe_lstM (pa_cons pe_non pa_nil))) pe_int (fun _ _ => rfl)))
  (pss_one (ps_if (pt_cmpR (op_neSame hr.units) (pe_f F_row_for hr passNo (pa_cons (pv 2) (pa_cons (pv 3) (pa_cons (pv 4) pa_nil)))) (pv 5) (by first | exact nomark _ | rfl))
  (pss_one (ps_ret pe_bl))
  pss_nil))))
  (pss_cons (ps_if (pt_cmpR (op_neD hr.units) (pe_f F_words_of hr passNo (pa_cons (pv 2) pa_nil)) (pe_callTy call_tuple_of (by rfl) (T.fr "tuple" (by simp [frees])) PyProof.Rows.boot_tuple (pa_cons (pe_callB (cr_sortX rfl) (by rfl) (T.fr "sorted" (by simp [frees])) PyProof.Rows.boot_sorted (pa_cons (pe_callTy (cr_setOf rfl) (by rfl) (T.fr "set" (by simp [frees])) PyProof.Rows.boot_set (pa_cons (pe_lc (own := [("row", 6)]) (tt := tYes) rfl sc_law_right.nd (pi_list (pv 1)) (blkOk_by (N := N_law_right) (sc := defScope s_law_right) (by decide +kernel)) (fun _ _ _ _ _ => (pg_name (i := 6) sc_law_right.nd rfl (by first | exact .inl rfl | exact .inr rfl))) (fun _ _ _ _ _ => pts_nil) (fun _ _ _ _ _ => (pe_ix (ix_tupK K) (pv 6) pe_int (fun _ _ => rfl)))) pa_nil)) pa_nil)) pa_nil)) (by first | exact nomark _ | rfl))
  (pss_one (ps_ret pe_bl))
  pss_nil)
  (pss_one (ps_ret (pe_cmpR (op_eqD hr.units) (pe_lc (own := [("row", 6)]) rfl sc_law_right.nd (pi_list (pv 1)) (blkOk_by (N := N_law_right) (sc := defScope s_law_right) (by decide +kernel)) (fun _ _ _ _ _ => (pg_name (i := 6) sc_law_right.nd rfl (by first | exact .inl rfl | exact .inr rfl))) (fun _ _ _ _ _ => (pts_one (pt_cmpR (op_neDK K hr.units) (pe_lc (own := [("deed", 7)]) rfl sc_law_right.nd (pi_tupK K (pe_ix (ix_tupK K) (pv 6) pe_int (fun _ _ => rfl))) (blkOk_by (N := N_law_right) (sc := lastSc) (by decide +kernel)) (fun _ _ _ _ _ => (pg_name (i := 7) sc_law_right.nd rfl (by first | exact .inl rfl | exact .inr rfl))) (fun _ _ _ _ _ => (pts_one (pt_not (pt_val (pe_fKw K_is_deed hr pass0 (pk_cons (pv 7) pk_nil)))))) (fun _ _ _ _ _ => pe_int)) (pe_lstM pa_nil) (by first | exact nomark _ | rfl)))) (fun _ _ _ _ _ => pe_int)) (pe_lstM pa_nil) (by first | exact nomark _ | rfl)))))))), ?_⟩
  refine ⟨_, rfl, l, xs, rfl, .inl ⟨SqL.of hl, fun tl nl => ?_⟩⟩
  have s1 : Same H (upd H tl (.tup xs)) := Same.new nl
  have t1 : (upd H tl (.tup xs)) tl = some (.tup xs) := upd_same
  generalize upd H tl (.tup xs) = H1 at s1 t1 ⊢
  have told : Dd K H1 (.ref tl) (.tup ds) := .tup (SqT.of t1) (ha.same s1)
  have scr : scriptD (.tup ds) = true := by simp [scriptD, ok]
  have due0 : dueD (.tup ds) = none := by simp [dueD, ok]
  refine ⟨_, rfl, rfl, _, _, rfl, told, fun H2 s2 => ⟨_, rfl, if_no (by rw [scr]; rfl) ?_⟩⟩
  refine ⟨_, rfl, rfl, _, _, rfl, told.same s2, (fun rows2 e H3 s3 => ?_), fun nn => absurd rfl (nn ds)⟩
  cases e
  rw [ok]
  refine ⟨rfl, _, rfl, if_no rfl ?_⟩
  have told3 := told.same (s2.trans s3)
  refine ⟨_, rfl, rfl, rfl, right_wkF (d1 := .str "w") (.str "w") (by decide +kernel) told3 scr fun x dx fs H4 s4 n4 e4 lk => ?_⟩
  have T4 : Same H1 H4 := s2.trans (s3.trans s4)
  refine ⟨x, wkA K, dx, fs, _, rfl, e4, W.cl, W.na _ (by simp), lk, _, rfl, .inr ⟨tl, xs, rfl, rfl, SqT.of (T4 _ _ t1)⟩, _, rfl, if_no rfl ?_⟩
  have S4 : Same H H4 := s1.trans T4
  -- a row of ours
  have row : ∀ {i : Nat} {v : V}, xs[i]? = some v → ∃ (b : Addr) (m x : Str) (k : Dt) (es : List Dt) (v3 : V) (dp : Addr) (zs : List V), v = .ref b ∧ ds[i]? = some (.tup [.str m, .str x, k, .tup es]) ∧ SqT K H b [.str m, .str x, v3, .ref dp] ∧ SqT K H dp zs ∧ DdAll K H zs es ∧ wordS m = true ∧ wordS x = true ∧ ∀ e ∈ es, deedD e = true := fun {i v} ex => by
    obtain ⟨r, er, hr1⟩ := ha.get ex
    have rr := right r (List.mem_of_getElem? er)
    obtain ⟨m, x, k, d4, rfl, wm, wx⟩ := row_form rr
    have dd : deedsD d4 = true := by
      simp only [rowD, Bool.and_eq_true] at rr
      exact rr.2
    cases d4 with
    | tup es =>
      obtain ⟨b, ys, rfl, hq, hy, _⟩ := tup_len hr1
      obtain ⟨v1, v2, v3, v4, rfl, g1, g2, _, g4⟩ := hy.four
      cases g1
      cases g2
      obtain ⟨dp, zs, rfl, hz, hzs, _⟩ := tup_len g4
      simp only [deedsD, Bool.and_eq_true] at dd
      exact ⟨b, m, x, k, es, v3, dp, zs, rfl, er, hq, hz, hzs, wm, wx, List.all_eq_true.mp dd.2⟩
    | _ => cases dd
  have xfew : xs.length < sizeLine := Nat.lt_of_le_of_lt (show xs.length ≤ 30 by omega) (by decide)
  have two : (2 : Nat) ≤ sizeLine := by decide
  refine ⟨_, rfl, l, rfl, ⟨_, SqL.of (S4 _ _ hl)⟩, comp_any walk_list (P := fun i v G => ∃ t m x, v = .ref t ∧ SqT K G t [.str m, .str x] ∧ wordS m = true ∧ wordS x = true) xfew (fun G g => SqL.of (g _ _ (S4 _ _ hl))) (fun i G x G' y b o e => by rw [y.1]; exact e) (fun i v G1 G2 g ⟨t, m, x, e, h, wm, wx⟩ => ⟨t, m, x, e, g.sqT h, wm, wx⟩) (fun i v G1 D xs ys _ e ⟨t, m, x, e2, h, wm, wx⟩ => ⟨t, m, x, e2, sqT_upd h e, wm, wx⟩) (fun i x G1 G2 R hi g1 yy kk => ?_) fun pk G5 wk z5 _ e5 len5 val5 => ?_⟩
  · obtain ⟨rfl, ex⟩ := yy
    obtain ⟨b, m, x, k2, es, v3, dp, zs, rfl, er, hq, _, _, wm, wx, _⟩ := row ex
    exact ⟨rfl, _, rfl, 2, rfl, b, _, rfl, g1.sqT (S4.sqT hq), (by show ¬ (HT.sIx 4 0 none = 0 ∧ HT.sIx 4 4 (some 2) = 4); decide), fun p hp => kk _ _ (Same.new hp) ⟨p, m, x, rfl, SqT.of upd_same, wm, wx⟩⟩
  refine ⟨two, fun a1 G6 y1 _ e6 => ⟨two, fun a2 G7 y2 _ e7 => ⟨two, fun lb G8 y3 _ e8 => ?_⟩⟩⟩
  have lw : wk.length ≤ 30 := by omega
  refine cat_new (y3 _ _ (y2 _ _ (y1 _ _ e5))) e8 (Nat.le_trans (show wk.length + 2 ≤ 32 by omega) (by decide)) fun pl G9 y4 e9 => ?_
  have S9 : Same H G9 := S4.trans (z5.trans (y1.trans (y2.trans (y3.trans y4))))
  have good : ∀ (i : Nat) (v : V), (wk ++ [.ref a1, .ref a2])[i]? = some v → ∃ t m x, v = .ref t ∧ SqT K G9 t [.str m, .str x] ∧ wordS m = true ∧ wordS x = true := fun i v e => by
    rcases Nat.lt_or_ge i wk.length with hi | hi
    · rw [List.getElem?_append_left hi] at e
      obtain ⟨t, m, x, e2, h, wm, wx⟩ := val5 i v e
      exact ⟨t, m, x, e2, (y1.trans (y2.trans (y3.trans y4))).sqT h, wm, wx⟩
    · rw [List.getElem?_append_right hi] at e
      rcases get2 e with rfl | rfl
      · exact ⟨a1, "third", "go", rfl, SqT.of (y4 _ _ (y3 _ _ (y2 _ _ e6))), by decide +kernel, by decide +kernel⟩
      · exact ⟨a2, "first", "none", rfl, SqT.of (y4 _ _ (y3 _ _ e7)), by decide +kernel, by decide +kernel⟩
  have told9 : Dd K G9 (.ref tl) (.tup ds) := told.same (T4.trans (z5.trans (y1.trans (y2.trans (y3.trans y4)))))
  have t9 : G9 tl = some (.tup xs) := (T4.trans (z5.trans (y1.trans (y2.trans (y3.trans y4))))) _ _ t1
  have row_xs : ∀ {i : Nat}, ds.drop i = [] → xs.length ≤ i := fun {i} e => by
    have := congrArg List.length e
    rw [List.length_drop] at this
    simp at this
    omega
  refine ⟨pl, rfl, ⟨_, SqL.of e9⟩, for_it walk_list (fun i σ G => (∃ v3 v4 v5, σ = [some v0, some (.ref l), some (.ref tl), v3, v4, v5, none, none]) ∧ Same G9 G) ⟨⟨none, none, none, rfl⟩, Same.refl G9⟩ (fun i σ G _ h => SqL.of (h.2 _ _ e9)) ?_ ?_⟩
  · rintro i v σ G10 G11 hi ⟨⟨v3, v4, v5, rfl⟩, s10⟩ ⟨rfl, ex⟩
    obtain ⟨t, m, x, rfl, ht, wm, wx⟩ := good i v ex
    refine ⟨t, _, rfl, s10.sqT ht, rfl, _, _, rfl, _, _, rfl, rfl, ?_⟩
    have S10 := S9.trans s10
    refine ⟨_, rfl, l, rfl, ⟨_, SqL.of (S10 _ _ hl)⟩, fun D nD => ?_⟩
    refine lc_it walk_list (fun j G => Same G11 G ∧ ∃ acc, G D = some (.lst acc) ∧ acc ++ filR m x (ds.drop j) (xs.drop j) = filR m x ds xs ∧ acc.length ≤ j) ⟨Same.new nD, [], upd_same, rfl, Nat.le_refl _⟩ (fun j G _ h => SqL.of (h.1 _ _ (S10 _ _ hl))) ?_ ?_
    · rintro j y G12 G13 hj ⟨s12, acc, eD, ef, la⟩ ⟨rfl, ey⟩
      obtain ⟨b, m2, x2, k2, es, w3, dp, zs, rfl, er, hq, _, _, wm2, wx2, _⟩ := row ey
      have S12 := S10.trans s12
      refine ⟨rfl, _, rfl, 2, rfl, b, _, rfl, S12.sqT hq, (by show ¬ (HT.sIx 4 0 none = 0 ∧ HT.sIx 4 4 (some 2) = 4); decide), fun p1 np1 => ?_⟩
      have u1 : Same G13 (upd G13 p1 (.tup [V.str m2, .str x2])) := Same.new np1
      have f1 : (upd G13 p1 (.tup [V.str m2, .str x2])) p1 = some (.tup [.str m2, .str x2]) := upd_same
      show tTupM _ _ (upd G13 p1 (.tup [V.str m2, .str x2])) _
      generalize upd G13 p1 (.tup [V.str m2, .str x2]) = G14 at u1 f1 ⊢
      refine ⟨_, rfl, _, rfl, two, fun p2 G15 u2 _ f2 => ⟨.tuple [.str m2, .str x2], .tuple [.str m, .str x], .tup (SqT.of (u2 _ _ f1)) (.cons (.str _) (.cons (.str _) .nil)), .tup (SqT.of f2) (.cons (.str _) (.cons (.str _) .nil)), shaped_two wm2 wx2, shaped_two wm wx, _, rfl, ?_⟩⟩
      rw [eqv_two]
      have eD15 : G15 D = some (.lst acc) := u2 _ _ (u1 _ _ eD)
      have lj : j < xs.length := hj
      have ld : j < ds.length := by omega
      have dr : ds.drop j = .tup [.str m2, .str x2, k2, .tup es] :: ds.drop (j + 1) := by
        rw [List.drop_eq_getElem_cons ld]
        congr 1
        rw [List.getElem?_eq_getElem ld] at er
        exact Option.some.inj er
      have dx : xs.drop j = .ref b :: xs.drop (j + 1) := by
        rw [List.drop_eq_getElem_cons lj]
        congr 1
        rw [List.getElem?_eq_getElem lj] at ey
        exact Option.some.inj ey
      rw [dr, dx] at ef
      have key : keyD (.tup [.str m2, .str x2, k2, .tup es]) = (m2, x2) := rfl
      by_cases c : (m2, x2) = (m, x)
      · rw [filR_cons, key, if_pos c] at ef
        refine if_yes (decide_eq_true c) ⟨_, rfl, acc, eD15, Nat.lt_of_le_of_lt (show acc.length ≤ 30 by omega) (by decide), fun b2 o e => ?_, acc ++ [.ref b], upd_same, by rw [List.append_assoc]; exact ef, by simp; omega⟩
        rw [upd_ne (ne_of_none e nD)]
        exact u2 _ _ (u1 _ _ (s12 _ _ e))
      · rw [filR_cons, key, if_neg c] at ef
        exact if_no (decide_eq_false c) ⟨s12.trans (u1.trans u2), acc, eD15, ef, by omega⟩
    · rintro G12 ⟨s12, acc, eD, ef, la⟩
      have e0 : ds.drop xs.length = [] := by rw [n, List.drop_length]
      rw [e0] at ef
      have ef2 : acc = filR m x ds xs := by
        have z : filR m x [] (xs.drop xs.length) = [] := by unfold filR; rfl
        rw [z, List.append_nil] at ef
        exact ef
      refine ⟨(by show 1 ≤ sizeLine; decide), fun l2 G13 u3 _ f3 => cat_new (u3 _ _ eD) f3 (Nat.le_trans (show acc.length + 1 ≤ 31 by omega) (by decide)) fun pc G14 u4 f4 => ?_⟩
      have at0 : (acc ++ [V.non])[0]? = some (findRow m x ds xs) := by rw [ef2]; exact filR_first m x ds xs
      refine ⟨pc, _, _, _, rfl, rfl, SqL.of f4, at_of (j := 0) rfl at0, ?_⟩
      have s14 : Same G9 G14 := s10.trans (s12.trans (u3.trans u4))
      refine ⟨_, rfl, _, rfl, _, rfl, .ref tl, .tup ds, m, x, rfl, told9.same s14, wm, wx, word_len wm, word_len wx, (fun _ => ⟨tl, xs, ds, rfl, rfl, SqT.of (s14 _ _ t9), ha.same (S9.trans s14), fun G15 u5 => ?_⟩), fun u e => by rw [due0] at e; cases e⟩
      refine ⟨_, rfl, ?_, _, rfl, if_no rfl ⟨⟨_, _, _, rfl⟩, s14.trans u5⟩⟩
      rcases findRow_in m x ds xs with z | ⟨j, v, ev, z⟩
      · exact .inl ⟨z, z⟩
      · obtain ⟨b, m2, x2, k2, es, w3, dp, zs, rfl, er, hq, _⟩ := row ev
        exact .inr ⟨b, _, z, z, (S9.trans (s14.trans u5)).sqT hq⟩
  · rintro σ G10 ⟨⟨v3, v4, v5, rfl⟩, s10⟩
    have S10 := S9.trans s10
    refine ⟨_, rfl, .ref tl, .tup ds, rfl, told9.same s10, (fun rows2 ws p G11 e1 e2 W2 s11 _ f11 => ?_), fun u e => by rw [due0] at e; cases e⟩
    cases e1
    have S11 := S10.trans s11
    refine ⟨_, rfl, l, rfl, ⟨_, SqL.of (S11 _ _ hl)⟩, comp_val walk_list (f := fun i => V.str (keyD (ds.getD i .non)).2) xfew (fun G g => SqL.of (g _ _ (S11 _ _ hl))) (fun i G x G' y b o e => by rw [y.1]; exact e) (fun i x G1 G2 R hi g1 yy kk => ?_) fun p2 G12 s12 _ f12 => ?_⟩
    · obtain ⟨rfl, ex⟩ := yy
      obtain ⟨b, m, x, k2, es, w3, dp, zs, rfl, er, hq, _⟩ := row ex
      have z := kk _ (Same.refl _)
      simp only [List.getD_eq_getElem?_getD, er, Option.getD_some] at z
      exact ⟨rfl, _, rfl, b, _, _, .str x, rfl, rfl, g1.sqT (S11.sqT hq), at_of (j := 1) rfl rfl, z⟩
    · have ef : (List.range xs.length).map (fun i => V.str (keyD (ds.getD i .non)).2) = ((List.range xs.length).map fun i => (keyD (ds.getD i .non)).2).map V.str := by rw [List.map_map]; rfl
      rw [ef] at f12
      refine ⟨p2, _, rfl, SqL.of f12, (by rw [List.length_map, List.length_range]; show xs.length + 1 < 4096; omega), fun p3 c np3 lc => ?_⟩
      rw [List.length_map, List.length_range] at lc
      have s13 : Same G12 (upd G12 p3 (SetXO w p3 (fun y => decide (y ∈ (List.range xs.length).map fun i => (keyD (ds.getD i .non)).2)) c)) := Same.new np3
      refine ⟨p3, _, c, rfl, upd_same, by omega, fun ys p4 G14 srt nd mem s14 _ f14 => ?_⟩
      refine ⟨p4, _, rfl, .inl ⟨SqL.of f14, fun p5 np5 => ?_⟩⟩
      have same : ws = ys := sorted_one W2.srt srt W2.once nd fun y => by
        rw [W2.mem, mem, decide_eq_true_eq, List.mem_map]
        constructor
        · rintro ⟨r, hr2, e⟩
          obtain ⟨i, hi, ei⟩ := List.getElem_of_mem hr2
          refine ⟨i, List.mem_range.mpr (by omega), ?_⟩
          rw [← e, ← ei]
          simp [hi]
        · rintro ⟨i, hi, e⟩
          have li : i < ds.length := by have := List.mem_range.mp hi; omega
          refine ⟨ds[i], List.getElem_mem li, ?_⟩
          rw [← e]
          simp [li]
      subst same
      have s15 : Same G14 (upd G14 p5 (.tup (ws.map V.str))) := Same.new np5
      have f15 : (upd G14 p5 (.tup (ws.map V.str))) p5 = some (.tup (ws.map V.str)) := upd_same
      generalize upd G14 p5 (.tup (ws.map V.str)) = G15 at s15 f15 ⊢
      have oks : ∀ y ∈ ws, PyData.strOk y = true := fun y hy => by
        obtain ⟨r, hr2, e⟩ := (W2.mem y).mp hy
        obtain ⟨m, x, k2, d4, rfl, wm, wx⟩ := row_form (right r hr2)
        cases e
        exact word_ok wx
      have T15 : Same G11 G15 := s12.trans (s13.trans (s14.trans s15))
      refine ⟨.tuple (ws.map .str), .tuple (ws.map .str), .tup (SqT.of (T15 _ _ f11)) (dp_strs ws), .tup (SqT.of f15) (dp_strs ws), shaped_strs ws oks, shaped_strs ws oks, _, rfl, if_no (by rw [eqv_strs]; rfl) ?_⟩
      have S15 := S11.trans T15
      refine ⟨_, rfl, l, rfl, ⟨_, SqL.of (S15 _ _ hl)⟩, fun D nD => ?_⟩
      refine lc_it walk_list (fun j G => Same G15 G ∧ G D = some (.lst [])) ⟨Same.new nD, upd_same⟩ (fun j G _ h => SqL.of (h.1 _ _ (S15 _ _ hl))) ?_ ?_
      · rintro j y G16 G17 hj ⟨s16, eD⟩ ⟨rfl, ey⟩
        obtain ⟨b, m2, x2, k2, es, w3, dp, zs, rfl, er, hq, hz, hzs, _, _, de⟩ := row ey
        have S16 := S15.trans s16
        refine ⟨rfl, _, rfl, b, _, _, _, rfl, rfl, S16.sqT hq, at_of (j := 3) rfl rfl, dp, rfl, ⟨_, S16.sqT hz⟩, fun D2 nD2 => ?_⟩
        refine lc_it walk_tup (fun j G => Same G17 G ∧ G D2 = some (.lst [])) ⟨Same.new nD2, upd_same⟩ (fun j G _ h => h.1.sqT (S16.sqT hz)) ?_ ?_
        · rintro j2 y2 G18 G19 hj2 ⟨s18, eD2⟩ ⟨rfl, ey2⟩
          obtain ⟨d, ed, hd⟩ := hzs.get ey2
          have dd := de d (List.mem_of_getElem? ed)
          refine ⟨rfl, _, rfl, rfl, _, d, rfl, hd.same (S16.trans s18), fun G20 s20 => ⟨_, rfl, if_no (by rw [dd]; rfl) ⟨s18.trans s20, s20 _ _ eD2⟩⟩⟩
        · rintro G18 ⟨s18, eD2⟩
          refine ⟨(by show 0 ≤ sizeLine; decide), fun l3 G19 s19 _ f19 => ⟨.list [], .list [], .lst (SqL.of (s19 _ _ eD2)) .nil, .lst (SqL.of f19) .nil, by decide +kernel, by decide +kernel, _, rfl, if_no rfl ⟨s16.trans (s18.trans s19), s19 _ _ (s18 _ _ eD)⟩⟩⟩
      · rintro G16 ⟨s16, eD⟩
        exact ⟨(by show 0 ≤ sizeLine; decide), fun l3 G17 s17 _ f17 => ⟨.list [], .list [], .lst (SqL.of (s17 _ _ eD)) .nil, .lst (SqL.of f17) .nil, by decide +kernel, by decide +kernel, k _ (S15.trans (s16.trans s17))⟩⟩
end
end K53
/-! _law_refused -/
namespace K53
open PySem PySem.Spec PyProof.Rows L2
section
variable {X : Cx}
/-- _law_field(lambda: ..) -/
theorem pe_field {c P : Addr} {k : Nat} {Tt : List (Addr × Str)} {params : Arguments} {body : Expr} {scope : Scope} {t : XK → TE} {p lpos pos : Pos} (HF : Has X.K X.mg "_law_field" s_law_field) (T : Txt X.K X.mg) (TI : Err X.K X.mg "BadScript" "index") (TS : Err X.K X.mg "BadSetting" "setting") (M : ErrF X.K)
    (TB : LamX.TabB X.base X.mg c P) (hcode : X.env.code = .ref c) (hmT : (P, X.env.qual ++ "<lambda>") ∈ Tt) (hu : ∀ p ∈ Tt, p.1 = P → p.2 = X.env.qual ++ "<lambda>") (hr : Room (k + 2) X.A)
    (hbody : ∀ (A : Around) (outer : List Env) (s : Shared) (H : Hp) (E : XK) (f c' : Addr), Room k (A.deeper (LamX.lamEnv X scope s.heap.objs.size f c')) → PE (LamX.lamCx X A outer s H E scope f c') body (t E)) (L : LamX.LamS X.env.scope scope) (hg : Gl X "_law_field" := by rfl) (hdef : defaultsOf params X.env = ([], []) := by rfl)
    (hbind : ∀ (q : Str) (cl : List (Str × Addr)) (pm cv ctv : Value), bindArgs (PySem.W.kla_fn "<lambda>" q params body scope cl pm cv ctv) ⟨[], []⟩ = pure [] := by exact fun _ _ _ _ _ => rfl) :
    PE X (.Call (.Name "_law_field" p) [.Lambda params body scope lpos] [] pos) (LamX.tLam Tt (TTfield X.K) t) := by
  obtain ⟨fd, FF⟩ := HF.df
  have b := FF.bindsN (ps := ["act"]) fun _ _ _ _ _ _ us hl => match us, hl with | [_], _ => rfl
  have kp := FF.kp
  obtain ⟨oc, od, dV, kV, doc, pm, an, cdv, ct, osl, rfl, lk, hcd, hD, _⟩ := FF.ex
  exact LamX.pe_lamcall (k := k) (Ng := N_law_field) hg HF.gl kp lk hcd b sc_law_field rfl (.inl rfl) (field_gives T TI TS M) TB hcode hmT hu hr L hdef hbind hbody
end
/-- what a lambda's call may let out is told by the lambda's own promise -/
theorem passLam {X : Cx} {A : Around} {outer : List Env} {s : Shared} {H : Hp} {E : XK} {scope : Scope} {f c' : Addr} : Passes (L2.CX X.prog X.w) (LamX.lamCx X A outer s H E scope f c') E := passes_call (takes_of rfl rfl rfl rfl) fun _ _ _ _ h => h
def qRef : Str := "_law_refused" ++ ".<locals>." ++ "<lambda>"
def qLaw : Str := "law" ++ ".<locals>." ++ "<lambda>"
def tabs (K : PySem.W.Frag) : List (Addr × Str) := [(He.tabAd K "_law_refused", qRef), (He.tabAd K "law", qLaw)]
theorem ext_same {H H' : Hp} (s : Same H H') : LamX.ExtN H H' := LamX.ExtN.of s
section
variable {P : Program} {w : World} {K : PySem.W.Frag} {mg : Str → Option Value} {base : Heap}
theorem wrong_wk {H : Hp} {v1 v7 : V} {d1 d7 : Dt} {Q : V → Hp → Prop} {E : XK} (h1 : Dd K H v1 d1) (p1 : isPlace d1 = true) (h7 : Dd K H v7 d7) (p7 : scriptD d7 = false) (k : ∀ e H', Same H H' → H' e = some (.xd [("setting", .str "script")]) → E (.ref (He.ga K "BadSetting")) (some e) H') :
    ∀ x dx, H x = none → H dx = none → dx ≠ x → spWInit K [.ref x, v1, .str "permanent", .int 0, .int 0, .non, .int 0, v7] (upd (upd H dx (.own x)) x (.ins (wkA K) dx [])) (fun v H3 => v = .non ∧ Q (.ref x) H3) E := by
  intro x dx nx nd ne
  have s0 : Same H (upd (upd H dx (.own x)) x (.ins (wkA K) dx [])) := (Same.new nd).trans (Same.new (by rw [upd_ne (Ne.symm ne)]; exact nx))
  have fb : firstBad (wset d1 (.str "permanent") (.int 0) (.int 0) .non (.int 0) d7) = some "script" := by
    unfold wset
    rw [p1, p7]
    decide +kernel
  refine ⟨x, dx, v1, _, _, _, _, _, v7, d1, .str "permanent", .int 0, .int 0, .non, .int 0, d7, rfl, upd_same, h1.same s0, .str _, .int _, .int _, .non, .int _, h7.same s0, fun z => ?_, fun y e a H' s _ hx => ?_⟩
  · rw [fb] at z
    cases z
  · rw [fb] at e
    cases e
    exact k a H' (s0.trans s) hx
abbrev s_law_refused : Stmt := (top 70)
def N_law_refused : List Str := ["m", "told", "due"]
theorem sc_law_refused : FnScope N_law_refused ["m", "told", "due"] (defScope s_law_refused) := ⟨rfl, rfl, rfl, by decide +kernel, rfl, by decide +kernel, by decide +kernel⟩
/-- where the lambdas of a def stand -/
structure LamF (K : PySem.W.Frag) (mg : Str → Option Value) (base : Heap) (x : Str) (q : Str) : Prop where
  cd : He.codeOf K x = .ref (He.codeAd K x)
  tb : LamX.TabB base mg (He.codeAd K x) (He.tabAd K x)
  mem : (He.tabAd K x, q) ∈ tabs K
  one : ∀ p ∈ tabs K, p.1 = He.tabAd K x → p.2 = q
abbrev tLamW (K : PySem.W.Frag) (i : Nat) : XK → TE := fun E => tMakeN (wkA K) 1 1 (spWInit K) (fun vs zs => vs ++ [.str "permanent", .int 0, .int 0, .non, .int 0] ++ zs) E (tCons (tC (.str "w")) tNil) (tCons (tVar i) tNil)
/-- told is no script: the index of its first wrong row is due -/
def spRefused (K : PySem.W.Frag) : Sp := fun vs H Q _ => ∃ (v0 v : V) (rows : List Dt) (i : Nat), vs = [v0, v, .int (i : Nat)] ∧ Dd K H v (.tup rows) ∧ wrongAt [] 0 rows = some i ∧ LamX.Tabs (tabs K) H ∧ ∀ H', LamX.ExtN H H' → LamX.Tabs (tabs K) H' → Q (.bl true) H'
theorem ok_law_refused {fd : FuncData} {mv : List Value} (F : Has K mg "_law_refused" s_law_refused) (T : Txt K mg) (W : Wk K mg) (HF : Has K mg "_law_field" s_law_field) (TI : Err K mg "BadScript" "index") (TS : Err K mg "BadSetting" "setting") (M : ErrF K) (LF : LamF K mg base "_law_refused" qRef)
    (FW : FnOk P w K mg base (L2.CX P w) 11 (He.ma K (wkA K) "__init__") fd wPs (spWInit K)) (hb : KBn K fd wPs 2 ["script"] (fun us ws => us ++ mv ++ ws) (fun vs zs => vs ++ [.str "permanent", .int 0, .int 0, .non, .int 0] ++ zs))
    (F_is_script : FnQ P w K mg base CX0 10 "is_script" ["value"] (spChk K scriptD)) (F_wrong_row : FnQ P w K mg base (L2.CX P w) 9 "wrong_row" ["script"] (spWrong K)) (F_row_for : FnQ P w K mg base (L2.CX P w) 11 "row_for" ["script", "mode", "word"] (spRowFor K)) (F_words_of : FnQ P w K mg base (L2.CX P w) 11 "words_of" ["script"] (spWordsOf K)) :
    FnQ P w K mg base CX0 15 "_law_refused" ["m", "told", "due"] (spRefused K) := by
  refine F.qc sc_law_refused (fun _ _ _ _ _ _ us hl => match us, hl with | [_, _, _], _ => rfl) (fun vs H Q E h => by obtain ⟨_, _, _, _, rfl, _⟩ := h; rfl) (fun A outer s H vs Q E hr h => ?_)
  obtain ⟨v0, v, rows, i, rfl, hd, wr, tb, k⟩ := h
  have scr : scriptD (.tup rows) = false := by simp [scriptD, wr]
  have due : dueD (.tup rows) = some (.int (i : Nat)) := by simp [dueD, wr]
  have two : (2 : Nat) ≤ sizeLine := by decide
  refine ⟨_, PSs.nox (pss_cons (ps_if (pw_or (pt_val (pe_f F_is_script hr pass0 (pa_cons (pv 1) pa_nil))) (pw_or1 (pt_cmpR op_ne (pe_f F_wrong_row hr passNo (pa_cons (pv 1) pa_nil)) (pv 2) (by first | exact nomark _ | rfl)))).pt
  (pss_one (ps_ret pe_bl))
  pss_nil)
  (pss_cons (ps_if (pt_cmpR (op_neD hr.units) (pe_field (k := 12) (Tt := tabs K) HF T TI TS M LF.tb LF.cd LF.mem LF.one hr (fun A outer s H E f c' hr2 => pe_makeN W.mkr FW hr2 (by rfl) W.gl hb passLam (pa_cons pe_str pa_nil) (pk_cons (pv 1) pk_nil)) (LamX.lamS_by (sc := defScope s_law_refused) (by decide +kernel))) (pe_tupM (pa_cons pe_str (pa_cons pe_str pa_nil))) (by first | exact nomark _ | rfl))
  (pss_one (ps_ret pe_bl))
  pss_nil)
  (pss_cons (ps_if (pt_cmpR (op_neD hr.units) (pe_field (k := 12) (Tt := tabs K) HF T TI TS M LF.tb LF.cd LF.mem LF.one hr (fun A outer s H E f c' hr2 => pe_f F_words_of hr2 passLam (pa_cons (pv 1) pa_nil)) (LamX.lamS_by (sc := defScope s_law_refused) (by decide +kernel))) (pe_lstM (pa_cons (pv 2) (pa_cons pe_bl pa_nil))) (by first | exact nomark _ | rfl))
  (pss_one (ps_ret pe_bl))
  pss_nil)
  (pss_one (ps_ret (pe_cmpR (op_eqD hr.units) (pe_field (k := 12) (Tt := tabs K) HF T TI TS M LF.tb LF.cd LF.mem LF.one hr (fun A outer s H E f c' hr2 => pe_f F_row_for hr2 passLam (pa_cons (pv 1) (pa_cons pe_str (pa_cons pe_str pa_nil)))) (LamX.lamS_by (sc := defScope s_law_refused) (by decide +kernel))) (pe_lstM (pa_cons (pv 2) (pa_cons pe_bl pa_nil))) (by first | exact nomark _ | rfl))))))), ?_⟩
  refine ⟨_, rfl, v, _, rfl, hd, fun H2 s2 => ⟨_, rfl, if_no scr ?_⟩⟩
  refine ⟨_, rfl, v, _, rfl, hd.same s2, (fun rows2 e H3 s3 => ?_), fun nn => absurd rfl (nn rows)⟩
  cases e
  rw [wr]
  refine ⟨_, rfl, rfl, _, rfl, if_no (by show (!decide (V.int (i : Nat) = V.int (i : Nat))) = false; rw [decide_eq_true rfl]; rfl) ?_⟩
  have S3 := s2.trans s3
  have tb3 := tb.ext S3
  have eE : ∀ {G G' : Hp} {t : Addr}, LamX.ExtN H G → True := fun _ => trivial
  -- the plan
  refine ⟨tb3, fun H4 e4 tb4 H5 Q' s5 => ⟨_, rfl, rfl, rfl, wrong_wk (d1 := .str "w") (.str "w") (by decide +kernel) (((hd.same S3).ext e4).same s5) scr fun e H6 s6 hx => .inr ⟨"script", e, rfl, rfl, hx, fun t H7 s7 ht => ?_⟩⟩⟩
  have E7 : LamX.ExtN H H7 := (ext_same S3).trans (e4.trans (ext_same (s5.trans (s6.trans s7))))
  have tb7 := tb4.ext (s5.trans (s6.trans s7))
  refine ⟨two, fun t2 H8 s8 _ ht2 => ⟨.tuple [.str "setting", .str "script"], .tuple [.str "setting", .str "script"], .tup (SqT.of (s8 _ _ ht)) (.cons (.str _) (.cons (.str _) .nil)), .tup (SqT.of ht2) (.cons (.str _) (.cons (.str _) .nil)), by decide +kernel, by decide +kernel, _, rfl, if_no (by decide +kernel) ?_⟩⟩
  have E8 := E7.trans (ext_same s8)
  have eqv1 : PyData.eqv (.list [.int (i : Nat), .bool true]) (.list [.int (i : Nat), .bool true]) = true := by
    show (((i : Int) == (i : Int)) && ((true == true) && true)) = true
    rw [beq_self_eq_true]; rfl
  have shp : SeqAt.shaped (.list [.int (i : Nat), .bool true]) = true := by
    unfold SeqAt.shaped
    rfl
  -- its words
  refine ⟨tb7.ext s8, fun H9 e9 tb9 H10 Q' s10 => ⟨_, rfl, v, _, rfl, ((hd.ext E8).ext e9).same s10, (fun rows2 ws p H11 _ z => by rw [due] at z; cases z), fun u z e H11 s11 _ hx => .inl ⟨u, e, rfl, rfl, hx, fun l H12 s12 hl => ?_⟩⟩⟩
  rw [due] at z
  cases z
  have s13 := s10.trans (s11.trans s12)
  refine ⟨_, rfl, two, fun l2 H13 s14 _ hl2 => ⟨.list [.int (i : Nat), .bool true], .list [.int (i : Nat), .bool true], .lst (SqL.of (s14 _ _ hl)) (.cons (.int _) (.cons (.bl _) .nil)), .lst (SqL.of hl2) (.cons (.int _) (.cons (.bl _) .nil)), shp, shp, _, rfl, if_no (by rw [eqv1]; rfl) ?_⟩⟩
  have E13 := E8.trans (e9.trans (ext_same (s13.trans s14)))
  -- its rows
  refine ⟨tb9.ext (s13.trans s14), fun H14 e14 tb14 H15 Q' s15 => ⟨_, rfl, v, _, "first", "go", rfl, ((hd.ext E13).ext e14).same s15, by decide +kernel, by decide +kernel, by decide, by decide, (fun z => by rw [due] at z; cases z), fun u z e H16 s16 _ hx => .inl ⟨u, e, rfl, rfl, hx, fun l H17 s17 hl => ?_⟩⟩⟩
  rw [due] at z
  cases z
  have s18 := s15.trans (s16.trans s17)
  refine ⟨_, rfl, two, fun l2 H18 s19 _ hl2 => ⟨.list [.int (i : Nat), .bool true], .list [.int (i : Nat), .bool true], .lst (SqL.of (s19 _ _ hl)) (.cons (.int _) (.cons (.bl _) .nil)), .lst (SqL.of hl2) (.cons (.int _) (.cons (.bl _) .nil)), shp, shp, ?_⟩⟩
  rw [eqv1]
  exact k _ (E13.trans (e14.trans (ext_same (s18.trans s19)))) (tb14.ext (s18.trans s19))
end
end K53
/-! a law's own call, with tables of code objects; a list != [] -/
namespace L2
open PySem PySem.Spec PyProof.Rows
/-- l != [] -/
def rNeNil : R2 := fun x y H Q => ∃ l b xs, x = .ref l ∧ y = .ref b ∧ H l = some (.lst xs) ∧ H b = some (.lst []) ∧ Q (.bl (!xs.isEmpty)) H
theorem op_neNil {X : Cx} (hu : X.A.units + 64 < cLine) : OpR X (compareOp .NotEq) rNeNil := by
  intro pins s σ H x y v u Q I rx ry h
  obtain ⟨l, b, xs, rfl, rfl, e1, e2, q⟩ := h
  obtain rfl : v = Value.ref l := rx
  obtain rfl : u = Value.ref b := ry
  obtain ⟨_, its, n, rv, l0, z1⟩ := I.lstM e1
  obtain ⟨_, its2, n2, rv2, l02, z2⟩ := I.lstM e2
  have l1 : its.length = xs.length := l0.symm
  have h2 : its2 = [] := by
    exact List.length_eq_zero_iff.mp l02.symm
  subst h2
  cases xs with
  | nil =>
    have h3 : its = [] := List.length_eq_zero_iff.mp l1
    subst h3
    have z := SeqAt.RcNeAt.lists (A := X.A) (s := s) (l := l) (b := b) (items := [].toArray) (items2 := [].toArray) (e := fun _ => true) ⟨_, z1, rfl, _, rfl⟩ ⟨_, z2, rfl, _, rfl⟩ rfl (by omega) (fun j h _ => absurd h (by simp))
    exact z X.prog X.w X.xe _ ⟨.bl false, H, I, rfl, q⟩
  | cons a r =>
    have ne : (its.toArray.size != ([] : List Value).toArray.size) = true := by
      rw [List.size_toArray, l1]
      rfl
    exact (SeqAt.RcNeAt.lists_lengths (A := X.A) (s := s) (l := l) (b := b) (items := its.toArray) (items2 := ([] : List Value).toArray) ⟨_, z1, rfl, _, rfl⟩ ⟨_, z2, rfl, _, rfl⟩ ne (by omega)) X.prog X.w X.xe _ ⟨.bl true, H, I, rfl, q⟩
abbrev tabNil : Obj := { cls := .none, data := .fields #[] }
/-- the law's own call -/
theorem lawT {P : Program} {w : World} {K : PySem.W.Frag} {mg mb : Str → Option Value} {CX : CXT} {k : Nat} {fa a : Addr} {cs : List (Addr × Addr)} {fd : FuncData} {x : Str} {sp : Sp} {s₁ : Shared} {vs : List Value} {ns : List Int}
    (kin : K.In s₁.heap) (gl : s₁.heap.Ns mainGlobals mg) (bl : s₁.heap.Ns builtinsNs mb) (bb : ∀ y : Str, y ≠ "__name__" → mb y = bootBuiltins y) (nl : s₁.heap.NoLimit) (gn : s₁.gens = #[])
    (tb : ∀ p ∈ cs, s₁.heap.get? p.2 = some tabNil) (nk : ∀ p ∈ cs, K.lookup p.2 = none) (cdh : ∀ p ∈ cs, PySem.W.CodeHd s₁.heap p.1 p.2)
    (bmn : ∃ (bm : Addr) (ob : Obj), mg "__builtins__" = some (.ref bm) ∧ bm ≠ builtinsNs ∧ s₁.heap.get? bm = some ob ∧ ob.cls = .type "module" ∧ ob.dict = some builtinsNs ∧ ob.data = .plain)
    (hs : s₁.heap.get? a = some { cls := .type "list", data := .seq vs.toArray }) (hi : IntsAre vs ns) (hl : ns.length ≤ sizeLine) (hr : Room k callerA)
    (F : ∀ base : Heap, K.In base → base.Ns mainGlobals mg → (∀ p ∈ cs, LamX.TabB base mg p.1 p.2) → FnOk P w K mg base CX k fa fd [x] sp) (bnd : ∀ (s : Shared) (u : Value), BindsTo s fd ⟨[u], []⟩ [(x, u)])
    (pr : ∀ H : Hp, (∀ p ∈ cs, H p.2 = some (.tbl #[])) → ScrL K H a (ns.map V.int) → sp [.ref a] H (fun v _ => v = .bl true) fun _ _ _ => False) (no : ∀ H e s', CX [] H s₁ (fun _ _ _ => False) e s' → False) :
    codeAny (model P w) callerA (.call (.ref fa) ⟨[.ref a], []⟩) (fun r s' => r = .ok (.ret (.bool true)) ∧ OldK s₁.heap s'.heap ∧ s'.os = s₁.os ∧ AllBare s'.gens) s₁ := by
  have onT : ∀ {b : Addr}, b ∈ cs.map (·.2) → s₁.heap.get? b = some tabNil ∧ K.lookup b = none := fun {b} hb => by
    obtain ⟨p, hp, rfl⟩ := List.mem_map.mp hb
    exact ⟨tb p hp, nk p hp⟩
  have inT : ∀ p ∈ cs, p.2 ∈ cs.map (·.2) := fun p hp => List.mem_map_of_mem hp
  have offT : a ∉ cs.map (·.2) := fun z => by
    have q := (onT z).1
    rw [hs] at q
    exact nomatch (show Data.seq vs.toArray _ = Data.fields #[] from congrArg Obj.data (Option.some.inj q))
  have lenV := hi.length
  have main : ∀ H : Hp, (∀ b u, H b = some u → (b ∈ cs.map (·.2) ∧ u = .tbl #[]) ∨ (b = a ∧ K.lookup a = none ∧ u = .frz { cls := .type "list", data := .seq vs.toArray } (.lst (ns.map V.int)))) → (∀ p ∈ cs, H p.2 = some (.tbl #[])) → ScrL K H a (ns.map V.int) →
      codeAny (model P w) callerA (.call (.ref fa) ⟨[.ref a], []⟩) (fun r s' => r = .ok (.ret (.bool true)) ∧ OldK s₁.heap s'.heap ∧ s'.os = s₁.os ∧ AllBare s'.gens) s₁ := by
    intro H what onH sc
    have ok : HOk P w H s₁.heap := fun b u z => by
      rcases what b u z with ⟨hb, rfl⟩ | ⟨rfl, _, rfl⟩
      · exact (onT hb).1
      · exact ⟨hs, by rw [List.length_map]; exact hl, vs, _, vals_ints hi, hs⟩
    have toB : ∀ {b : Addr} {o : Obj}, s₁.heap.get? b = some o → H b = none → (hidT s₁.heap H).get? b = some o := fun z n => hidT_get z n
    have plain : ∀ {b : Addr} {o : Obj}, s₁.heap.get? b = some o → (∀ us n, o.data ≠ .seq us n) → o.data ≠ .fields #[] → H b = none := fun {b o} z n1 n2 => by
      cases q : H b with
      | none => rfl
      | some u =>
        rcases what b u q with ⟨hb, _⟩ | ⟨rfl, _, _⟩
        · rw [(onT hb).1] at z
          cases z
          exact absurd rfl n2
        · rw [hs] at z
          cases z
          exact absurd rfl (n1 _ _)
    have dictFree : ∀ {b : Addr} {o : Obj} {es : Array DictEntry} {ep : Nat}, s₁.heap.get? b = some o → o.data = .dict es ep → H b = none := fun {b o es ep} z dz => plain z (fun us n q => nomatch (show Data.dict es ep = Data.seq us n from dz.symm.trans q)) fun q => nomatch (show Data.dict es ep = Data.fields #[] from dz.symm.trans q)
    have toNs : ∀ {b : Addr} {m : Str → Option Value}, s₁.heap.Ns b m → (hidT s₁.heap H).Ns b m := fun ⟨o, es, ep, z, dz, r⟩ => ⟨o, es, ep, toB z (dictFree z dz), dz, r⟩
    have kinB : K.In (hidT s₁.heap H) := fun b o z => toB (kin b o z) (by
      cases q : H b with
      | none => rfl
      | some u =>
        rcases what b u q with ⟨hb, _⟩ | ⟨rfl, n, _⟩
        · rw [(onT hb).2] at z; cases z
        · rw [n] at z; cases z)
    have M : Mod K mg (hidT s₁.heap H) := ⟨kinB, toNs gl, ⟨mb, toNs bl, bb⟩, nl.elim fun mc z => ⟨mc, toNs z.1, z.2⟩⟩
    have TB : ∀ p ∈ cs, LamX.TabB (hidT s₁.heap H) mg p.1 p.2 := fun p hp => by
      have atP := tb p hp
      have noG : mainGlobals ≠ p.2 := fun z => by
        obtain ⟨o, es, ep, e, dz, _⟩ := gl
        rw [z, atP] at e
        cases e
        exact nomatch (show Data.fields #[] = Data.dict es ep from dz)
      refine ⟨?_, ?_, noG⟩
      · obtain ⟨o, us, f1, t1, f2, t2, f3, f4, t4, e, r1, r2, r3, rest⟩ := cdh p hp
        refine ⟨o, us, f1, t1, f2, t2, f3, f4, t4, toB e (plain e (fun _ _ q => nomatch r2.symm.trans q) fun q => ?_), r1, r2, r3, rest⟩
        have z : us = #[] := by
          have y := r2.symm.trans q
          injection y
        subst z
        exact nomatch r3
      · obtain ⟨bm, ob, b1, b2, b3, b4, b5, b6⟩ := bmn
        refine ⟨bm, ob, b1, b2, fun z => ?_, fun z => ?_, toB b3 (plain b3 (fun _ _ q => nomatch b6.symm.trans q) fun q => nomatch b6.symm.trans q), b4, b5, b6⟩
        · obtain ⟨o, es, ep, e, dz, _⟩ := gl
          rw [← z, b3] at e
          cases e
          exact nomatch (show Data.plain = Data.dict es ep from b6.symm.trans dz)
        · rw [z, atP] at b3
          cases b3
          cases b6
    have E0' : Env0 P w K mg (hidT s₁.heap H) callerA [] s₁ H := ⟨rfl, M, fun b o z => of_hidT z, Nat.le_of_eq (hidT_size _ _), trivial, fun b z => absurd (show b ∈ ([] : List Addr) from z) (by simp), ok, .of_eq gn⟩
    refine codeAny_mono ((F _ kinB (toNs gl) TB).run callerA [] s₁ H ⟨[.ref a], []⟩ [.ref a] [.ref a] _ _ hr E0' (bnd s₁ (.ref a)) (.cons rfl .nil) (pr H onH sc)) fun r s' z => ?_
    cases r with
    | error y => exact (no H y s' z).elim
    | ok fl =>
    cases fl with
    | next => exact z.elim
    | brk => exact z.elim
    | cont => exact z.elim
    | ret u =>
      obtain ⟨v, H', os, bare, un, ok', rv, q⟩ := z
      obtain rfl : v = .bl true := q
      obtain rfl : u = Value.bool true := rv
      have grow : ∀ {b : Addr}, b ∈ cs.map (·.2) → ∃ more : Array Value, s'.heap.get? b = some { cls := .none, data := .fields more } := fun {b} hb => by
        obtain ⟨p, hp, rfl⟩ := List.mem_map.mp hb
        obtain ⟨more, z⟩ := un.tbls p.2 #[] (onH p hp)
        exact ⟨_, ok' p.2 _ z⟩
      have stay : ∀ {b : Addr} {o : Obj}, b ∉ cs.map (·.2) → s₁.heap.get? b = some o → s'.heap.get? b = some o := fun {b o} hb z => by
        cases q : H b with
        | none => exact un.keep b o z q (fun y => absurd (show b ∈ ([] : List Addr) from y) (by simp)) (by simp)
        | some u =>
          rcases what b u q with ⟨hb2, _⟩ | ⟨rfl, _, rfl⟩
          · exact absurd hb2 hb
          · obtain ⟨e2, _⟩ := ok' b _ (un.frzs b _ _ q)
            rw [hs] at z
            cases z
            exact e2
      refine ⟨rfl, ⟨fun b o z => ?_, fun b o z => ?_⟩, os, bare⟩
      · by_cases hb : b ∈ cs.map (·.2)
        · obtain ⟨p, hp, rfl⟩ := List.mem_map.mp hb
          obtain ⟨more, y⟩ := grow hb
          rw [tb p hp] at z
          cases z
          exact .inr (.inl ⟨((cdh p hp).tab (tb p hp)).isCodeTable, rfl, #[], more, rfl, by rw [Array.empty_append]; exact y⟩)
        · exact .inl (stay hb z)
      · by_cases hb : b ∈ cs.map (·.2)
        · exact (grow hb).elim fun more y => ⟨_, y⟩
        · exact ⟨o, stay hb z⟩
  by_cases kc : K.lookup a = none
  · refine main (fun b => if b = a then some (.frz { cls := .type "list", data := .seq vs.toArray } (.lst (ns.map V.int))) else if b ∈ cs.map (·.2) then some (.tbl #[]) else none) (fun b u z => ?_) (fun p hp => ?_) (.inl ⟨_, if_pos rfl⟩)
    · by_cases e : b = a
      · have y := (if_pos e).symm.trans z
        exact .inr ⟨e, kc, (Option.some.inj y).symm⟩
      · have y := (if_neg e).symm.trans z
        by_cases e2 : b ∈ cs.map (·.2)
        · rw [if_pos e2] at y
          exact .inl ⟨e2, (Option.some.inj y).symm⟩
        · rw [if_neg e2] at y
          cases y
    · exact (if_neg fun z : p.2 = a => offT (by rw [← z]; exact inT p hp)).trans (if_pos (inT p hp))
  · obtain ⟨o, ko⟩ := Option.ne_none_iff_exists'.mp kc
    have z := kin a o ko
    rw [hs] at z
    cases z
    refine main (fun b => if b ∈ cs.map (·.2) then some (.tbl #[]) else none) (fun b u z => ?_) (fun p hp => if_pos (inT p hp)) (.inr ⟨vs, ko, by rw [lenV]; exact hl, vals_ints hi⟩)
    by_cases e2 : b ∈ cs.map (·.2)
    · rw [if_pos e2] at z
      exact .inl ⟨e2, (Option.some.inj z).symm⟩
    · rw [if_neg e2] at z
      cases z
/-- the walk's end over a head by facts, with tables -/
theorem walkT {l : PySem.W.OpenLaw} {n k : Nat} {q : Program} {loose : List Str} {XP : (Str → Option Value) → Heap → Prop} {YP : World → Heap → Prop} {d : DefRec} {CX : World → CXT} {x : Str} (most : l.most = some n) (fits : n ≤ sizeLine) (nod : d.params.defaults = []) (hr : Room k callerA)
    (F : ∀ (w : World) (mg : Str → Option Value) (fa : Addr) (h : Heap), YP w h → h.Ns mainGlobals mg → mg d.name = some (.ref fa) →
      ∃ (K : PySem.W.Frag) (fd : FuncData) (cs : List (Addr × Addr)) (sp : Sp), K.In h ∧ (∀ p ∈ cs, h.get? p.2 = some tabNil) ∧ (∀ p ∈ cs, K.lookup p.2 = none) ∧ (∀ p ∈ cs, PySem.W.CodeHd h p.1 p.2) ∧ (∀ (s : Shared) (u : Value), BindsTo s fd ⟨[u], []⟩ [(x, u)]) ∧
        (∀ (H : Hp) (a : Addr) (ns : List Int), ns.length ≤ n → (∀ p ∈ cs, H p.2 = some (.tbl #[])) → ScrL K H a (ns.map V.int) → sp [.ref a] H (fun v _ => v = .bl true) fun _ _ _ => False) ∧
        ∀ base : Heap, K.In base → base.Ns mainGlobals mg → (∀ p ∈ cs, LamX.TabB base mg p.1 p.2) → FnOk l.prog w K mg base (CX w) k fa fd [x] sp)
    (no : ∀ (w : World) (H : Hp) (s : Shared) (e : Value) (s' : Shared), CX w [] H s (fun _ _ _ => False) e s' → False) : PySem.W.WalkO q loose XP YP l.row.toRowW d [] (fun f vs => PySem.call f vs) := by
  refine Att.attach_call most nod fun w s₀ s₁ mg mb fa o pm cd doc a vs ns G Y ho hd hcd hmg hobj hints hlen hg => ?_
  obtain ⟨K, fd, cs, sp, kin, tb, nk, cdh, bnd, pr, fok⟩ := F w mg fa _ Y G.T.g hmg
  exact lawT kin G.T.g G.T.b G.T.builtins G.T.nolimit hg tb nk cdh G.T.bmain hobj hints (Nat.le_trans hlen fits) hr fok bnd (fun H t s => pr H a ns hlen t s) fun H e s' => no w H s₁ e s'
end L2
/-! the law -/
namespace K53
open PySem PySem.Spec PyProof.Rows L2
theorem tabs_but {T : List (Addr × Str)} {H H' : Hp} {a : Addr} (s : But a H H') (S : IsSrc H a) (t : LamX.Tabs T H) : LamX.Tabs T H' := fun p hp => by
  obtain ⟨ps, h1, h2, h3⟩ := t p hp
  refine ⟨ps, s _ _ h1 (S.ne h1 fun _ _ _ z => nomatch z), h2, fun pos cv hc => ?_⟩
  obtain ⟨c, e1, e2⟩ := h3 pos cv hc
  exact ⟨c, e1, s _ _ e2 (S.ne e2 fun _ _ _ z => nomatch z)⟩
section
variable {K : PySem.W.Frag}
theorem Src.ext {H H' : Hp} {a c : Addr} {ns : List Int} {m : Int} (S : Src K H a c ns m) (s : LamX.ExtN H H') : Src K H' a c ns m := by
  obtain ⟨⟨n, r, e, q⟩, cs, few⟩ := S
  refine ⟨⟨n, r, s _ _ e (fun _ z => nomatch z), q⟩, ?_, few⟩
  rcases cs with ⟨o, h⟩ | h
  · exact .inl ⟨o, s _ _ h fun _ z => nomatch z⟩
  · exact .inr h
end
/-! ### wrong rows -/
theorem wrongAt_bad {b : Dt} (hb : rowD b = false) (ys : List Dt) : ∀ {xs : List Dt} {seen : List (Str × Str)} {i : Nat}, wrongAt seen i xs = none → wrongAt seen i (xs ++ b :: ys) = some (i + xs.length)
  | [], seen, i, _ => by
    show wrongAt seen i (b :: ys) = some i
    unfold wrongAt
    rw [if_pos hb]
    split <;> rfl
  | x :: xs, seen, i, h => by
    show wrongAt seen i (x :: (xs ++ b :: ys)) = _
    unfold wrongAt at h ⊢
    split at h
    · cases h
    · rename_i n1
      split at h
      · cases h
      · rename_i n2
        split at h
        · cases h
        · rename_i n3
          rw [if_neg n1, if_neg n2, if_neg n3, wrongAt_bad hb ys h]
          simp only [List.length_cons]
          congr 1
          omega
theorem wrongAt_take : ∀ {xs : List Dt} {seen : List (Str × Str)} {i : Nat} (k : Nat), wrongAt seen i xs = none → wrongAt seen i (xs.take k) = none
  | [], _, _, k, _ => by rw [List.take_nil]; rfl
  | x :: xs, seen, i, 0, _ => rfl
  | x :: xs, seen, i, k + 1, h => by
    show wrongAt seen i (x :: xs.take k) = none
    unfold wrongAt at h ⊢
    split at h
    · cases h
    · rename_i n1
      split at h
      · cases h
      · rename_i n2
        split at h
        · cases h
        · rename_i n3
          rw [if_neg n1, if_neg n2, if_neg n3]
          exact wrongAt_take k h
theorem wrongAt_twice {r : Dt} : ∀ {xs : List Dt} {seen : List (Str × Str)} {i : Nat}, wrongAt seen i xs = none → (keyD r ∈ seen ∨ ∃ y ∈ xs, keyD y = keyD r) → wrongAt seen i (xs ++ [r]) = some (i + xs.length)
  | [], seen, i, _, h => by
    have h : keyD r ∈ seen := h.elim id fun ⟨y, hy, _⟩ => nomatch hy
    show wrongAt seen i [r] = some i
    unfold wrongAt
    rw [if_pos h]
    split
    · rfl
    · split <;> rfl
  | x :: xs, seen, i, h, hk => by
    show wrongAt seen i (x :: (xs ++ [r])) = _
    unfold wrongAt at h ⊢
    split at h
    · cases h
    · rename_i n1
      split at h
      · cases h
      · rename_i n2
        split at h
        · cases h
        · rename_i n3
          rw [if_neg n1, if_neg n2, if_neg n3, wrongAt_twice h ?_]
          · simp only [List.length_cons]
            congr 1
            omega
          · rcases hk with hk | ⟨y, hy, e⟩
            · exact .inl (List.mem_cons_of_mem _ hk)
            · rcases List.mem_cons.mp hy with rfl | hy
              · exact .inl (by rw [e]; exact List.mem_cons_self)
              · exact .inr ⟨y, hy, e⟩
theorem cut_to (xs : List V) (j : Nat) (h : j ≤ xs.length) : cutV xs none (some (j : Int)) = xs.take j := by
  unfold cutV
  rw [HT.sIx_none, HT.sIx_nat, List.drop_zero, Nat.min_eq_left h, Nat.sub_zero]
theorem cut_from (xs : List V) (j : Nat) (h : j ≤ xs.length) : cutV xs (some (j : Int)) none = xs.drop j := by
  unfold cutV
  rw [HT.sIx_none, HT.sIx_nat, Nat.min_eq_left h]
  exact List.take_of_length_le (by rw [List.length_drop]; exact Nat.le_refl _)
/-! ### thirty-one rows -/
def wName (i : Nat) : Str := "w" ++ PySem.Str.ofString (toString (0 + (i : Int)))
def fullRow (i : Nat) : Dt := .tup [.str "first", .str (wName i), .int 1, .tup []]
def fulls : List Dt := (List.range 31).map fullRow
theorem full_ok : ∀ i : Nat, i < 31 → ("w" : Str).length + (PySem.Str.ofString (toString (0 + (i : Int)))).length ≤ 1000 ∧ (wName i).length ≤ 1000 := by decide +kernel
theorem full_30 : wrongAt [] 0 (fulls.take 30) = none := by decide +kernel
theorem full_31 : wrongAt [] 0 fulls = some 30 := by decide +kernel
theorem full_7 : wrongAt [] 0 (.int 7 :: fulls) = some 0 := by decide +kernel
theorem full_at {i : Nat} {d : Dt} (h : fulls[i]? = some d) : i < 31 ∧ d = fullRow i := by
  unfold fulls at h
  rw [List.getElem?_map] at h
  obtain ⟨j, ej, rfl⟩ := Option.map_eq_some_iff.mp h
  obtain ⟨hj, e⟩ := List.getElem?_eq_some_iff.mp ej
  rw [List.length_range] at hj
  rw [List.getElem_range] at e
  exact ⟨hj, by rw [e]⟩
theorem full_rows : ∀ r ∈ fulls, okRow r = true := by decide +kernel
section
variable {P : Program} {w : World} {K : PySem.W.Frag} {mg : Str → Option Value} {base : Heap}
abbrev s_law : Stmt := (top 71)
def N_law : List Str := ["cells", "m", "turn", "rows", "at", "wrong", "late", "full", "odd", "k"]
theorem sc_law : FnScope N_law ["cells"] (defScope s_law) := ⟨rfl, rfl, rfl, by decide +kernel, rfl, by decide +kernel, by decide +kernel⟩
def titles : List Str := ["a", "own", "sender", "about", "r", "xxxxxxxxxxxxxxxxxxxx"]
theorem titles_ok : ∀ x ∈ titles, wordS x = true ∧ x.length ≤ 1000 := by decide +kernel
def spLaw (K : PySem.W.Frag) : Sp := fun vs H Q _ => ∃ (c : Addr) (ns : List Int), vs = [.ref c] ∧ ScrL K H c (ns.map V.int) ∧ ns.length ≤ 63 ∧ LamX.Tabs (tabs K) H ∧ ∀ H', Q (.bl true) H'
theorem ok_law (F : Has K mg "law" s_law) (T : Txt K mg) (HF : Has K mg "_law_field" s_law_field) (TI : Err K mg "BadScript" "index") (TS : Err K mg "BadSetting" "setting") (M : ErrF K) (LF : LamF K mg base "law" qLaw)
    (F_law_begun : FnQ P w K mg base CX0 1 "_law_begun" ["cells"] (spBegun K)) (F_law_next : FnQ P w K mg base CX0 1 "_law_next" ["m", "total"] (spNext K)) (F_law_of : FnQ P w K mg base CX0 2 "_law_of" ["m", "items"] (spOf K)) (F_law_good_rows : FnQ P w K mg base CX0 14 "_law_good_rows" ["m", "titles"] (spRows K))
    (F_law_right : FnQ P w K mg base CX0 13 "_law_right" ["m", "rows"] (spRight K)) (F_law_wrong_deed : FnQ P w K mg base CX0 16 "_law_wrong_deed" ["m"] (spBadDeed K)) (F_law_wrong_row : FnQ P w K mg base CX0 17 "_law_wrong_row" ["m", "row"] (spBadRow K)) (F_law_refused : FnQ P w K mg base CX0 15 "_law_refused" ["m", "told", "due"] (spRefused K))
    (F_is_deed : FnQ P w K mg base CX0 6 "is_deed" ["value"] (spChk K deedD)) (F_is_script : FnQ P w K mg base CX0 10 "is_script" ["value"] (spChk K scriptD)) (F_wrong_row : FnQ P w K mg base (L2.CX P w) 9 "wrong_row" ["script"] (spWrong K)) (F_words_of : FnQ P w K mg base (L2.CX P w) 11 "words_of" ["script"] (spWordsOf K)) :
    FnQ P w K mg base CX0 18 "law" ["cells"] (spLaw K) := by
  refine F.qc sc_law (fun _ _ _ _ _ _ us hl => match us, hl with | [_], _ => rfl) (fun vs H Q E h => by obtain ⟨_, _, rfl, _⟩ := h; rfl) (fun A outer s H vs Q E hr h => ?_)
  obtain ⟨c, ns, rfl, hc, few, tb, k⟩ := h
  have gL : mg "len" = none := T.fr _ (by simp [frees])
  refine ⟨_, PSs.nox (pss_cons (ps_set (i := 1) sc_law.nd rfl (by first | exact .inl rfl | exact .inr rfl) (pe_f F_law_begun hr pass0 (pa_cons (pv 0) pa_nil)))
  (pss_cons (ps_for PassesOwn.never rfl (pi_range1 (by rfl) (T.fr "range" (by simp [frees])) (pa_cons (pe_op op_add pe_int (pe_callB (call_min2 rfl) (by rfl) (T.fr "min" (by simp [frees])) boot_min (pa_cons pe_int (pa_cons (pe_callB call_len_seq (by rfl) gL boot_len (pa_cons (pv 0) pa_nil)) pa_nil)))) pa_nil)) (pg_name (i := 2) sc_law.nd rfl (by first | exact .inl rfl | exact .inr rfl))
  (pss_cons (ps_set (i := 3) sc_law.nd rfl (by first | exact .inl rfl | exact .inr rfl) (pe_f F_law_good_rows hr pass0 (pa_cons (pv 1) (pa_cons (pe_lstM (pa_cons pe_str (pa_cons pe_str (pa_cons pe_str (pa_cons pe_str (pa_cons pe_str (pa_cons (pe_op op_repS pe_str pe_int) pa_nil))))))) pa_nil))))
  (pss_cons (ps_if (pw_or (pt_not (pt_val (pe_f F_law_right hr pass0 (pa_cons (pv 1) (pa_cons (pv 3) pa_nil))))) (pw_or1 (pt_val (pe_f F_is_deed hr pass0 (pa_cons (pe_f F_law_wrong_deed hr pass0 (pa_cons (pv 1) pa_nil)) pa_nil))))).pt
  (pss_one (ps_ret pe_bl))
  pss_nil)
  (pss_one (ps_if (pt_cmpR (op_neNil hr.units) (pv 3) (pe_lstM pa_nil) (by first | exact nomark _ | rfl))
  (pss_cons (ps_set (i := 4) sc_law.nd rfl (by first | exact .inl rfl | exact .inr rfl) (pe_f F_law_next hr pass0 (pa_cons (pv 1) (pa_cons (pe_callB call_len_seq (by rfl) gL boot_len (pa_cons (pv 3) pa_nil)) pa_nil))))
  (pss_cons (ps_set (i := 5) sc_law.nd rfl (by first | exact .inl rfl | exact .inr rfl) (pe_op op_cat (pe_op op_cat (pe_slice sl_list (pv 3) po_none (po_some (pv 4))) (pe_lstM (pa_cons (pe_f F_law_wrong_row hr pass0 (pa_cons (pv 1) (pa_cons (pe_ix ix_list (pv 3) (pv 4) (fun _ _ => rfl)) pa_nil))) pa_nil))) (pe_slice sl_list (pv 3) (po_some (pe_op op_add (pv 4) pe_int)) po_none)))
  (pss_cons (ps_set (i := 6) sc_law.nd rfl (by first | exact .inl rfl | exact .inr rfl) (pe_op op_cat (pv 3) (pe_lstM (pa_cons (pe_ix ix_list (pv 3) (pv 4) (fun _ _ => rfl)) pa_nil))))
  (pss_one (ps_if (pw_or (pt_not (pt_val (pe_f F_law_refused hr pass0 (pa_cons (pv 1) (pa_cons (pe_callTy call_tuple_of (by rfl) (T.fr "tuple" (by simp [frees])) PyProof.Rows.boot_tuple (pa_cons (pv 5) pa_nil)) (pa_cons (pv 4) pa_nil)))))) (pw_or1 (pt_not (pt_val (pe_f F_law_refused hr pass0 (pa_cons (pv 1) (pa_cons (pe_callTy call_tuple_of (by rfl) (T.fr "tuple" (by simp [frees])) PyProof.Rows.boot_tuple (pa_cons (pv 6) pa_nil)) (pa_cons (pe_callB call_len_seq (by rfl) gL boot_len (pa_cons (pv 3) pa_nil)) pa_nil)))))))).pt
  (pss_one (ps_ret pe_bl))
  pss_nil)))))
  pss_nil)))))
  (pss_cons (ps_setLc (i := 7) (own := [("k", 9)]) (tt := tYes) rfl sc_law.nd rfl rfl (sw_true rfl rfl rfl (by decide +kernel)) (pi_range1 (by rfl) (T.fr "range" (by simp [frees])) (pa_cons pe_int pa_nil)) (blkOk_by (N := N_law) (sc := defScope s_law) (by decide +kernel)) (fun _ _ _ _ _ => (pg_name (i := 9) sc_law.nd rfl (by first | exact .inl rfl | exact .inr rfl))) (fun _ _ _ _ _ => pts_nil) (fun _ _ _ _ _ => (pe_tupM (pa_cons pe_str (pa_cons (pe_op op_add_str pe_str (pe_callTy call_str_int (by rfl) (T.fr "str" (by simp [frees])) PyProof.Rows.boot_str (pa_cons (pv 9) pa_nil))) (pa_cons pe_int (pa_cons (pe_tupM pa_nil) pa_nil)))))))
  (pss_cons (ps_if (pw_or (pt_not (pt_val (pe_f F_law_right hr pass0 (pa_cons (pv 1) (pa_cons (pe_slice sl_list (pv 7) po_none (po_some pe_int)) pa_nil))))) (pw_or1 (pt_not (pt_val (pe_f F_law_refused hr pass0 (pa_cons (pv 1) (pa_cons (pe_callTy call_tuple_of (by rfl) (T.fr "tuple" (by simp [frees])) PyProof.Rows.boot_tuple (pa_cons (pv 7) pa_nil)) (pa_cons pe_int pa_nil)))))))).pt
  (pss_one (ps_ret pe_bl))
  pss_nil)
  (pss_cons (ps_if (pt_not (pt_val (pe_f F_law_refused hr pass0 (pa_cons (pv 1) (pa_cons (pe_op op_catA (pe_tupM (pa_cons pe_int pa_nil)) (pe_callTy call_tuple_of (by rfl) (T.fr "tuple" (by simp [frees])) PyProof.Rows.boot_tuple (pa_cons (pv 7) pa_nil))) (pa_cons pe_int pa_nil))))))
  (pss_one (ps_ret pe_bl))
  pss_nil)
  (pss_cons (ps_set (i := 8) sc_law.nd rfl (by first | exact .inl rfl | exact .inr rfl) (pe_f F_law_of hr pass0 (pa_cons (pv 1) (pa_cons (pe_lstM (pa_cons pe_non (pa_cons (pe_lstM pa_nil) (pa_cons pe_str (pa_cons pe_int (pa_cons pe_dnewM pa_nil)))))) pa_nil))))
  (pss_cons (ps_if (pw_or (pt_val (pe_f F_is_script hr pass0 (pa_cons (pv 8) pa_nil))) (pw_or1 (pt_cmpR (op_neD hr.units) (pe_field (X := (cxOf CX0 P w K mg base N_law "law" (defScope s_law) (He.ga K "law") (He.codeOf K "law") A outer s H E).nox) (k := 12) (Tt := tabs K) HF T TI TS M LF.tb LF.cd LF.mem LF.one (hr.mono (by decide)) (fun A outer s H E f c' hr2 => pe_f F_wrong_row hr2 passLam (pa_cons (pv 8) pa_nil)) (LamX.lamS_by (sc := defScope s_law) (by decide +kernel))) (pe_lstM (pa_cons pe_non (pa_cons pe_bl pa_nil))) (by first | exact nomark _ | rfl)))).pt
  (pss_one (ps_ret pe_bl))
  pss_nil)
  (pss_cons (ps_if (pt_cmpR (op_neD hr.units) (pe_field (X := (cxOf CX0 P w K mg base N_law "law" (defScope s_law) (He.ga K "law") (He.codeOf K "law") A outer s H E).nox) (k := 12) (Tt := tabs K) HF T TI TS M LF.tb LF.cd LF.mem LF.one (hr.mono (by decide)) (fun A outer s H E f c' hr2 => pe_f F_words_of hr2 passLam (pa_cons (pv 8) pa_nil)) (LamX.lamS_by (sc := defScope s_law) (by decide +kernel))) (pe_lstM (pa_cons pe_non (pa_cons pe_bl pa_nil))) (by first | exact nomark _ | rfl))
  (pss_one (ps_ret pe_bl))
  pss_nil)
  (pss_one (ps_ret (pe_and (pe_cmpR (op_eqD hr.units) (pe_tupM (pa_cons (C8.pe_gc (by rfl) T.c_MOST_ROWS) (pa_cons (C8.pe_gc (by rfl) T.c_MOST_DEEDS) (pa_cons (C8.pe_gc (by rfl) T.c_MOST_WAITING) pa_nil)))) (pe_tupM (pa_cons pe_int (pa_cons pe_int (pa_cons pe_int pa_nil)))) (by first | exact nomark _ | rfl)) (pe_and (pe_f F_is_script hr pass0 (pa_cons (pe_tupM pa_nil) pa_nil)) (pe_one (pe_cmpR (op_eqD hr.units) (pe_f F_words_of hr passNo (pa_cons (pe_tupM pa_nil) pa_nil)) (pe_tupM pa_nil) (by first | exact nomark _ | rfl))))))))))))))), ?_⟩
  refine ⟨_, rfl, c, ns, rfl, hc, few, fun a H1 s1 S1 _ => ?_⟩
  have tb1 := tb.ext s1
  have c1 : SqL K H1 c (ns.map V.int) := S1.cs.seq
  have nn : (3 + (if ((ns.map V.int).length : Int) < 7 then ((ns.map V.int).length : Int) else 7)) = ((3 + min 7 ns.length : Nat) : Int) := by
    rw [List.length_map]
    split <;> omega
  refine ⟨_, rfl, c, _, rfl, .inl c1, _, _, rfl, _, _, rfl, rfl, ((3 + min 7 ns.length : Nat) : Int), congrArg (fun z => [V.int z]) nn, by omega, by omega, for_range (n := 3 + min 7 ns.length) (fun i σ G => (∃ v2 v3 v4 v5 v6, σ = [some (.ref c), some (.ref a), v2, v3, v4, v5, v6, none, none, none]) ∧ Src K G a c ns (2000 * i) ∧ LamX.Tabs (tabs K) G) ⟨⟨none, none, none, none, none, rfl⟩, S1.more (by omega), tb1⟩ ?_ ?_⟩
  · rintro i σ G hi ⟨⟨v2, v3, v4, v5, v6, rfl⟩, S, tb⟩
    have i10 : i < 10 := by omega
    refine ⟨_, rfl, _, _, rfl, rfl, mul20.1, (by show 6 ≤ sizeLine; decide), fun tl G1 s1 n1 l1 => ?_⟩
    rw [mul20.2] at l1
    have T1 := S.same s1
    refine ⟨a, c, tl, ns, 2000 * i, titles, rfl, T1, by omega, l1, T1.is.ne l1 (fun _ _ _ z => nomatch z), by decide, by decide, titles_ok, fun l xs ds G2 _ hl ha le6 ok good S2 b2 => ?_⟩
    have tb2 := tabs_but b2 T1.is (tb.ext s1)
    refine ⟨_, rfl, _, rfl, _, l, xs, ds, rfl, hl, ha, ok, (fun r hr => (good r hr).1), fun G3 s3 => ⟨_, rfl, if_no rfl ?_⟩⟩
    have S3 := S2.same s3
    refine ⟨_, rfl, a, c, ns, _, rfl, S3, by omega, fun v d G4 hd bad S4 b4 => ⟨v, d, rfl, hd, fun G5 s5 => ⟨_, rfl, if_no bad ?_⟩⟩⟩
    have hl5 : G5 l = some (.lst xs) := s5 _ _ (b4 _ _ (s3 _ _ hl) (S3.is.ne (s3 _ _ hl) fun _ _ _ z => nomatch z))
    have ha5 := (DdAll_but b4 S3.is (ha.same s3)).same s5
    have S5 := S4.same s5
    have tb5 := (tabs_but b4 S3.is (tb2.ext s3)).ext s5
    refine ⟨_, rfl, (by show 0 ≤ sizeLine; decide), fun q0 G6 s6 _ e6 => ⟨l, q0, xs, rfl, rfl, s6 _ _ hl5, e6, _, rfl, ?_⟩⟩
    have S6 := S5.same s6
    have tb6 := tb5.ext s6
    have hl6 := s6 _ _ hl5
    have ha6 := ha5.same s6
    have lx : xs.length = ds.length := ha6.len
    by_cases e0 : xs = []
    · refine if_no (by rw [e0]; rfl) ⟨⟨_, _, _, _, _, rfl⟩, S6.more (by omega), tb6⟩
    · have lp : 0 < xs.length := List.length_pos_iff.mpr e0
      refine if_yes (by cases xs with | nil => exact absurd rfl e0 | cons _ _ => rfl) ?_
      refine ⟨_, rfl, _, rfl, l, xs, rfl, .inl (SqL.of hl6), a, c, ns, _, (xs.length : Int), rfl, S6, by omega, by omega, by omega, fun at_ G7 lat S7 b7 => ?_⟩
      have hl7 := b7 _ _ hl6 (S6.is.ne hl6 fun _ _ _ z => nomatch z)
      have ha7 := DdAll_but b7 S6.is ha6
      have tb7 := tabs_but b7 S6.is tb6
      have la : at_ < xs.length := by omega
      have ld : at_ < ds.length := by omega
      have cut1 : cutV xs none (some (at_ : Int)) = xs.take at_ := cut_to xs at_ (by omega)
      have cut2 : cutV xs (some ((at_ : Int) + 1)) none = xs.drop (at_ + 1) := cut_from xs (at_ + 1) (by omega)
      -- the row at at
      have ex : xs[at_]? = some xs[at_] := List.getElem?_eq_getElem la
      obtain ⟨r, er, hr0⟩ := ha7.get ex
      have rr := (good r (List.mem_of_getElem? er)).2.1
      obtain ⟨md, wd, wk, es, rfl, e8⟩ : ∃ md wd wk es, r = .tup [.str md, .str wd, .int wk, .tup es] ∧ es.length ≤ 8 := by
        obtain ⟨md, wd, k4, d4, rfl, _, _⟩ := row_form rr
        simp only [rowD, Bool.and_eq_true] at rr
        obtain ⟨⟨_, r3⟩, r4⟩ := rr
        cases k4 with
        | int wk => cases d4 with
          | tup es =>
            simp only [deedsD, Bool.and_eq_true, decide_eq_true_eq] at r4
            exact ⟨md, wd, wk, es, rfl, r4.1⟩
          | _ => cases r4
        | _ => cases r3
      -- wrong
      refine ⟨_, rfl, _, rfl, at_, rfl, l, xs, rfl, SqL.of hl7, fun p1 np1 => ?_⟩
      rw [cut1]
      have s8 : Same G7 (upd G7 p1 (.lst (xs.take at_))) := Same.new np1
      have e8a : (upd G7 p1 (.lst (xs.take at_))) p1 = some (.lst (xs.take at_)) := upd_same
      generalize upd G7 p1 (.lst (xs.take at_)) = G8 at s8 e8a ⊢
      have S8 := S7.same s8
      have hl8 := s8 _ _ hl7
      refine ⟨_, rfl, _, rfl, _, rfl, l, _, _, _, rfl, rfl, SqL.of hl8, atI_nat ex, a, c, ns, _, _, md, wd, wk, es, rfl, S8, by omega, hr0.same s8, e8, fun bv bd G9 hbd bad S9 b9 => ?_⟩
      refine ⟨(by show 1 ≤ sizeLine; decide), fun p2 G10 s10 _ e10 => ?_⟩
      have bs : But a G8 G10 := b9.same s10
      have e10a := bs _ _ e8a (S8.is.ne e8a fun _ _ _ z => nomatch z)
      refine cat_new e10a e10 (Nat.le_trans (show (xs.take at_).length + 1 ≤ 7 by rw [List.length_take]; omega) (by decide)) fun p3 G11 s11 e11 => ?_
      have hl11 := s11 _ _ (bs _ _ hl8 (S8.is.ne hl8 fun _ _ _ z => nomatch z))
      refine ⟨_, rfl, _, rfl, _, _, rfl, rfl, (at_ : Int) + 1, rfl, l, xs, rfl, SqL.of hl11, fun p4 np4 => ?_⟩
      rw [cut2]
      have s12 : Same G11 (upd G11 p4 (.lst (xs.drop (at_ + 1)))) := Same.new np4
      have e12 : (upd G11 p4 (.lst (xs.drop (at_ + 1)))) p4 = some (.lst (xs.drop (at_ + 1))) := upd_same
      generalize upd G11 p4 (.lst (xs.drop (at_ + 1))) = G12 at s12 e12 ⊢
      refine cat_new (s12 _ _ e11) e12 (Nat.le_trans (show (xs.take at_ ++ [bv]).length + (xs.drop (at_ + 1)).length ≤ 7 by simp; omega) (by decide)) fun pw G13 s13 e13 => ?_
      have x1013 : Same G10 G13 := s11.trans (s12.trans s13)
      have S13 := (S9.same s10).same x1013
      have ha13 : DdAll K G13 xs ds := (DdAll_but bs S8.is (ha7.same s8)).same x1013
      have hl13 := s13 _ _ (s12 _ _ hl11)
      have tb13 := (tabs_but bs S8.is (tb7.ext s8)).ext x1013
      have hw13 : DdAll K G13 ((xs.take at_ ++ [bv]) ++ xs.drop (at_ + 1)) ((ds.take at_ ++ [bd]) ++ ds.drop (at_ + 1)) := ((ha13.take at_).app (.cons (hbd.same (s10.trans x1013)) .nil)).app (ha13.drop (at_ + 1))
      have wrong1 : wrongAt [] 0 ((ds.take at_ ++ [bd]) ++ ds.drop (at_ + 1)) = some at_ := by
        have z := wrongAt_bad bad (ds.drop (at_ + 1)) (wrongAt_take at_ ok)
        rw [List.append_assoc, List.singleton_append, z, List.length_take]
        congr 1
        omega
      -- late
      refine ⟨_, rfl, _, rfl, _, rfl, l, _, _, _, rfl, rfl, SqL.of hl13, atI_nat ex, (by show 1 ≤ sizeLine; decide), fun p5 G14 s14 _ e14 => cat_new (s14 _ _ hl13) e14 (Nat.le_trans (show xs.length + 1 ≤ 7 by omega) (by decide)) fun pl G15 s15 e15 => ?_⟩
      have x1315 : Same G13 G15 := s14.trans s15
      have S15 := S13.same x1315
      have tb15 := tb13.ext x1315
      have wrong2 : wrongAt [] 0 (ds ++ [.tup [.str md, .str wd, .int wk, .tup es]]) = some xs.length := by
        have z := wrongAt_twice (r := .tup [.str md, .str wd, .int wk, .tup es]) ok (.inr ⟨_, List.mem_of_getElem? er, rfl⟩)
        rw [z, Nat.zero_add, lx]
      have hlate : DdAll K G15 (xs ++ [xs[at_]]) (ds ++ [.tup [.str md, .str wd, .int wk, .tup es]]) := ((ha13.same x1315)).app (.cons (((Dd_but bs S8.is (hr0.same s8)).same x1013).same x1315) .nil)
      -- refused
      refine ⟨_, rfl, _, rfl, pw, _, rfl, .inl ⟨SqL.of (x1315 _ _ e13), fun t1 nt1 => ?_⟩⟩
      have s16 : Same G15 (upd G15 t1 (.tup ((xs.take at_ ++ [bv]) ++ xs.drop (at_ + 1)))) := Same.new nt1
      have e16 : (upd G15 t1 (.tup ((xs.take at_ ++ [bv]) ++ xs.drop (at_ + 1)))) t1 = some (.tup ((xs.take at_ ++ [bv]) ++ xs.drop (at_ + 1))) := upd_same
      generalize upd G15 t1 (.tup ((xs.take at_ ++ [bv]) ++ xs.drop (at_ + 1))) = G16 at s16 e16 ⊢
      refine ⟨_, rfl, _, .ref t1, _, at_, rfl, .tup (SqT.of e16) ((hw13.same x1315).same s16), wrong1, tb15.ext s16, fun G17 e17 tb17 => ⟨_, rfl, if_no rfl ?_⟩⟩
      have S17 := (S15.same s16).ext e17
      have hl17 : G17 l = some (.lst xs) := e17 _ _ (s16 _ _ (x1315 _ _ hl13)) fun _ z => nomatch z
      have hp17 : G17 pl = some (.lst (xs ++ [xs[at_]])) := e17 _ _ (s16 _ _ e15) fun _ z => nomatch z
      have hlate17 := (hlate.same s16).ext e17
      refine ⟨_, rfl, _, rfl, pl, _, rfl, .inl ⟨SqL.of hp17, fun t2 nt2 => ?_⟩⟩
      have s18 : Same G17 (upd G17 t2 (.tup (xs ++ [xs[at_]]))) := Same.new nt2
      have e18 : (upd G17 t2 (.tup (xs ++ [xs[at_]]))) t2 = some (.tup (xs ++ [xs[at_]])) := upd_same
      generalize upd G17 t2 (.tup (xs ++ [xs[at_]])) = G18 at s18 e18 ⊢
      refine ⟨_, rfl, l, xs, rfl, .inl (SqL.of (s18 _ _ hl17)), _, .ref t2, _, xs.length, rfl, .tup (SqT.of e18) (hlate17.same s18), wrong2, tb17.ext s18, fun G19 e19 tb19 => ⟨_, rfl, if_no rfl ?_⟩⟩
      exact ⟨⟨_, _, _, _, _, rfl⟩, ((S17.same s18).ext e19).more (by omega), tb19⟩
  · rintro σ G ⟨⟨v2, v3, v4, v5, v6, rfl⟩, S, tb⟩
    have lim : (2000 : Int) * (3 + min 7 ns.length : Nat) ≤ 20000 := by omega
    have S := S.more lim
    -- thirty-one rows
    refine ⟨31, rfl, by decide, by decide, comp_any walk_range (P := fun i v G => Dd K G v (fullRow i)) (by show 31 < sizeLine; decide) (fun _ _ => trivial) (fun i G x G' y b o e => ?_) (fun i v G1 G2 g h => h.same g) (fun i v G1 D xs ys _ e h => Dd_butL but_updL e h rfl) (fun i x G1 G2 R hi g1 yy kk => ?_) fun pf G2 w z2 _ h2 len2 val2 => ?_⟩
    · obtain ⟨rfl, rfl⟩ := y
      exact e
    · obtain ⟨rfl, rfl⟩ := yy
      have hi : i < 31 := hi
      have lg : (0 + (i : Int)).natAbs.log2 < 1920 := by
        have e : (0 + (i : Int)).natAbs = i := by omega
        rw [e]
        exact Nat.lt_of_le_of_lt (Nat.log2_le_self _) (by omega)
      refine ⟨rfl, _, rfl, _, rfl, lg, _, _, rfl, rfl, Nat.le_trans (full_ok i hi).1 (by decide), (by show 0 ≤ sizeLine; decide), fun q1 G3 g3 _ e3 => ⟨(by show 4 ≤ sizeLine; decide), fun q2 G4 g4 _ e4 => kk _ G4 (g3.trans g4) ?_⟩⟩
      exact .tup (SqT.of e4) (.cons (.str "first") (.cons (.str _ (full_ok i hi).2) (.cons (.int 1) (.cons (.tup (SqT.of (g4 _ _ e3)) .nil) .nil))))
    have hf2 : DdAll K G2 w fulls := ddAll_of (by rw [len2]; rfl) fun i v d e1 e2 => by
      obtain ⟨_, rfl⟩ := full_at e2
      exact val2 i v e1
    have S2 := S.same z2
    have tb2 := tb.ext z2
    have cut3 : cutV w none (some 30) = w.take 30 := cut_to w 30 (by rw [len2]; decide)
    refine ⟨_, rfl, _, rfl, 30, rfl, pf, w, rfl, SqL.of h2, fun p3 np3 => ?_⟩
    rw [cut3]
    have s3 : Same G2 (upd G2 p3 (.lst (w.take 30))) := Same.new np3
    have e3 : (upd G2 p3 (.lst (w.take 30))) p3 = some (.lst (w.take 30)) := upd_same
    generalize upd G2 p3 (.lst (w.take 30)) = G3 at s3 e3 ⊢
    refine ⟨_, p3, w.take 30, fulls.take 30, rfl, e3, (hf2.same s3).take 30, full_30, (fun r hr => full_rows r (List.mem_of_mem_take hr)), fun G4 s4 => ⟨_, rfl, if_no rfl ?_⟩⟩
    have z4 := s3.trans s4
    refine ⟨_, rfl, _, rfl, pf, w, rfl, .inl ⟨SqL.of (z4 _ _ h2), fun t1 nt1 => ?_⟩⟩
    have s5 : Same G4 (upd G4 t1 (.tup w)) := Same.new nt1
    have e5 : (upd G4 t1 (.tup w)) t1 = some (.tup w) := upd_same
    generalize upd G4 t1 (.tup w) = G5 at s5 e5 ⊢
    have z5 := z4.trans s5
    refine ⟨_, .ref t1, fulls, 30, rfl, .tup (SqT.of e5) (hf2.same z5), full_31, tb2.ext z5, fun G6 e6 tb6 => ⟨_, rfl, if_no rfl ?_⟩⟩
    have S6 := (S2.same z5).ext e6
    have h6 : G6 pf = some (.lst w) := e6 _ _ (z5 _ _ h2) fun _ z => nomatch z
    have hf6 := (hf2.same z5).ext e6
    -- seven in front
    refine ⟨_, rfl, (by show 1 ≤ sizeLine; decide), fun q7 G7 s7 _ e7 => ⟨_, rfl, pf, w, rfl, .inl ⟨SqL.of (s7 _ _ h6), fun t2 nt2 => ?_⟩⟩⟩
    have s8 : Same G7 (upd G7 t2 (.tup w)) := Same.new nt2
    have e8 : (upd G7 t2 (.tup w)) t2 = some (.tup w) := upd_same
    generalize upd G7 t2 (.tup w) = G8 at s8 e8 ⊢
    refine cat_any (SqT.of (s8 _ _ e7)) (SqT.of e8) (Nat.le_trans (show [V.int 7].length + w.length ≤ 32 by rw [len2]; decide) (by decide)) fun o9 G9 s9 e9 => ?_
    have z9 : Same G6 G9 := s7.trans (s8.trans s9)
    refine ⟨_, .ref o9, .int 7 :: fulls, 0, rfl, .tup e9 (.cons (.int 7) (hf6.same z9)), full_7, tb6.ext z9, fun G10 e10 tb10 => ⟨_, rfl, if_no rfl ?_⟩⟩
    have S10 := (S6.same z9).ext e10
    -- what is no tuple
    refine ⟨_, rfl, (by show 0 ≤ sizeLine; decide), fun l1 G11 s11 _ e11 => fun d1 G12 s12 _ e12 => ⟨(by show 5 ≤ sizeLine; decide), fun lo G13 s13 _ e13 => ?_⟩⟩
    have S13 := S10.same (s11.trans (s12.trans s13))
    have tb13 := tb10.ext (s11.trans (s12.trans s13))
    have e11b := s13 _ _ (s12 _ _ e11)
    have e12b := s13 _ _ e12
    refine ⟨a, c, lo, ns, 20000, _, rfl, S13, by omega, e13, S13.is.ne e13 (fun _ _ _ z => nomatch z), (by show 0 < 5; decide), (by show 5 ≤ 1000; decide), fun j v G14 ej S14 b14 => ?_⟩
    have tb14 := tabs_but b14 S13.is tb13
    obtain ⟨d, hd, nt⟩ : ∃ d, Dd K G14 v d ∧ ∀ rows, d ≠ .tup rows := by
      rcases get5 ej with rfl | rfl | rfl | rfl | rfl
      · exact ⟨.non, .non, fun _ z => nomatch z⟩
      · exact ⟨.lst [], .lst (SqL.of (b14 _ _ e11b (S13.is.ne e11b fun _ _ _ z => nomatch z))) .nil, fun _ z => nomatch z⟩
      · exact ⟨.str "x", .str "x", fun _ z => nomatch z⟩
      · exact ⟨.int 5, .int 5, fun _ z => nomatch z⟩
      · exact ⟨.dic, .dic (b14 _ _ e12b (S13.is.ne e12b fun _ _ _ z => by injection z with z; cases z)), fun _ z => nomatch z⟩
    have scr : scriptD d = false := by cases d <;> first | rfl | exact absurd rfl (nt _)
    have due : dueD d = some .non := by cases d <;> first | rfl | exact absurd rfl (nt _)
    have two : (2 : Nat) ≤ sizeLine := by decide
    refine ⟨_, rfl, v, d, rfl, hd, fun G15 s15 => ⟨_, rfl, if_no scr ?_⟩⟩
    have hd15 := hd.same s15
    refine ⟨tb14.ext s15, fun H4 e4 tb4 H5 Q' s5 => ⟨_, rfl, v, d, rfl, (hd15.ext e4).same s5, (fun rows e => absurd e (nt rows)), fun _ e H6 s6 _ hx => .inl ⟨.non, e, rfl, rfl, hx, fun l H7 s7 hl => ?_⟩⟩⟩
    have z7 := s5.trans (s6.trans s7)
    refine ⟨two, fun l2 H8 s8 _ hl2 => ⟨.list [.none, .bool true], .list [.none, .bool true], .lst (SqL.of (s8 _ _ hl)) (.cons .non (.cons (.bl _) .nil)), .lst (SqL.of hl2) (.cons .non (.cons (.bl _) .nil)), by decide +kernel, by decide +kernel, _, rfl, if_no (by decide +kernel) ?_⟩⟩
    have hd8 := (hd15.ext e4).same (z7.trans s8)
    refine ⟨tb4.ext (z7.trans s8), fun H9 e9 tb9 H10 Q' s10 => ⟨_, rfl, v, d, rfl, (hd8.ext e9).same s10, (fun rows ws p H' e _ _ _ _ _ => absurd e (nt rows)), fun u z e H11 s11 _ hx => .inl ⟨u, e, rfl, rfl, hx, fun l H12 s12 hl => ?_⟩⟩⟩
    rw [due] at z
    cases z
    refine ⟨two, fun l2 H13 s13 _ hl2 => ⟨.list [.none, .bool true], .list [.none, .bool true], .lst (SqL.of (s13 _ _ hl)) (.cons .non (.cons (.bl _) .nil)), .lst (SqL.of hl2) (.cons .non (.cons (.bl _) .nil)), by decide +kernel, by decide +kernel, _, rfl, if_no (by decide +kernel) ?_⟩⟩
    -- the bounds
    refine ⟨(by show 3 ≤ sizeLine; decide), fun u1 H14 s14 _ f14 => ⟨(by show 3 ≤ sizeLine; decide), fun u2 H15 s15 _ f15 => ⟨.tuple [.int 30, .int 8, .int 200], .tuple [.int 30, .int 8, .int 200], .tup (SqT.of (s15 _ _ f14)) (.cons (.int _) (.cons (.int _) (.cons (.int _) .nil))), .tup (SqT.of f15) (.cons (.int _) (.cons (.int _) (.cons (.int _) .nil))), by decide +kernel, by decide +kernel, _, rfl, if_yes (by decide +kernel) ?_⟩⟩⟩
    refine ⟨(by show 0 ≤ sizeLine; decide), fun u3 H16 s16 _ f16 => ⟨.ref u3, .tup [], rfl, .tup (SqT.of f16) .nil, fun H17 s17 => ⟨_, rfl, if_yes (by decide +kernel) ?_⟩⟩⟩
    refine ⟨(by show 0 ≤ sizeLine; decide), fun u4 H18 s18 _ f18 => ⟨.ref u4, .tup [], rfl, .tup (SqT.of f18) .nil, (fun rows2 ws p H19 e1 _ W2 s19 _ f19 => ?_), fun u z => by cases z⟩⟩
    cases e1
    have wn : ws = [] := List.eq_nil_iff_forall_not_mem.mpr fun x hx => by
      obtain ⟨r, hr2, _⟩ := (W2.mem x).mp hx
      cases hr2
    subst wn
    exact ⟨(by show 0 ≤ sizeLine; decide), fun u5 H20 s20 _ f20 => ⟨.tuple [], .tuple [], .tup (SqT.of (s20 _ _ f19)) .nil, .tup (SqT.of f20) .nil, by decide +kernel, by decide +kernel, k _⟩⟩
end
end K53
namespace K53
open PySem PySem.Spec PyProof.Rows L2
/-- the address of the empty tuple among WorkerPlan's defaults -/
def dsAt (K : PySem.W.Frag) : Addr := match K.lookup (He.ma K (wkA K) "__init__") with
  | some ⟨_, _, .func fd, _⟩ => (match fd.kwdefaults with
    | .ref D => (match PySem.W.nsIn K D "script" with
      | some (some (.ref a)) => a
      | _ => 0)
    | _ => 0)
  | _ => 0
def dF (x : Str) (i : Nat) : He.DefD := ⟨(x, none), x, x, defArgs (top i), defBody (top i), defScope (top i), [], []⟩
def dI (c : Str) (i : Nat) : He.DefD := ⟨(c, some "__init__"), "__init__", c ++ ".__init__", defArgs (inClass (top i) 0), defBody (inClass (top i) 0), defScope (inClass (top i) 0), [], []⟩
def dW : He.DefD := ⟨("WorkerPlan", some "__init__"), "__init__", "WorkerPlan.__init__", defArgs s_WorkerPlan___init__, defBody s_WorkerPlan___init__, defScope s_WorkerPlan___init__, [], [("restart", .str "permanent"), ("opening", .int 0), ("closing", .int 0), ("deadline", .non), ("refused", .int 0), ("script", .adr dsAt)]⟩
def dS : He.DefD := ⟨("SupervisorPlan", some "__init__"), "__init__", "SupervisorPlan.__init__", defArgs s_SupervisorPlan___init__, defBody s_SupervisorPlan___init__, defScope s_SupervisorPlan___init__, [], [("restart", .str "permanent"), ("strategy", .str "one"), ("most", .int 1), ("span", .int 10), ("deadline", .non)]⟩
def fns1 : List (Str × Nat) := [("is_integer", 10), ("is_between", 11), ("is_one_of", 12), ("is_word", 13), ("is_place_name", 14), ("is_sent_word", 15), ("is_sent_value", 16), ("is_given_reason", 17), ("is_deed", 30), ("_is_item", 31), ("_is_deed_value", 32), ("_has_add", 33), ("_is_row", 34), ("_are_deeds", 35)]
def fns2 : List (Str × Nat) := [("wrong_row", 36), ("is_script", 37), ("_check_script", 38), ("row_for", 39), ("found_row", 40), ("words_of", 41), ("_is_deadline", 54), ("_check_settings", 55), ("_check_children", 56), ("_law_begun", 61), ("_law_next", 62), ("_law_of", 63), ("_law_good_deed", 64), ("_law_good_rows", 65), ("_law_field", 66), ("_law_wrong_deed", 67), ("_law_wrong_row", 68), ("_law_right", 69), ("_law_refused", 70), ("law", 71)]
def fns : List (Str × Nat) := fns1 ++ fns2
def fn : List He.DefD := dW :: dS :: (fns.map (fun p => dF p.1 p.2) ++ [dI "BadSetting" 20, dI "BadScript" 22])
def tupB (K : PySem.W.Frag) (a : Addr) (xs : List V) : Bool := match K.lookup a with
  | some ⟨.type c, _, .seq its _, _⟩ => decide (c = "tuple") && (decide (its.size ≤ 1000) && He.relAll xs its.toList)
  | _ => false
theorem tupB_ok {K : PySem.W.Frag} {a : Addr} {xs : List V} (h : tupB K a xs = true) (H : Hp) : SqT K H a xs := by
  unfold tupB at h
  split at h
  · rename_i c dd its n sl e
    simp only [Bool.and_eq_true, decide_eq_true_eq] at h
    obtain ⟨h1, h2, h3⟩ := h
    subst h1
    exact .inr ⟨_, its, n, e, rfl, rfl, Nat.le_of_lt (small1000 h2), He.relAll_ok h3⟩
  · cases h
def insB (K : PySem.W.Frag) (x : Str) : Bool := (He.Fa.cls x).ok K && (decide (PySem.W.findIn K (.ref (He.ga K x)) "__class__" = some (some (.builtin "object.__class__"))) && (decide (PySem.W.specialIn K (.builtin "object.__class__") "__get__" = some (some (.builtin "getset_descriptor.__get__"))) &&
  (decide (PySem.W.takesIn K (.builtin "object.__class__") = some true) && (decide (PySem.W.mroIn K (He.ga K x) (.type "object") = some true) && decide (PySem.W.kitOne K (.ref (He.ga K x)) (.ref (He.ga K x)) = some true)))))
theorem insB_ok {K : PySem.W.Frag} {x : Str} (h : insB K x = true) : C8.InsC K (He.ga K x) := by
  unfold insB at h
  simp only [Bool.and_eq_true, decide_eq_true_eq] at h
  obtain ⟨h1, h2, h3, h4, h5, h6⟩ := h
  exact ⟨He.cls_ok h1, h2, h3, h4, h5, h6⟩
def errB (K : PySem.W.Frag) (x f : Str) : Bool := (He.Fa.glo x).ok K && (xclB K (He.ga K x) "ValueError.__new__" veB && (decide (PySem.W.findIn K (.ref (He.ga K x)) "__init__" = some (some (.ref (He.ma K (He.ga K x) "__init__")))) && (decide (PySem.W.typeIn K (.ref (He.ma K (He.ga K x) "__init__")) = some (.type "function")) &&
  (decide (PySem.W.findIn K (.ref (He.ga K x)) f = some none) && decide (PySem.W.typeIn K (.ref (He.ga K x)) = some (.type "type"))))))
/-- the deeds' table: its keys, and what lies at each -/
def deedsB (K : PySem.W.Frag) : Bool := deedItems.all fun p => match PySem.W.nsIn K (He.ga K "DEED_ITEMS") p.1 with
  | some (some (.ref a)) => tupB K a (p.2.map V.str)
  | _ => false
def keysB (K : PySem.W.Frag) : Bool := match K.lookup (He.ga K "DEED_ITEMS") with
  | some ⟨_, _, .dict es _, _⟩ => es.toList.all fun e => match e.key with
    | .str x _ => (deedItems.lookup x).isSome
    | _ => false
  | _ => false
def frag1 : List Str := ["AnyWorker", "WorkerPlan", "SupervisorPlan", "PlanError", "BadSetting", "BadChild", "BadScript", "DEED_ITEMS"]
def errFB (K : PySem.W.Frag) : Bool := decide (PySem.W.exmOne K (.ref (He.ga K "BadScript")) (.ref (He.ga K "BadScript")) = some true) && (decide (PySem.W.exmOne K (.ref (He.ga K "BadScript")) (.ref (He.ga K "BadSetting")) = some false) && (decide (PySem.W.exmOne K (.ref (He.ga K "BadSetting")) (.ref (He.ga K "BadScript")) = some false) &&
  (decide (PySem.W.exmOne K (.ref (He.ga K "BadSetting")) (.ref (He.ga K "BadSetting")) = some true) && (decide (PySem.W.kitOne K (.ref (He.ga K "BadScript")) (.ref (He.ga K "BadScript")) = some true) && (decide (PySem.W.kitOne K (.ref (He.ga K "BadSetting")) (.ref (He.ga K "BadScript")) = some false) && decide (PySem.W.kitOne K (.ref (He.ga K "BadScript")) (.ref (He.ga K "PlanError")) = some true))))))
theorem errF_of {K : PySem.W.Frag} (h : errFB K = true) : ErrF K := by
  unfold errFB at h
  simp only [Bool.and_eq_true, decide_eq_true_eq] at h
  obtain ⟨h1, h2, h3, h4, h5, h6, h7⟩ := h
  exact ⟨h1, h2, h3, h4, h5, h6, h7⟩
def fa : List He.Fx := [fun K => (frag1 ++ (cTups.map (·.1) ++ fns.map (·.1))).all fun x => (He.Fa.glo x).ok K, fun K => frees.all fun x => (He.Fa.free x).ok K, fun K => cInts.all fun p => (He.Fa.int p.1 p.2).ok K, fun K => cStrs.all fun p => (He.Fa.str p.1 p.2).ok K,
  fun K => cTups.all fun p => tupB K (He.ga K p.1) (p.2.map V.str), fun K => insB K "WorkerPlan", fun K => insB K "SupervisorPlan", kitD, fun K => wNames.all fun f => (He.Fa.noat "WorkerPlan" f).ok K, fun K => (He.Fa.mkr "WorkerPlan").ok K, fun K => tupB K (dsAt K) [], deedsB, keysB,
  fun K => errB K "BadSetting" "setting", fun K => errB K "BadScript" "index", fun K => sNames.all fun f => (He.Fa.noat "SupervisorPlan" f).ok K, fun K => (He.Fa.mkr "SupervisorPlan").ok K, errFB, fun K => decide (He.tabAd K "_law_refused" ≠ He.tabAd K "law")]
def ts : List He.Tab := [(fun K => He.ga K "DEED_ITEMS", deedItems.map (·.1))]
abbrev R : PySem.W.OpenRow := PySem.W.OpenLaw.row PySem.Challenge.rw_watchtree_k53_scripts_told_apart
def lams : List Str := ["_law_refused", "law"]
abbrev hk : PySem.W.Hook := He.hookL 4 [dsAt] fa fn ts lams
def ob (s : PySem.W.SharedT) : He.AlT × Bool := He.obsL (HandSHeadRun.getT s) 4 [dsAt] fa fn ts lams
theorem ob_eq (s : PySem.W.SharedT) : ob s = hk.obs s.abs := He.obsL_eq (HandSHeadRun.getT_eq s)
def loose1 : List Str := ["AnyWorker", "LARGEST_VALUE", "MOST_SIGNS", "LETTERS", "SIGNS", "DEED_NAMES", "TREE_WORDS", "TREE_REASONS", "is_integer", "is_between", "is_one_of", "is_word", "is_place_name", "is_sent_word", "is_sent_value", "is_given_reason", "PlanError", "BadSetting"]
def loose2 : List Str := ["BadChild", "BadScript", "MOST_ROWS", "MOST_DEEDS", "MOST_WAITING", "MOST_WORK", "MOST_TICKS_LATER", "DEED_ITEMS", "is_deed", "_is_item", "_is_deed_value", "_has_add", "_is_row", "_are_deeds", "wrong_row", "is_script", "_check_script", "row_for"]
def loose3 : List Str := ["found_row", "words_of", "RESTARTS", "STRATEGIES", "MOST_TICKS", "MOST_REFUSED", "MOST_RESTARTS", "MOST_CHILDREN", "MOST_LEVELS", "MOST_PLANS", "WorkerPlan", "SupervisorPlan", "is_plan", "_is_deadline", "_check_settings", "_check_children", "plans_in", "names", "levels_of"]
def loose4 : List Str := ["_law_begun", "_law_next", "_law_of", "_law_good_deed", "_law_good_rows", "_law_field", "_law_wrong_deed", "_law_wrong_row", "_law_right", "_law_refused"]
def loose : List Str := loose1 ++ (loose2 ++ (loose3 ++ (loose4)))
theorem run_f (w : World) : HandSHeadRun.RunEq R (PySem.W.view R.prog [71]) hk ob 20000 loose (w.withFollow "special-get-raises" false) := by
  intro os
  kernel_rfl
theorem run_t (w : World) : HandSHeadRun.RunEq R (PySem.W.view R.prog [71]) hk ob 20000 loose (w.withFollow "special-get-raises" true) := by
  intro os
  kernel_rfl
theorem run (w : World) : HandSHeadRun.RunEq R (PySem.W.view R.prog [71]) hk ob 20000 loose w :=
  PySem.W.byRow2 "special-get-raises" (P := fun w => HandSHeadRun.RunEq R (PySem.W.view R.prog [71]) hk ob 20000 loose w) run_f run_t w
end K53
namespace K53
open PySem PySem.Spec PyProof.Rows L2
section
variable {K : PySem.W.Frag} {h : Heap} {mg : Str → Option Value} {w : World}
theorem glo_at (X : K.In h) (G : h.Ns mainGlobals mg) (c : He.SaysXT fa fn ts w K) {x : Str} (hx : x ∈ frag1 ++ (cTups.map (·.1) ++ fns.map (·.1))) : mg x = some (.ref (He.ga K x)) :=
  He.glo_ok X G (List.all_eq_true.mp (c.x.fact 0) x hx)
theorem clss_in {x : Str} (hx : x ∈ clss) : x ∈ frag1 := by
  simp only [clss, List.mem_cons, List.not_mem_nil, or_false] at hx
  rcases hx with rfl | rfl | rfl | rfl | rfl | rfl | rfl <;> decide +kernel
theorem txt (X : K.In h) (G : h.Ns mainGlobals mg) (c : He.SaysXT fa fn ts w K) : Txt K mg := by
  have z8 : ∀ f ∈ wNames, (He.Fa.noat "WorkerPlan" f).ok K = true := List.all_eq_true.mp (c.x.fact 8)
  refine ⟨fun x hx => He.free_ok X G (List.all_eq_true.mp (c.x.fact 1) x hx), fun p hp => ?_, fun p hp => ?_, fun p hp => ⟨_, glo_at X G c (List.mem_append_right _ (List.mem_append_left _ (List.mem_map_of_mem (f := (·.1)) hp))), rfl⟩, fun p hp H => tupB_ok (List.all_eq_true.mp (c.x.fact 4) p hp) H,
    fun x hx => ⟨_, glo_at X G c (List.mem_append_left _ (clss_in hx)), rfl⟩, ⟨insB_ok (c.x.fact 5), insB_ok (c.x.fact 6), kitD_ok (c.x.fact 7)⟩, He.noat_ok (z8 "script" (by simp))⟩
  · obtain ⟨t, e⟩ := He.int_ok X G (List.all_eq_true.mp (c.x.fact 2) p hp)
    exact ⟨_, e, t, rfl⟩
  · obtain ⟨t, e⟩ := He.str_ok X G (List.all_eq_true.mp (c.x.fact 3) p hp)
    exact ⟨_, e, t, rfl⟩
theorem wk (X : K.In h) (G : h.Ns mainGlobals mg) (c : He.SaysXT fa fn ts w K) : Wk K mg :=
  ⟨glo_at X G c (List.mem_append_left _ (by simp [frag1])), (insB_ok (c.x.fact 5)).cl, fun f hf => He.noat_ok (List.all_eq_true.mp (c.x.fact 8) f hf), He.mkr_ok (c.x.fact 9)⟩
theorem has (X : K.In h) (G : h.Ns mainGlobals mg) (c : He.SaysXT fa fn ts w K) {x : Str} {i : Nat} (hx : (x, i) ∈ fns) : Has K mg x (top i) := by
  have m : dF x i ∈ fn := List.mem_cons_of_mem _ (List.mem_cons_of_mem _ (List.mem_append_left _ (List.mem_map_of_mem (f := fun p : Str × Nat => dF p.1 p.2) hx)))
  obtain ⟨fd, F⟩ := c.x.def_in m
  exact ⟨glo_at X G c (List.mem_append_right _ (List.mem_append_right _ (List.mem_map_of_mem (f := (·.1)) hx))), fd, F⟩
theorem winit (c : He.SaysXT fa fn ts w K) : ∃ fd, FunD K "__init__" "WorkerPlan.__init__" (defArgs s_WorkerPlan___init__) (defBody s_WorkerPlan___init__) (defScope s_WorkerPlan___init__) [] (wDef (dsAt K)) (He.ma K (wkA K) "__init__") fd := by
  obtain ⟨fd, F⟩ := c.x.def_in (d := dW) List.mem_cons_self
  exact ⟨fd, F⟩
theorem tab (X : K.In h) (G : h.Ns mainGlobals mg) (c : He.SaysXT fa fn ts w K) : Tab K w mg := by
  obtain ⟨es, n, D⟩ := c.table 0
  refine ⟨⟨_, glo_at X G c (List.mem_append_left _ (by simp [frag1])), rfl⟩, ⟨es, n, D⟩, fun x ks e => ?_, fun x e => ?_⟩
  · have z := List.all_eq_true.mp (c.x.fact 11) (x, ks) (lookup_mem e)
    dsimp only at z
    split at z
    · rename_i a q
      exact ⟨a, q, fun H => tupB_ok z H⟩
    · cases z
  · have k : keysB K = true := c.x.fact 12
    unfold keysB at k
    have at_ := D.at_
    dsimp only [ts] at at_
    rw [at_] at k
    have all := List.all_eq_true.mp k
    unfold PySem.W.nsIn
    rw [at_]
    have none_ : es.toList.find? (·.key.isStr x) = none := by
      rw [List.find?_eq_none]
      intro d hd q
      have z := all d hd
      split at z
      · rename_i y t ek
        rw [ek] at q
        have ey : y = x := eq_of_beq (show (y == x) = true from q)
        rw [ey, e] at z
        cases z
      · cases z
    have noref : es.toList.any (·.refKey) = false := by
      rw [List.any_eq_false]
      intro d hd q
      have z := all d hd
      split at z
      · rename_i y t ek
        unfold DictEntry.refKey at q
        rw [ek] at q
        cases q
      · cases z
    dsimp only
    rw [none_]
    dsimp only
    rw [noref]
    rfl
theorem err (X : K.In h) (G : h.Ns mainGlobals mg) {x f : Str} (z : errB K x f = true) (m : ∃ i, dI x i ∈ fn ∧ ∃ p1 p2 q1 q2 q3 q4 : Pos, defArgs (inClass (top i) 0) = aF f p1 p2 ∧ defBody (inClass (top i) 0) = bF f q1 q2 q3 q4 ∧ defScope (inClass (top i) 0) = sF f) (c : He.SaysXT fa fn ts w K) : Err K mg x f := by
  unfold errB at z
  simp only [Bool.and_eq_true, decide_eq_true_eq] at z
  obtain ⟨z1, z2, z3, z4, z5, z6⟩ := z
  obtain ⟨i, mi, p1, p2, q1, q2, q3, q4, e1, e2, e3⟩ := m
  obtain ⟨fd, ⟨oc, od, dV, kV, doc, pm, an, cdv, ct, osl, rfl, lk, cd, dfl, _⟩, _⟩ := c.x.def_in mi
  refine ⟨He.glo_ok X G z1, xclB_ok z2, ⟨z5, z3, z4, ?_⟩, z6⟩
  rcases dfl with ⟨_, rfl⟩ | ⟨n, _⟩
  · dsimp only [dI] at lk cd
    rw [e1, e2, e3] at lk
    exact ⟨_, _, _, _, _, _, _, _, _, _, _, _, _, _, _, _, lk, cd⟩
  · exact absurd rfl n
theorem errS (X : K.In h) (G : h.Ns mainGlobals mg) (c : He.SaysXT fa fn ts w K) : Err K mg "BadSetting" "setting" :=
  err X G (c.x.fact 13) ⟨20, List.mem_cons_of_mem _ (List.mem_cons_of_mem _ (List.mem_append_right _ List.mem_cons_self)), _, _, _, _, _, _, rfl, rfl, rfl⟩ c
theorem errI (X : K.In h) (G : h.Ns mainGlobals mg) (c : He.SaysXT fa fn ts w K) : Err K mg "BadScript" "index" :=
  err X G (c.x.fact 14) ⟨22, List.mem_cons_of_mem _ (List.mem_cons_of_mem _ (List.mem_append_right _ (List.mem_cons_of_mem _ List.mem_cons_self))), _, _, _, _, _, _, rfl, rfl, rfl⟩ c
theorem su (X : K.In h) (G : h.Ns mainGlobals mg) (c : He.SaysXT fa fn ts w K) : Su K mg :=
  ⟨glo_at X G c (List.mem_append_left _ (by simp [frag1])), (insB_ok (c.x.fact 6)).cl, fun f hf => He.noat_ok (List.all_eq_true.mp (c.x.fact 15) f hf), He.mkr_ok (c.x.fact 16)⟩
theorem sinit (c : He.SaysXT fa fn ts w K) : ∃ fd, FunD K "__init__" "SupervisorPlan.__init__" (defArgs s_SupervisorPlan___init__) (defBody s_SupervisorPlan___init__) (defScope s_SupervisorPlan___init__) [] sDef (He.ma K (suA K) "__init__") fd := by
  obtain ⟨fd, F⟩ := c.x.def_in (d := dS) (List.mem_cons_of_mem _ List.mem_cons_self)
  exact ⟨fd, F⟩
theorem errf (c : He.SaysXT fa fn ts w K) : ErrF K := errF_of (c.x.fact 17)
theorem tabs_two (c : He.SaysXT fa fn ts w K) : He.tabAd K "_law_refused" ≠ He.tabAd K "law" := of_decide_eq_true (c.x.fact 18)
theorem lamF1 {base : Heap} (c : He.SaysXT fa fn ts w K) (l : He.LamAt h K "_law_refused") (tb : LamX.TabB base mg (He.codeAd K "_law_refused") (He.tabAd K "_law_refused")) : LamF K mg base "_law_refused" qRef :=
  ⟨l.cd, tb, List.mem_cons_self, fun p hp e => by
    rcases List.mem_cons.mp hp with rfl | hp
    · rfl
    · rcases List.mem_cons.mp hp with rfl | hp
      · exact absurd e.symm (tabs_two c)
      · cases hp⟩
theorem lamF2 {base : Heap} (c : He.SaysXT fa fn ts w K) (l : He.LamAt h K "law") (tb : LamX.TabB base mg (He.codeAd K "law") (He.tabAd K "law")) : LamF K mg base "law" qLaw :=
  ⟨l.cd, tb, List.mem_cons_of_mem _ List.mem_cons_self, fun p hp e => by
    rcases List.mem_cons.mp hp with rfl | hp
    · exact absurd e (tabs_two c)
    · rcases List.mem_cons.mp hp with rfl | hp
      · rfl
      · cases hp⟩
/-- the empty tuple among WorkerPlan's defaults -/
theorem ds_ok (c : He.SaysXT fa fn ts w K) (H : Hp) : SqT K H (dsAt K) [] := tupB_ok (c.x.fact 10) H
end
end K53
namespace K53
open PySem PySem.Spec PyProof.Rows L2
section
variable {P : Program} {K : PySem.W.Frag} {h : Heap} {mg : Str → Option Value} {w : World}
/-- all defs put together -/
theorem law_all {base : Heap} (X : K.In h) (G : h.Ns mainGlobals mg) (c : He.SaysXT fa fn ts w K) (L1 : LamF K mg base "_law_refused" qRef) (L2' : LamF K mg base "law" qLaw) : FnQ P w K mg base CX0 18 "law" ["cells"] (spLaw K) := by
  have T := txt X G c
  have W := wk X G c
  have S := su X G c
  have TD := tab X G c
  have TS := errS X G c
  have TI := errI X G c
  have M := errf c
  have ds := fun H => ds_ok c H
  have m : ∀ {p : Str × Nat} {i : Nat}, fns[i]? = some p → p ∈ fns := fun z => List.mem_of_getElem? z
  have Hs : ∀ {p : Str × Nat} (i : Nat), fns[i]? = some p → Has K mg p.1 (top p.2) := fun i z => has X G c (m z)
  obtain ⟨fw, FD⟩ := winit c
  obtain ⟨fs, FDs⟩ := sinit c
  obtain ⟨mv, hb⟩ := wk_bindS FD
  obtain ⟨mv0, hb0⟩ := wk_bind0 FD
  have i_int := ok_is_integer (P := P) (w := w) (base := base) (Hs (p := ("is_integer", 10)) 0 rfl) T
  have i_btw := ok_is_between (Hs (p := ("is_between", 11)) 1 rfl) T i_int
  have i_one := ok_is_one_of (P := P) (w := w) (base := base) (Hs (p := ("is_one_of", 12)) 2 rfl) T
  have i_word := ok_is_word (P := P) (w := w) (base := base) (Hs (p := ("is_word", 13)) 3 rfl) T
  have i_place := ok_is_place_name (Hs (p := ("is_place_name", 14)) 4 rfl) T i_word
  have i_sent := ok_is_sent_word (Hs (p := ("is_sent_word", 15)) 5 rfl) T i_word
  have i_val := ok_is_sent_value (Hs (p := ("is_sent_value", 16)) 6 rfl) T i_btw
  have i_given := ok_is_given_reason (Hs (p := ("is_given_reason", 17)) 7 rfl) T i_word
  have i_dval := ok_is_deed_value (Hs (p := ("_is_deed_value", 32)) 10 rfl) T i_val
  have i_add := ok_has_add (P := P) (w := w) (base := base) (Hs (p := ("_has_add", 33)) 11 rfl) T
  have i_item := ok_is_item (Hs (p := ("_is_item", 31)) 9 rfl) T i_sent i_dval i_btw i_given i_word i_add
  have i_deed := ok_is_deed (Hs (p := ("is_deed", 30)) 8 rfl) T TD i_item
  have i_deeds := ok_are_deeds (Hs (p := ("_are_deeds", 35)) 13 rfl) T i_deed
  have i_row := ok_is_row (Hs (p := ("_is_row", 34)) 12 rfl) T i_word i_btw i_deeds
  have i_wrow := ok_wrong_row (Hs (p := ("wrong_row", 36)) 14 rfl) T TI i_row
  have i_scr := ok_is_script (Hs (p := ("is_script", 37)) 15 rfl) T i_wrow
  have i_chk := ok_check_script (Hs (p := ("_check_script", 38)) 16 rfl) T TI i_wrow
  have i_found := ok_found_row (P := P) (w := w) (base := base) (Hs (p := ("found_row", 40)) 18 rfl) T
  have i_for := ok_row_for (Hs (p := ("row_for", 39)) 17 rfl) T i_chk i_word i_found
  have i_words := ok_words_of (Hs (p := ("words_of", 41)) 19 rfl) T i_chk
  have i_dead := ok_is_deadline (Hs (p := ("_is_deadline", 54)) 20 rfl) T i_btw
  have i_set := ok_check_settings (P := P) (w := w) (base := base) (Hs (p := ("_check_settings", 55)) 21 rfl) T TS
  have i_kids := ok_check_children (P := P) (w := w) (base := base) (Hs (p := ("_check_children", 56)) 22 rfl) T
  have FW := ok_winit FD T W i_set i_place i_one i_btw i_dead i_scr
  have FS := ok_sinit FDs T S i_set i_place i_one i_btw i_dead i_kids
  have l_begun := ok_begun (P := P) (w := w) (base := base) (Hs (p := ("_law_begun", 61)) 23 rfl)
  have l_next := ok_next (P := P) (w := w) (base := base) (Hs (p := ("_law_next", 62)) 24 rfl) T
  have l_of := ok_of (Hs (p := ("_law_of", 63)) 25 rfl) T l_next
  have l_good := ok_good_deed (Hs (p := ("_law_good_deed", 64)) 26 rfl) T W FW hb l_next l_of
  have l_rows := ok_good_rows (Hs (p := ("_law_good_rows", 65)) 27 rfl) T l_next l_good
  have HF : Has K mg "_law_field" s_law_field := Hs (p := ("_law_field", 66)) 28 rfl
  have l_bad := ok_wrong_deed (Hs (p := ("_law_wrong_deed", 67)) 29 rfl) T W S FW FS hb hb0 ds l_of
  have l_brow := ok_law_wrong_row (Hs (p := ("_law_wrong_row", 68)) 30 rfl) T l_bad l_of
  have k_scr := Has.kw (Hs (p := ("is_script", 37)) 15 rfl) i_scr fun _ _ _ _ _ _ us hl => match us, hl with | [_], _ => rfl
  have k_wrow := Has.kw (Hs (p := ("wrong_row", 36)) 14 rfl) i_wrow fun _ _ _ _ _ _ us hl => match us, hl with | [_], _ => rfl
  have k_deed := Has.kw (Hs (p := ("is_deed", 30)) 8 rfl) i_deed fun _ _ _ _ _ _ us hl => match us, hl with | [_], _ => rfl
  have l_right := ok_law_right (Hs (p := ("_law_right", 69)) 31 rfl) T W FW hb k_scr k_wrow k_deed i_for i_words
  have l_ref := ok_law_refused (Hs (p := ("_law_refused", 70)) 32 rfl) T W HF TI TS M L1 FW hb i_scr i_wrow i_for i_words
  exact ok_law (Hs (p := ("law", 71)) 33 rfl) T HF TI TS M L2' l_begun l_next l_of l_rows l_right l_bad l_brow l_ref i_deed i_scr i_wrow i_words
end
end K53
open PySem PySem.W PySem.Calls PyProof.Rows
theorem PySem.Challenge.cw_watchtree_k53_scripts_told_apart_holds : PySem.Challenge.rw_watchtree_k53_scripts_told_apart.Holds := by
  w_on; o_law
  refine HandSHeadRun.head_any (r := OpenLaw.row PySem.Challenge.rw_watchtree_k53_scripts_told_apart) (q := view (OpenLaw.row PySem.Challenge.rw_watchtree_k53_scripts_told_apart).prog [71]) (H := K53.hk) (ob := K53.ob) (M := 20000) (loose := K53.loose) (d := HandSHeadRun.topDef (OpenLaw.row PySem.Challenge.rw_watchtree_k53_scripts_told_apart).prog 71) (kwd := []) K53.ob_eq
    (by kernel_rfl) (fun s => by kernel_rfl) K53.run (by kernel_rfl) (by kernel_rfl) (by kernel_rfl) (by rfl) (by first | assumption | decide +kernel) (by decide +kernel) ⟨rfl, rfl, rfl, rfl, rfl, by decide +kernel⟩ ?hw ?hc
  case hw => w_witness2
  case hc =>
    refine L2.walkT (l := PySem.Challenge.rw_watchtree_k53_scripts_told_apart) (n := 63) (k := 18) (x := "cells") (CX := fun _ => L2.CX0) rfl (by decide) (by kernel_rfl) ⟨rfl, by decide, by decide⟩ ?F (fun _ _ _ _ _ z => z)
    intro w mg fa h Y G hmg0
    obtain ⟨K, KX, c, lam⟩ := Y
    have hmg : mg ("law" : PySem.Str) = some (.ref fa) := by
      have e : (HandSHeadRun.topDef (OpenLaw.row PySem.Challenge.rw_watchtree_k53_scripts_told_apart).prog 71).name = ("law" : PySem.Str) := by kernel_rfl
      rw [← e]
      exact hmg0
    have l1 : He.LamAt h K "_law_refused" := lam _ (by simp [K53.lams])
    have l2 : He.LamAt h K "law" := lam _ (by simp [K53.lams])
    have Hl := K53.has (x := "law") (i := 71) KX G c (List.mem_of_getElem? (i := 33) rfl)
    have e := hmg.symm.trans Hl.gl
    cases e
    obtain ⟨fd, F⟩ := Hl.df
    have b := L2.FunD.bindsA (ps := ["cells"]) F fun _ _ _ _ _ _ us hl => match us, hl with | [_], _ => rfl
    have two : ∀ {Q : PySem.Addr × PySem.Addr → Prop}, Q (He.codeAd K "_law_refused", He.tabAd K "_law_refused") → Q (He.codeAd K "law", He.tabAd K "law") → ∀ p ∈ [(He.codeAd K "_law_refused", He.tabAd K "_law_refused"), (He.codeAd K "law", He.tabAd K "law")], Q p := fun {Q} q1 q2 p hp => by
      rcases List.mem_cons.mp hp with rfl | hp
      · exact q1
      · rcases List.mem_cons.mp hp with rfl | hp
        · exact q2
        · cases hp
    refine ⟨K, fd, [(He.codeAd K "_law_refused", He.tabAd K "_law_refused"), (He.codeAd K "law", He.tabAd K "law")], K53.spLaw K, KX, two l1.tb l2.tb, two l1.no l2.no, two l1.hd l2.hd, fun s u => b s [u] rfl, fun H a ns hl tb hS => ?_, fun base kb gb TB => ?_⟩
    · refine ⟨a, ns, rfl, hS, hl, fun p hp => ?_, fun _ => rfl⟩
      rcases List.mem_cons.mp hp with rfl | hp
      · exact LamX.TabS.nil (tb _ List.mem_cons_self)
      · rcases List.mem_cons.mp hp with rfl | hp
        · exact LamX.TabS.nil (tb _ (List.mem_cons_of_mem _ List.mem_cons_self))
        · cases hp
    · have F2 := K53.law_all (P := (PySem.Challenge.rw_watchtree_k53_scripts_told_apart).prog) (base := base) KX G c (K53.lamF1 c l1 (TB _ List.mem_cons_self)) (K53.lamF2 c l2 (TB _ (List.mem_cons_of_mem _ List.mem_cons_self)))
      obtain ⟨fd2, G2, _, oc2, od2, osl2, lk2⟩ := F2.fn
      obtain ⟨oc1, od1, osl1, lk1⟩ := L2.lookD F
      have same : fd2 = fd := by
        have z := lk2.symm.trans lk1
        cases z
        rfl
      rw [← same]
      exact G2
