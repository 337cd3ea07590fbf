import PyProof.Rows.All
import Wide.All
import OpenK.AllK
import Wide.FinOn
import KE.KStateDown
import HandS.ForMost
import HandS.ForExc
import HandS.Defaults
import HandS.Head0
import HandS.Head1
import HandS.Head2
import HandS.HeadEnd
import HandS.HeadHook1
import HandS.HeadHook2
import HandS.HeadHook3
import KE.KExcInit
import KE.KExcIs
import HandS.ExcInit
import HandS.IsInst
import KE.KUnpackStar
import HandS.Codes
import HandS.NoneIn
import HandS.Walk
import Wide.Once
import HandS.StrMore
import PyProof.CallFns
import HandS.More
import HandS.TupAny
import PyProof.Rows.SortStr
import HandS.Set
import HandS.SetBool
import HandS.SetFor
import PyProof.SetRoads
import KE.GoesEnum
import HandS.Zip
import HandS.MakeKwOnly
import HandS.List
import HandS.SortKw
import HandS.SlotsOwn
import HandS.NamedTupGet
import PyProof.StrBlock2
import HandS.MakeKw
import HandS.Star
import HandS.Text
import HandS.Lambda
import HandS.EndTab
import PyProof.NeKinds
import PyProof.DictUpdate
import HandS.Dict
import HandS.Iter
import KE.KTryMore
import HandS.ExcValue
import HandS.Exc
import HandS.TryMany
import PyProof.InstEq
import HandS.NamedTupSort
import HandS.OwnEq
import HandS.TryOnly
import HandS.ExcField
import PySem.Challenge.RW_watchtree_k08_whole_plans_related
set_option Elab.async false
set_option linter.all false
set_option maxRecDepth 100000
set_option maxHeartbeats 0
/-! the head's Hook with facts of one's own: truths over the written part -/
namespace He
open PySem PySem.Spec PyProof.Rows L2
abbrev Fx : Type := PySem.W.Frag → Bool
def asX (g : Addr → Option Obj) (n : Nat) : List Addr := sysModules :: asD g n
def obsX (fa : List Fx) (fn : List DefD) (K : PySem.W.Frag) : AlD := ((fa.all fun f => f K) && fn.all fun d => d.ok K, fn.map fun d => fnW K d.at_)
def SaysX (fa : List Fx) (fn : List DefD) (K : PySem.W.Frag) : Prop := obsX fa fn K = valD fn
def obsXG (n : Nat) (fa : List Fx) (fn : List DefD) (g : Addr → Option Obj) : AlD := obsX fa fn (frG g (asX g n))
def hookX (n : Nat) (fa : List Fx) (fn : List DefD) : PySem.W.Hook where
  α := AlD
  obs := fun s => obsXG n fa fn s.heap.get?
  val := fun _ => valD fn
  says := fun _ h => ∃ K : PySem.W.Frag, K.In h ∧ SaysX fa fn K
  of := fun _ _ e => ⟨_, frG_in, e⟩
  keeps := fun _ _ _ ⟨K, hK, c⟩ k => ⟨K, PySem.W.Frag.In.keeps hK k, c⟩
theorem obsXG_eq {n : Nat} {fa : List Fx} {fn : List DefD} {g : Addr → Option Obj} {s : Shared} (h : ∀ a, g a = s.heap.get? a) : obsXG n fa fn g = (hookX n fa fn).obs s := by
  obtain rfl : g = s.heap.get? := funext h
  rfl
section
variable {fa : List Fx} {fn : List DefD} {K : PySem.W.Frag}
theorem SaysX.fact (c : SaysX fa fn K) (i : Nat) {f : Fx} (h : fa[i]? = some f := by rfl) : f K = true :=
  List.all_eq_true.mp (ba (show ((fa.all fun f => f K) && fn.all fun d => d.ok K) = true from congrArg (·.1) c)).1 f (List.mem_of_getElem? h)
theorem SaysX.def_ (c : SaysX fa fn K) (i : Nat) {d : DefD} (h : fn[i]? = some d := by rfl) : ∃ fd, FunD K d.name d.qual d.params d.body d.scope (d.dvs K) (d.kws K) (fAd K d.at_) fd := by
  have all2 := (ba (show ((fa.all fun f => f K) && fn.all fun d => d.ok K) = true from congrArg (·.1) c)).2
  have same : (fn.map fun d => fnW K d.at_)[i]? = (fn.map DefD.val)[i]? := congrArg (fun z : AlD => z.2[i]?) c
  rw [List.getElem?_map, List.getElem?_map, h] at same
  exact DefD.funD (Option.some.inj same) (List.all_eq_true.mp all2 d (List.mem_of_getElem? h))
theorem SaysX.def_in (c : SaysX fa fn K) {d : DefD} (h : d ∈ fn) : ∃ fd, FunD K d.name d.qual d.params d.body d.scope (d.dvs K) (d.kws K) (fAd K d.at_) fd := by
  obtain ⟨i, hi⟩ := List.getElem?_of_mem h
  exact c.def_ i hi
end
end He
/-! facts of one's own and tables with text keys -/
namespace He
open PySem PySem.Spec PyProof.Rows L2
def obsXT (fa : List Fx) (fn : List DefD) (ts : List Tab) (K : PySem.W.Frag) : AlT := (obsX fa fn K, ts.map fun t => dicW K (t.1 K))
def SaysXT (fa : List Fx) (fn : List DefD) (ts : List Tab) (w : World) (K : PySem.W.Frag) : Prop := obsXT fa fn ts K = valT fn ts w
/-- what is looked at: the walk's addresses, and those that ex finds from them -/
def asY (g : Addr → Option Obj) (n : Nat) (ex : List (PySem.W.Frag → Addr)) : List Addr := (ex.map fun f => f (frG g (asX g n))) ++ asX g n
def obsXTG (n : Nat) (ex : List (PySem.W.Frag → Addr)) (fa : List Fx) (fn : List DefD) (ts : List Tab) (g : Addr → Option Obj) : AlT := obsXT fa fn ts (frG g (asY g n ex))
def hookXT (n : Nat) (ex : List (PySem.W.Frag → Addr)) (fa : List Fx) (fn : List DefD) (ts : List Tab) : PySem.W.Hook where
  α := AlT
  obs := fun s => obsXTG n ex fa fn ts s.heap.get?
  val := fun w => valT fn ts w
  says := fun w h => ∃ K : PySem.W.Frag, K.In h ∧ SaysXT fa fn ts w K
  of := fun _ _ e => ⟨_, frG_in, e⟩
  keeps := fun _ _ _ ⟨K, hK, c⟩ k => ⟨K, PySem.W.Frag.In.keeps hK k, c⟩
theorem obsXTG_eq {n : Nat} {ex : List (PySem.W.Frag → Addr)} {fa : List Fx} {fn : List DefD} {ts : List Tab} {g : Addr → Option Obj} {s : Shared} (h : ∀ a, g a = s.heap.get? a) : obsXTG n ex fa fn ts g = (hookXT n ex fa fn ts).obs s := by
  obtain rfl : g = s.heap.get? := funext h
  rfl
section
variable {fa : List Fx} {fn : List DefD} {ts : List Tab} {w : World} {K : PySem.W.Frag}
theorem SaysXT.x (c : SaysXT fa fn ts w K) : SaysX fa fn K := congrArg (fun z : AlT => z.1) c
theorem SaysXT.table (c : SaysXT fa fn ts w K) (i : Nat) {t : Tab} (h : ts[i]? = some t := by rfl) : ∃ es n, KDict K w (t.1 K) es n := by
  have all : ts.map (fun t => dicW K (t.1 K)) = ts.map fun t => some (keysIn w.params t.2) := congrArg (fun z : AlT => z.2) c
  have one := congrArg (fun l => l[i]?) all
  simp only [List.getElem?_map, h, Option.map_some] at one
  exact dicW_ok (Option.some.inj one)
end
end He
namespace PySem.WX
open Builtin Builtin.ObjectAttr
section
variable {M : Model} {A : Around} {E : Value → Shared → Prop} {h : Heap} {g : Array GenState} {d : Drawn} {t : Nat} {os : OsState}
variable {nm q : Str} {C N : Addr} {bs bm bmB : List Value} {hdct : Bool} {sn : List Str} {sub : List Value} {ab : Bool} {col : Option Bool} {dd : Option Addr} {k0 k1 k2 k3 k5 : Option Value} {B newId initId : String}

theorem chkNewKw (FB : ExcBaseFacts B newId initId bmB) (same : ∀ z : String, bm.contains (.type z) = bmB.contains (.type z)) {pos : List Value} {kw : List (Str × Value)} {Q : Unit → Shared → Prop}
    (atC : h.get? C = some (excClassObj nm q C N bs bm hdct sn sub ab col dd k0 k1 k2 k3 k5 newId)) (fin : Q () ⟨h, g, d, t, os⟩) : wpAny M A (checkBuiltinCall newId ⟨.ref C :: pos, kw⟩) Q E ⟨h, g, d, t, os⟩ := by
  have inMro : (Value.ref C :: bm).contains (.type B) = true := by rw [List.contains_cons, same, FB.hasB]; exact Bool.or_true _
  have _st := FB.noStar
  simp only [checkBuiltinCall, FB.newKind, FB.newSplit, FB.newRow]
  repeat (first | refine wpAny_loadPart_at atC ?_ | (refine wpAny_isSubtype_exc atC ?_; rw [inMro]) | refine wpAny_staticBase_exc atC ?_ | refine wpAny_madeBy_exc atC ?_ | simp only [bne_self_eq_false, if_false, Bool.false_eq_true] | wp_step)
  exact fin
end
section
variable {prog : Program} {w : World} {A : Around} {E : Value → Shared → Prop} {R : Result → Shared → Prop} {h : Heap} {g : Array GenState} {d : Drawn} {t : Nat} {os : OsState}
variable {nm q : Str} {C N : Addr} {bs bm bmB : List Value} {hdct : Bool} {sn : List Str} {sub : List Value} {ab : Bool} {col : Option Bool} {dd : Option Addr} {k0 k1 k2 k3 k5 : Option Value} {B newId initId : String}
/-- the object as BaseException.__new__ lays it, its arguments' tuple at tp -/
abbrev bareO (C tp : Addr) : Obj := { cls := .ref C, data := .fields #[.ref tp, .none, .none, .none, .bool false, .none] }
abbrev tupO (vs : List Value) : Obj := { cls := .type "tuple", data := .seq vs.toArray }
theorem newKw (FB : ExcBaseFacts B newId initId bmB) (same : ∀ z : String, bm.contains (.type z) = bmB.contains (.type z)) {pos : List Value} {kw : List (Str × Value)}
    (atC : h.get? C = some (excClassObj nm q C N bs bm hdct sn sub ab col dd k0 k1 k2 k3 k5 newId))
    (fin : R (.ok (.ret (.ref (h.objs.size + 1)))) ⟨(h.push (tupO pos)).push (bareO C h.objs.size), g, d, t, os⟩) (few : pos.length ≤ sizeLine) :
    codeAny (model prog w) A (.builtin newId ⟨.ref C :: pos, kw⟩) R ⟨h, g, d, t, os⟩ := by
  have _e := FB.ends
  have inB : (Value.ref C :: bm).contains (.type B) = true := by rw [List.contains_cons, same, FB.hasB]; exact Bool.or_true _
  have inA : (Value.ref C :: bm).contains (.type "AttributeError") = false := by rw [List.contains_cons, same, FB.noAttr] <;> rfl
  have inN : (Value.ref C :: bm).contains (.type "NameError") = false := by rw [List.contains_cons, same, FB.noName] <;> rfl
  refine codeAny_builtinAt FB.entry ?_
  unfold «BaseException.__new__»
  refine wpAt_bind (show wpAt _ _ _ (stack >>= _) _ _ _ from wpAt_bind (wpAt_stack fun pp rest => wpAt_of_wpAny ?_))
  wp_walk
  refine wpAt_of_wpAny ?_
  rw [FB.owner]
  repeat (first | with_reducible refine wpAny_madeHere_exc FB.canon atC ?_ | with_reducible refine wpAny_loadPart_at atC ?_ | (with_reducible refine wpAny_isSubtype_exc atC ?_; first | rw [inB] | rw [inA] | rw [inN]) | wp_step)
  show R _ _
  rw [Heap.size_push] <;> exact fin
theorem tcallKw (FB : ExcBaseFacts B newId initId bmB) (same : ∀ z : String, bm.contains (.type z) = bmB.contains (.type z)) {pos : List Value} {kw : List (Str × Value)} {fI : Addr} {Q : Fin → Shared → Prop}
    (atC : h.get? C = some (excClassObj nm q C N bs bm hdct sn sub ab col dd k0 k1 k2 k3 k5 newId))
    (ini : W.Looks (model prog w) h (typeLookup (.ref C) "__init__") (some (.ref fI))) (bnd : ∀ self, W.Looks (model prog w) h (bindSpecial (.ref fI) self) (.ref fI, [self])) (few : pos.length ≤ sizeLine)
    (fin : codeAny (model prog w) A (.call (.ref fI) ⟨.ref (h.objs.size + 1) :: pos, kw⟩)
      (fun r s' => match r with | .ok (.ret v) => v = .none ∧ Q (.done (.ret (.ref (h.objs.size + 1)))) s' | .ok _ => False | .error x => E x s')
      ⟨(h.push (tupO pos)).push (bareO C h.objs.size), g, d, t, os⟩) :
    wpAny (model prog w) A (Builtin.«type.__call__» ⟨.ref C :: pos, kw⟩) Q E ⟨h, g, d, t, os⟩ := by
  repeat (first | with_reducible refine wpAny_loadPart_at atC ?_ | with_reducible refine wpAny_madeBy_exc atC ?_ | wp_step)
  refine codeAny_call_builtin_code (Code.quiet_builtin _ FB.quiet) (chkNewKw FB same atC (newKw FB same atC ?_ few))
  show wpAny _ _ _ _ _ _
  have up : ∀ b o, h.get? b = some o → ((h.push (tupO pos)).push (bareO C h.objs.size)).get? b = some o := fun b o e => Heap.get?_push_of_some _ (Heap.get?_push_of_some _ e)
  have atC1 := up _ _ atC
  have atX : ((h.push (tupO pos)).push (bareO C h.objs.size)).get? (h.objs.size + 1) = some (bareO C h.objs.size) := by heap_get
  have inC : (Value.ref C :: bm).contains (.ref C) = true := by simp
  unfold isInstance
  repeat (first | with_reducible refine wpAny_loadPart_at atX ?_ | (with_reducible refine wpAny_isSubtype_exc atC1 ?_; rw [inC]) | wp_step)
  show wpAny _ _ (typeLookup (.ref C) _) _ _ _
  refine (ini.keeps up).at (wpAny_holding (wpAny_bind (((bnd (.ref (h.objs.size + 1))).keeps up).at (wpAny_bind (wpAny_call (codeAny_mono fin fun r s' z => ?_))))))
  rcases r with e | (v | _ | _ | _) <;> first | exact z | exact z.elim | skip
  obtain ⟨rfl, z⟩ := z
  first
    | exact wpAny_pure (wpAny_pure z)
    | (wp_walk; exact z)
/-- C(.., k = ..): laid, then the own __init__ -/
theorem callKw (FB : ExcBaseFacts B newId initId bmB) (same : ∀ z : String, bm.contains (.type z) = bmB.contains (.type z)) {pos : List Value} {kw : List (Str × Value)} {fI : Addr}
    (atC : h.get? C = some (excClassObj nm q C N bs bm hdct sn sub ab col dd k0 k1 k2 k3 k5 newId))
    (ini : W.Looks (model prog w) h (typeLookup (.ref C) "__init__") (some (.ref fI))) (bnd : ∀ self, W.Looks (model prog w) h (bindSpecial (.ref fI) self) (.ref fI, [self])) (few : pos.length ≤ sizeLine)
    (fin : codeAny (model prog w) (A.under (.builtin "type.__call__" ⟨.ref C :: pos, kw⟩)) (.call (.ref fI) ⟨.ref (h.objs.size + 1) :: pos, kw⟩) (W.InitBack (h.objs.size + 1) R)
      ⟨(h.push (tupO pos)).push (bareO C h.objs.size), g, d, t, os⟩) :
    codeAny (model prog w) A (.call (.ref C) ⟨pos, kw⟩) R ⟨h, g, d, t, os⟩ := by
  have _f1 := tc_lookup
  have _f2 := tc_bind (.ref C)
  have isTy : (⟨h, g, d, t, os⟩ : Shared).TypeIs (.ref C) "type" := ⟨_, atC, rfl⟩
  refine codeAny_of_tree (show wpAny _ _ (callAny (.ref C) _) _ _ _ from ?_)
  repeat (any_goals (first | assumption | with_reducible refine wpAny_loadPart_at atC ?_ | wp_step))
  refine ⟨rfl, codeAny_call_builtin_at (Code.quiet_builtin _ (by decide +kernel)) entry_typeCall (wpAny_check_type_call_sub atC (tcallKw FB same atC ini bnd few ?_))⟩
  refine codeAny_mono fin fun r s' z => ?_
  rcases r with e | (v | _ | _ | _) <;> exact z
end
end PySem.WX
namespace PySem.WX
open PySem.W PySem.Calls PyProof.Rows
open Builtin.ObjectAttr
section
variable {prog : Program} {w : World} {A : Around} {E : Value → Shared → Prop} {s : Shared} {K : Frag} {C : Addr} {B : String} {bmB : List Value}
/-- the first attribute of an exception that has no dict yet -/
theorem setFirst {x tp : Addr} {f : Str} {v : Value} {Q : Unit → Shared → Prop} (SF : StoreFacts B bmB "object.__setattr__" "object") (kin : K.In s.heap) (atX : s.heap.get? x = some (bareO C tp))
    (sa : findIn K (.ref C) "__setattr__" = some (some (.builtin "object.__setattr__"))) (ov : excOver K C bmB = true) (nf : findIn K (.ref C) f = some none) (hd : hasDictIn K C = true)
    (fin : ∀ h' tk dx, (∀ b o, b ≠ x → s.heap.get? b = some o → h'.get? b = some o) → s.heap.objs.size ≤ dx → dx ≠ x → h'.get? x = some { cls := .ref C, dict := some dx, data := .fields #[.ref tp, .none, .none, .none, .bool false, .none] } →
      h'.Ns1 dx (fun y => if y = f then some v else none) → Q () { s with heap := h', toks := tk }) :
    wpAny (model prog w) A (setAttr (.ref x) f v) Q E s := by
  have xlt : x ≠ s.heap.objs.size := Nat.ne_of_lt (Heap.lt_size atX)
  obtain ⟨cd, isC, hasD⟩ := any_some hd
  have tk0 : takerIn K C f = some none := by unfold takerIn; rw [nf]; rfl
  refine set_plain (od := none) kin ⟨atX, rfl, rfl, trivial⟩ sa (osa_openX (od := none) (s := { s with toks := s.toks + 1 }) SF kin ⟨atX, rfl, rfl, trivial⟩ ov tk0 fun b => ?_)
  refine wpAny_bind (wpAny_pure (wpAny_bind (instanceDict_exc (c2 := .none) (s := { s with toks := s.toks + 1 }) atX (looks_clsIn kin isC) hasD ?_)))
  have old : ∀ b o, b ≠ x → s.heap.get? b = some o → ((s.heap.push (dictOf [] 0)).update x fun o => { o with dict := some s.heap.objs.size }).get? b = some o := fun b o nb e =>
    (Heap.get?_update_ne _ _ _ _ nb).trans (Heap.get?_push_of_some _ e)
  have newX : ((s.heap.push (dictOf [] 0)).update x fun o => { o with dict := some s.heap.objs.size }).get? x = some { cls := .ref C, dict := some s.heap.objs.size, data := .fields #[.ref tp, .none, .none, .none, .bool false, .none] } :=
    Heap.get?_update_self _ (Heap.get?_push_of_some _ atX) rfl
  refine PX.store_in_new ⟨_, #[], _, (Heap.get?_update_ne _ _ _ _ xlt.symm).trans (Heap.get?_push_at rfl rfl), rfl, fun e he => absurd he (by simp), fun _ => rfl⟩ fun h' tk' ns same => ?_
  exact fin h' tk' s.heap.objs.size (fun b o nb e => (same.2 b (Nat.ne_of_lt (Heap.lt_size e))).trans (old b o nb e)) (Nat.le_refl _) xlt.symm ((same.2 x xlt).trans newX) ns
end
end PySem.WX

namespace L2
open PySem PySem.Spec PyProof.Rows
/-- two new objects are laid and tracked at once -/
theorem Inv.twoNew {X : Cx} {pins : List (Addr × Obj)} {σ : St} {H : Hp} {s : Shared} {h' : Heap} {a d : Addr} {oa od : HO} {t' : Nat} (I : Inv X pins σ H s) (k : ∀ b u, s.heap.get? b = some u → h'.get? b = some u)
    (ha : s.heap.objs.size ≤ a) (hd : s.heap.objs.size ≤ d) (ne : a ≠ d) (xa : ObjOk X.prog X.w (upd (upd H d od) a oa) h' a oa) (xd : ObjOk X.prog X.w (upd (upd H d od) a oa) h' d od) :
    Inv X pins σ (upd (upd H d od) a oa) { s with heap := h', toks := t' } := by
  have na := I.hok.fresh ha
  have nd := I.hok.fresh hd
  have keepH : ∀ {b : Addr} {o : HO}, H b = some o → upd (upd H d od) a oa b = some o := fun {b o} e => by
    rw [upd_ne (ne_of_none e na), upd_ne (ne_of_none e nd)]; exact e
  have old : ∀ {b : Addr} {u : Obj}, s.heap.get? b = some u → b ≠ a ∧ b ≠ d := fun {b u} e =>
    ⟨Nat.ne_of_lt (Nat.lt_of_lt_of_le (Heap.lt_size e) ha), Nat.ne_of_lt (Nat.lt_of_lt_of_le (Heap.lt_size e) hd)⟩
  refine I.un (h' := h') (t' := t') ⟨fun b u e _ _ _ => k b u e, fun b u e _ _ _ => ⟨u.slots, k b u e⟩, fun b u e n _ => ?_, fun b u e _ => ⟨u, k b u e⟩, fun _ _ e => keepH e, fun _ _ _ e => keepH e, fun b ps e => ⟨#[], by rw [keepH e]; simp⟩⟩ fun b o e => ?_
  · rw [upd_ne (old e).1, upd_ne (old e).2]; exact n
  · by_cases h1 : b = a
    · subst h1
      rw [upd_same] at e; cases e; exact xa
    · by_cases h2 : b = d
      · subst h2
        rw [upd_ne h1, upd_same] at e; cases e; exact xd
      · rw [upd_ne h1, upd_ne h2] at e
        exact (I.hok b o e).stay (fun c v _ q => k c v q) (fun _ q => keepH q) fun _ _ q => keepH q
/-- what is asked of an own exception class at C whose built-in base is B -/
structure XCl (K : PySem.W.Frag) (C : Addr) (newId : String) (bmB : List Value) : Prop where
  q : PySem.W.excInitIn K C bmB newId = true
  ov : PySem.W.excOver K C bmB = true
  sa : PySem.W.findIn K (.ref C) "__setattr__" = some (some (.builtin "object.__setattr__"))
  ga : PySem.W.findIn K (.ref C) "__getattribute__" = some (some (.builtin "BaseException.__getattribute__"))
  gg : PySem.W.findIn K (.ref C) "__getattr__" = some none
  hd : PySem.W.hasDictIn K C = true
  xb : PySem.W.subIn K (.ref C) (.type "BaseException") = some true
  kp : PySem.W.keepIn K (.ref C) = true
  ic : PySem.W.isClsIn K C = true
  ca : PySem.W.findIn K (.ref C) "__class__" = some (some (.builtin "object.__class__"))
  sg : PySem.W.specialIn K (.builtin "object.__class__") "__get__" = some (some (.builtin "getset_descriptor.__get__"))
  tk : PySem.W.takesIn K (.builtin "object.__class__") = some true
  mo : PySem.W.mroIn K C (.type "object") = some true
def xclB (K : PySem.W.Frag) (C : Addr) (newId : String) (bmB : List Value) : Bool :=
  PySem.W.excInitIn K C bmB newId && (PySem.W.excOver K C bmB && (decide (PySem.W.findIn K (.ref C) "__setattr__" = some (some (.builtin "object.__setattr__")))
  && (decide (PySem.W.findIn K (.ref C) "__getattribute__" = some (some (.builtin "BaseException.__getattribute__"))) && (decide (PySem.W.findIn K (.ref C) "__getattr__" = some none)
  && (PySem.W.hasDictIn K C && (decide (PySem.W.subIn K (.ref C) (.type "BaseException") = some true) && (PySem.W.keepIn K (.ref C) && (PySem.W.isClsIn K C
  && (decide (PySem.W.findIn K (.ref C) "__class__" = some (some (.builtin "object.__class__"))) && (decide (PySem.W.specialIn K (.builtin "object.__class__") "__get__" = some (some (.builtin "getset_descriptor.__get__")))
  && (decide (PySem.W.takesIn K (.builtin "object.__class__") = some true) && decide (PySem.W.mroIn K C (.type "object") = some true))))))))))))
theorem xclB_ok {K : PySem.W.Frag} {C : Addr} {newId : String} {bmB : List Value} (h : xclB K C newId bmB = true) : XCl K C newId bmB := by
  unfold xclB at h
  simp only [Bool.and_eq_true, decide_eq_true_eq] at h
  obtain ⟨a, b, c, d, e, f, g, i, j, k, l, m, n⟩ := h
  exact ⟨a, b, c, d, e, f, g, i, j, k, l, m, n⟩

/-! ### __init__(self, f): self.f = f -/
def aF (f : Str) (p1 p2 : Pos) : Arguments := { posonlyargs := [], args := [{ arg := "self", annotation := none, pos := p1 }, { arg := f, annotation := none, pos := p2 }], vararg := none, kwonlyargs := [], kw_defaults := [], kwarg := none, defaults := [] }
def bF (f : Str) (q1 q2 q3 q4 : Pos) : List Stmt := [.Assign [.Attribute (.Name "self" q1) f q2] (.Name f q3) q4]
def sF (f : Str) : Scope := { kind := .function, names := [(PySem.Str.ofString "self", .local), (f, .local)], isGenerator := false, isCoroutine := false, more := [] }
/-- what is asked of the field's name: closed for a written one -/
structure FName (f : Str) : Prop where
  pos : ∀ (q : Str) (kV doc pm : Value) (an : Option Addr) (cdv ct : Value) (p1 p2 : Pos) (b : List Stmt) (x v : Value), bindArgs (PySem.W.fnOf "__init__" q (aF f p1 p2) b (sF f) .none kV doc pm an cdv ct) ⟨[x, v], []⟩ = pure [(("self" : Str), x), (f, v)]
  kw : ∀ (q : Str) (kV doc pm : Value) (an : Option Addr) (cdv ct : Value) (p1 p2 : Pos) (b : List Stmt) (x v : Value), bindArgs (PySem.W.fnOf "__init__" q (aF f p1 p2) b (sF f) .none kV doc pm an cdv ct) ⟨[x], [(f, v)]⟩ = pure [(("self" : Str), x), (f, v)]
  ks : List.all [(("self" : Str), Value.none), (f, Value.none)] (fun y => (sF f).names.lookup y.1 == some .local || (sF f).names.lookup y.1 == some .cell) = true
  lf : (sF f).names.lookup f = some .local
  ls : (sF f).names.lookup ("self" : Str) = some .local
  db : (f == ("__debug__" : Str)) = false
  ne : ("self" : Str) ≠ f
theorem ldL {M : Model} {s : Shared} {qual : Str} {scope : Scope} {L a : Addr} {cd : Value} {m : Str → Option Value} {x : Str} {pos : Pos} {v : Value} {Q : Value → Shared → Prop} {A : Around} {E : Value → Shared → Prop} (hn : s.heap.Ns L m) (hv : m x = some v) (h : Q v s)
    (hk : scope.kind = .function) (hl : (envOfC qual scope L a cd).kindOf x = some .local) (hd : (x == ("__debug__" : Str)) = false) :
    wpAny M A (eval (.Name x pos) (envOfC qual scope L a cd)) Q E s := wpAny_Name (wpAny_loadName_local hk hl hn hv h) hd
end L2
namespace L2
open PySem PySem.Spec PyProof.Rows
/-- where the class's own __init__ stands, storing its one argument under f -/
structure XIn (K : PySem.W.Frag) (C fI : Addr) (f : Str) : Prop where
  nf : PySem.W.findIn K (.ref C) f = some none
  iC : PySem.W.findIn K (.ref C) "__init__" = some (some (.ref fI))
  tC : PySem.W.typeIn K (.ref fI) = some (.type "function")
  fn : ∃ (q : Str) (oc : Value) (od : Option Addr) (kV doc pm : Value) (an : Option Addr) (cdv ct : Value) (osl : Array (Option Value)) (p1 p2 q1 q2 q3 q4 : Pos),
    K.lookup fI = some ⟨oc, od, .func (PySem.W.fnOf "__init__" q (aF f p1 p2) (bF f q1 q2 q3 q4) (sF f) .none kV doc pm an cdv ct), osl⟩ ∧ PySem.W.codeIn K cdv q = true
section
variable {prog : Program} {w : World} {A : Around} {E : Value → Shared → Prop} {R : Result → Shared → Prop} {s : Shared} {K : PySem.W.Frag} {C fI : Addr} {f : Str} {B newId initId : String} {bmB : List Value}
/-- what stands behind the making of C(v) -/
structure XMade (h h' : Heap) (e C d : Addr) (f : Str) (v : Value) : Prop where
  keep : ∀ b o, h.get? b = some o → h'.get? b = some o
  big : h.objs.size ≤ e
  dbig : h.objs.size ≤ d
  ne : e ≠ d
  obj : ∃ tp : Addr, h'.get? e = some ({ cls := .ref C, dict := some d, data := .fields #[.ref tp, .none, .none, .none, .bool false, .none] } : Obj)
  ns : h'.Ns1 d (fun y => if y = f then some v else none)
theorem xinit (SF : StoreFacts B bmB "object.__setattr__" "object") (T : XCl K C newId bmB) (J : XIn K C fI f) (N : FName f) {x tp : Addr} {v : Value} {args : Args} (kin : K.In s.heap) (lim : s.heap.NoLimit)
    (atX : s.heap.get? x = some (PySem.WX.bareO C tp)) (notK : K.lookup x = none) (room : A.depth < recursionLimit) (ha : args = ⟨[.ref x, v], []⟩ ∨ args = ⟨[.ref x], [(f, v)]⟩)
    (fin : ∀ h' tk dx, (∀ b o, b ≠ x → s.heap.get? b = some o → h'.get? b = some o) → s.heap.objs.size ≤ dx → dx ≠ x → h'.get? x = some { cls := .ref C, dict := some dx, data := .fields #[.ref tp, .none, .none, .none, .bool false, .none] } →
      h'.Ns1 dx (fun y => if y = f then some v else none) → R (.ok (.ret .none)) { s with heap := h', toks := tk }) :
    codeAny (model prog w) A (.call (.ref fI) args) R s := by
  obtain ⟨q, oc, od, kV, doc, pm, an, cdv, ct, osl, p1, p2, q1, q2, q3, q4, lk, cd⟩ := J.fn
  have bnd : ∀ s' : Shared, BindsTo s' (PySem.W.fnOf "__init__" q (aF f p1 p2) (bF f q1 q2 q3 q4) (sF f) .none kV doc pm an cdv ct) args [(("self" : Str), Value.ref x), (f, v)] := fun s' => by
    rcases ha with rfl | rfl
    · exact BindsTo.of_eq (N.pos q kV doc pm an cdv ct p1 p2 _ _ _)
    · exact BindsTo.of_eq (N.kw q kV doc pm an cdv ct p1 p2 _ _ _)
  refine Att.call_fn (binds := [(("self" : Str), Value.ref x), (f, v)]) kin lim lk cd room (bnd s) N.ks (fun s₁ IC => ?_) rfl rfl rfl
  obtain ⟨h₁, tk₁, rfl⟩ := IC.toInCall.same
  have up : ∀ b o, s.heap.get? b = some o → h₁.get? b = some o := IC.toInCall.keep
  have ns := IC.toInCall.ns
  have zf : (envOfC q (sF f) s.heap.objs.size fI cdv).kindOf f = some .local := N.lf
  have zs : (envOfC q (sF f) s.heap.objs.size fI cdv).kindOf "self" = some .local := N.ls
  show wpAny _ _ (execs _ _) _ _ _
  refine wpAny_execs_cons (plainObj_wpAny_Assign_Attribute ?_)
  refine ldL (v := v) ns ?_ (ldL (v := .ref x) ns ?_ ?_ rfl zs (by decide)) rfl zf N.db
  · simp [bindL, zf, zs, N.ne]
  · simp [bindL, zf, zs, N.ne]
  refine PySem.WX.setFirst (s := ⟨h₁, s.gens, s.drawn, tk₁, s.os⟩) SF (kin.keeps up) (up _ _ atX) T.sa T.ov J.nf T.hd fun h' tk' dx k n1 n2 ox nx => ?_
  show wpAny _ _ (execs _ _) _ _ _
  have z : s.heap.objs.size ≤ h₁.objs.size := Nat.le_of_lt ns.lt
  exact wpAny_execs_nil (fin h' tk' dx (fun b o nb e => k b o nb (up b o e)) (Nat.le_trans z n1) n2 ox nx)
theorem xmade (FB : ExcBaseFacts B newId initId bmB) (SF : StoreFacts B bmB "object.__setattr__" "object") (T : XCl K C newId bmB) (J : XIn K C fI f) (N : FName f) {v : Value} {args : Args} (kin : K.In s.heap) (lim : s.heap.NoLimit) (room : A.depth + 1 < recursionLimit)
    (ha : args = ⟨[v], []⟩ ∨ args = ⟨[], [(f, v)]⟩) (fin : ∀ h' tk e d, XMade s.heap h' e C d f v → R (.ok (.ret (.ref e))) { s with heap := h', toks := tk }) :
    codeAny (model prog w) A (.call (.ref C) args) R s := by
  obtain ⟨nm, N', qn, bs, bm, hdct, sn, sub, ab, col, dd, k0, k1, k2, k3, k5, atC, same⟩ := PySem.W.excInit_of kin T.q
  obtain ⟨hp, g, dr, tk, os⟩ := s
  have one : args.pos.length ≤ sizeLine := by
    rcases ha with rfl | rfl
    · rw [sizeLine_eq]; exact (by decide : 1 ≤ 16777216)
    · exact Nat.zero_le _
  have up : ∀ b o, hp.get? b = some o → ((hp.push (PySem.WX.tupO args.pos)).push (PySem.WX.bareO C hp.objs.size)).get? b = some o := fun b o e => Heap.get?_push_of_some _ (Heap.get?_push_of_some _ e)
  have atX : ((hp.push (PySem.WX.tupO args.pos)).push (PySem.WX.bareO C hp.objs.size)).get? (hp.objs.size + 1) = some (PySem.WX.bareO C hp.objs.size) := by heap_get
  have notK : K.lookup (hp.objs.size + 1) = none := by
    cases e : K.lookup (hp.objs.size + 1) with
    | none => rfl
    | some o => exact absurd (Nat.lt_of_succ_lt (Heap.lt_size (kin _ _ e))) (Nat.lt_irrefl _)
  refine PySem.WX.callKw (pos := args.pos) (kw := args.kw) FB same atC (PySem.W.looks_findIn kin J.iC) (fun self => PySem.W.bind_fn kin self J.tC) one ?_
  refine xinit (s := ⟨(hp.push (PySem.WX.tupO args.pos)).push (PySem.WX.bareO C hp.objs.size), g, dr, tk, os⟩) (v := v) SF T J N (kin.keeps up) (lim.keeps up) atX notK (show A.depth + 1 < recursionLimit from room) ?_ fun h' tk' dx k n1 n2 ox nx => ?_
  · rcases ha with rfl | rfl
    · exact .inl rfl
    · exact .inr rfl
  · have big : hp.objs.size + 1 + 1 ≤ dx := by
      first
        | (simpa only [Heap.size_push] using n1)
        | exact n1
    exact ⟨rfl, fin h' tk' (hp.objs.size + 1) dx ⟨fun b o e => k b o (Nat.ne_of_lt (Nat.lt_succ_of_lt (Heap.lt_size e))) (up b o e), Nat.le_succ _, Nat.le_trans (Nat.le_trans (Nat.le_succ _) (Nat.le_succ _)) big, fun z => n2 z.symm, ⟨_, ox⟩, nx⟩⟩
end
end L2
namespace L2
open PySem PySem.Spec PyProof.Rows
section
variable {X : Cx} {C fI : Addr} {f : Str} {B newId initId : String} {bmB : List Value} {pins : List (Addr × Obj)} {σ : St} {H : Hp} {s : Shared}
/-- the reading of C(e), C(f = e) -/
def tXc (f : Str) (C : Addr) (te : TE) : TE := fun σ H Q => te σ H fun v H1 => ∀ a d, H1 a = none → H1 d = none → a ≠ d → Q (.ref a) (upd (upd H1 d (exd d [(f, v)])) a (exo a C (some d)))
theorem run_xc (FB : ExcBaseFacts B newId initId bmB) (SF : StoreFacts B bmB "object.__setattr__" "object") (T : XCl X.K C newId bmB) (J : XIn X.K C fI f) (N : FName f) {k : Nat} (hr : Room k X.A) (hk : 1 ≤ k) {us : List Value} {kw : List (Str × Value)} {x : V} {u : Value} {Q : VK}
    (I : Inv X pins σ H s) (r : RelV x u) (ha : (us = [u] ∧ kw = []) ∨ (us = [] ∧ kw = [(f, u)])) (h : ∀ a d, H a = none → H d = none → a ≠ d → Q (.ref a) (upd (upd H d (exd d [(f, x)])) a (exo a C (some d)))) :
    wpAny (model X.prog X.w) X.A (call (.ref C) us kw) (EP X pins σ Q) X.xe s := by
  have lim := I.nolimit
  have rm : X.A.depth + 1 < recursionLimit := by have := hr.dp; omega
  obtain ⟨hp, g, dr, tk, os⟩ := s
  refine wpAny_call (xmade FB SF T J N (v := u) I.kIn lim rm (by rcases ha with ⟨rfl, rfl⟩ | ⟨rfl, rfl⟩ <;> first | exact .inl rfl | exact .inr rfl) fun h' tk' e d M => ?_)
  obtain ⟨tp, ox⟩ := M.obj
  have nd : H d = none := I.hok.fresh M.dbig
  have rel : ∀ g, RelO (([(f, x)] : List (Str × V)).lookup g) (if g = f then some u else none) := relO_put (fs := []) (mA := fun _ => none) r fun g => True.intro
  have J2 : Inv X pins σ (upd (upd H d (exd d [(f, x)])) e (exo e C (some d))) ⟨h', g, dr, tk', os⟩ := I.twoNew (t' := tk') M.keep M.big M.dbig M.ne (exo_ok ox) (exd_ok M.ns rel)
  exact ⟨.ref e, _, J2, rfl, h e d (I.hok.fresh M.big) nd M.ne⟩
variable {x : Str} {p pos kpos : Pos} {e : Expr} {te : TE} {k : Nat}
theorem pe_xcPos (FB : ExcBaseFacts B newId initId bmB) (SF : StoreFacts B bmB "object.__setattr__" "object") (T : XCl X.K C newId bmB) (J : XIn X.K C fI f) (N : FName f) (hr : Room k X.A) (hk : 1 ≤ k) (hg : Gl X x) (hm : X.mg x = some (.ref C)) (he : PE X e te)
    (hdb : (x == ("__debug__" : Str)) = false := by decide) (hst : starEach (e :: []) X.env = (false, eval e X.env) :: starEach [] X.env := by rfl) (hpl : (backTo pos (starEach [] X.env)).any (·.1) = false := by rfl) :
    PE X (.Call (.Name x p) [e] [] pos) (tXc f C te) := by
  refine ⟨fun pins s σ H Q I h => ?_⟩
  refine wpAny_Call_Name_kw (ld_glob I hg hm ?_ hdb)
  refine PySem.W.callWith_K (h₀ := X.base) I.ok.mod.kin T.kp (thn ((pa_cons he pa_nil hst).run pos pins s σ H (fun vs H1 => ∃ v, vs = [v] ∧ ∀ a d, H1 a = none → H1 d = none → a ≠ d → Q (.ref a) (upd (upd H1 d (exd d [(f, v)])) a (exo a C (some d)))) I ?_) fun us s1 hh => ?_) hst hpl
  · show te σ H _
    exact (show te σ H (fun v H1 => ∃ w, [v] = [w] ∧ _) from by
      have : (fun v H1 => ∃ w, [v] = [w] ∧ ∀ a d, H1 a = none → H1 d = none → a ≠ d → Q (.ref a) (upd (upd H1 d (exd d [(f, w)])) a (exo a C (some d)))) = fun v H1 => ∀ a d, H1 a = none → H1 d = none → a ≠ d → Q (.ref a) (upd (upd H1 d (exd d [(f, v)])) a (exo a C (some d))) := by
        funext v H1
        simp
      rw [this]
      exact h)
  · obtain ⟨vs, H1, I1, r1, v, ev, q1⟩ := hh
    subst ev
    obtain ⟨u, rfl, ru⟩ := vals1 r1
    exact ⟨I1.kIn, run_xc FB SF T J N hr hk I1 ru (.inl ⟨rfl, rfl⟩) q1⟩
theorem pe_xcKw (FB : ExcBaseFacts B newId initId bmB) (SF : StoreFacts B bmB "object.__setattr__" "object") (T : XCl X.K C newId bmB) (J : XIn X.K C fI f) (N : FName f) (hr : Room k X.A) (hk : 1 ≤ k) (hg : Gl X x) (hm : X.mg x = some (.ref C)) (he : PE X e te)
    (hall : (backToKw pos (keywordEach [⟨some f, e, kpos⟩] X.env)).all (·.1.isSome) = true := by rfl) (hks : (backToKw pos (keywordEach [⟨some f, e, kpos⟩] X.env)).filterMap (·.1) = [f] := by rfl) (hdb : (x == ("__debug__" : Str)) = false := by decide)
    (hpl : ((backTo pos (starEach [] X.env)).any (·.1) || (backToKw pos (keywordEach [⟨some f, e, kpos⟩] X.env)).any (·.1.isNone)) = false := by rfl) :
    PE X (.Call (.Name x p) [] [⟨some f, e, kpos⟩] pos) (tXc f C te) := by
  refine ⟨fun pins s σ H Q I h => ?_⟩
  refine wpAny_Call_Name_kw (ld_glob I hg hm ?_ hdb)
  refine PySem.W.callWith_KW0 (h₀ := X.base) I.ok.mod.kin T.kp hall ?_ hpl
  refine thn ((pk_cons (nm := some f) (kpos := kpos) he pk_nil).run pos pins s σ H (fun vs H1 => ∃ v, vs = [v] ∧ ∀ a d, H1 a = none → H1 d = none → a ≠ d → Q (.ref a) (upd (upd H1 d (exd d [(f, v)])) a (exo a C (some d)))) I ?_) fun ws s1 hh => ?_
  · show te σ H (fun v H1 => ∃ w, [v] = [w] ∧ ∀ a d, H1 a = none → H1 d = none → a ≠ d → Q (.ref a) (upd (upd H1 d (exd d [(f, w)])) a (exo a C (some d))))
    have : (fun v H1 => ∃ w, [v] = [w] ∧ ∀ a d, H1 a = none → H1 d = none → a ≠ d → Q (.ref a) (upd (upd H1 d (exd d [(f, w)])) a (exo a C (some d)))) = fun v H1 => ∀ a d, H1 a = none → H1 d = none → a ≠ d → Q (.ref a) (upd (upd H1 d (exd d [(f, v)])) a (exo a C (some d))) := by
      funext v H1
      simp
    rw [this]
    exact h
  · obtain ⟨vs, H1, I1, r1, v, ev, q1⟩ := hh
    subst ev
    obtain ⟨u, rfl, ru⟩ := vals1 r1
    refine ⟨I1.kIn, ?_⟩
    rw [hks]
    exact run_xc FB SF T J N hr hk I1 ru (.inr ⟨rfl, rfl⟩) q1
end
end L2
namespace L2
open PySem PySem.Spec PyProof.Rows
/-! ### __init__(self): pass -/
def a0 (p1 : Pos) : Arguments := { posonlyargs := [], args := [{ arg := "self", annotation := none, pos := p1 }], vararg := none, kwonlyargs := [], kw_defaults := [], kwarg := none, defaults := [] }
def s0 : Scope := { kind := .function, names := [(PySem.Str.ofString "self", .local)], isGenerator := false, isCoroutine := false, more := [] }
structure XIn0 (K : PySem.W.Frag) (C fI : Addr) : Prop where
  iC : PySem.W.findIn K (.ref C) "__init__" = some (some (.ref fI))
  tC : PySem.W.typeIn K (.ref fI) = some (.type "function")
  fn : ∃ (q : Str) (oc : Value) (od : Option Addr) (kV doc pm : Value) (an : Option Addr) (cdv ct : Value) (osl : Array (Option Value)) (p1 q1 : Pos),
    K.lookup fI = some ⟨oc, od, .func (PySem.W.fnOf "__init__" q (a0 p1) [.Pass q1] s0 .none kV doc pm an cdv ct), osl⟩ ∧ PySem.W.codeIn K cdv q = true
section
variable {X : Cx} {C fI : Addr} {f : Str} {B newId initId : String} {bmB : List Value} {x : Str} {p pos apos : Pos} {e : Expr} {te : TE} {k : Nat}
theorem pe_xc0 (FB : ExcBaseFacts B newId initId bmB) (T : XCl X.K C newId bmB) (J : XIn0 X.K C fI) (hr : Room k X.A) (hk : 1 ≤ k) (hg : Gl X x) (hm : X.mg x = some (.ref C)) (hdb : (x == ("__debug__" : Str)) = false := by decide) :
    PE X (.Call (.Name x p) [] [] pos) (fun _ H Q => ∀ a, H a = none → Q (.ref a) (upd H a (exo a C none))) := by
  refine ⟨fun pins s σ H Q I h => ?_⟩
  refine wpAny_Call_Name_kw (ld_glob I hg hm ?_ hdb)
  refine PySem.W.callWith_K0 I.kIn T.kp ?_
  have kin := I.kIn
  have lim := I.nolimit
  have rm : X.A.depth + 1 < recursionLimit := by have := hr.dp; omega
  obtain ⟨q, oc, od, kV, doc, pm, an, cdv, ct, osl, p1, q1, lk, cd⟩ := J.fn
  obtain ⟨nm, N', qn, bs, bm, hdct, sn, sub, ab, col, dd, k0, k1, k2, k3, k5, atC, same⟩ := PySem.W.excInit_of kin T.q
  obtain ⟨hp, g, dr, tk, os⟩ := s
  have up : ∀ b o, hp.get? b = some o → ((hp.push (PySem.WX.tupO [])).push (PySem.WX.bareO C hp.objs.size)).get? b = some o := fun b o z => Heap.get?_push_of_some _ (Heap.get?_push_of_some _ z)
  have atX : ((hp.push (PySem.WX.tupO [])).push (PySem.WX.bareO C hp.objs.size)).get? (hp.objs.size + 1) = some (PySem.WX.bareO C hp.objs.size) := by heap_get
  refine wpAny_call (PySem.WX.callKw (pos := []) (kw := []) FB same atC (PySem.W.looks_findIn kin J.iC) (fun self => PySem.W.bind_fn kin self J.tC) (Nat.zero_le _) ?_)
  refine Att.call_fn (s := ⟨(hp.push (PySem.WX.tupO [])).push (PySem.WX.bareO C hp.objs.size), g, dr, tk, os⟩) (binds := [(("self" : Str), Value.ref (hp.objs.size + 1))]) (kin.keeps up) (lim.keeps up) lk cd (show X.A.depth + 1 < recursionLimit from rm) (BindsTo.of_eq rfl) rfl (fun s₁ IC => ?_) rfl rfl rfl
  obtain ⟨h₁, tk₁, rfl⟩ := IC.toInCall.same
  have up1 := IC.toInCall.keep
  refine wpAny_execs_cons (wpAny_Pass (wpAny_execs_nil ?_))
  refine ⟨rfl, ?_⟩
  have big : hp.objs.size ≤ hp.objs.size + 1 := Nat.le_succ _
  have J2 : Inv X pins σ (upd H (hp.objs.size + 1) (exo (hp.objs.size + 1) C none)) ⟨h₁, g, dr, tk₁, os⟩ := I.laid (t' := tk₁) (fun b o z => up1 b o (up b o z)) big (exo_ok (up1 _ _ atX))
  exact ⟨.ref (hp.objs.size + 1), _, J2, rfl, h _ (I.hok.fresh big)⟩
/-- e.f of such an exception -/
def tXfl (K : PySem.W.Frag) (newId : String) (bmB : List Value) (f : Str) (te : TE) : TE := fun σ H Q => te σ H fun v H1 => ∃ (a C d : Addr) (fs : List (Str × V)) (y : V), v = .ref a ∧ H1 a = some (exo a C (some d)) ∧ H1 d = some (exd d fs) ∧ fs.lookup f = some y ∧
  XCl K C newId bmB ∧ PySem.W.findIn K (.ref C) f = some none ∧ Q y H1
theorem pe_xfl (he : PE X e te) (hb : attributeBase e f X.env (eval e X.env) = eval e X.env := by rfl) : PE X (.Attribute e f apos) (tXfl X.K newId bmB f te) := by
  refine ⟨fun pins s σ H Q I h => attr_of hb (thn (he.run pins s σ H _ I h) fun u s1 hh => ?_)⟩
  obtain ⟨v, H1, I1, rv, a, C, d, fs, y, rfl, ea, ed, lf, T, nf, q⟩ := hh
  obtain rfl : u = Value.ref a := rv
  obtain ⟨t1, ho⟩ := exo_at I1.hok ea
  obtain ⟨mA, ns, rel⟩ := exd_at I1.hok ed
  obtain ⟨od, hod, look⟩ := lookIn_ns ns
  obtain ⟨w0, hw, rw0⟩ := RelO.some_of (v := y) (o := mA f) (by rw [← lf]; exact rel f)
  have J : PySem.W.InstAt s1.heap a { cls := .ref C, dict := some d, data := .fields #[.ref t1, .none, .none, .none, .bool false, .none] } C (some od) := ⟨ho, rfl, rfl, hod⟩
  exact PySem.PX.exc_get I1.kIn J T.ga T.gg T.xb (PySem.W.findObj_own T.hd nf rfl (by rw [look, hw])) (handed_of rw0) ⟨y, H1, I1.tok _, rw0, q⟩
/-- isinstance of such an exception: one class, a written tuple of classes -/
def rIsX (K : PySem.W.Frag) (newId : String) (bmB : List Value) : List V → Hp → VK → Prop := fun xs H Q => ∃ (a C : Addr) (d : Option Addr) (c : V) (u : Value) (b : Bool), xs = [.ref a, c] ∧ H a = some (exo a C d) ∧ (∀ d', d = some d' → ∃ fs, H d' = some (exd d' fs)) ∧
  XCl K C newId bmB ∧ ClsV c u ∧ PySem.W.kitOne K (.ref C) u = some b ∧ Q (.bl b) H
def rIsXT (K : PySem.W.Frag) (newId : String) (bmB : List Value) : List V → Hp → VK → Prop := fun xs H Q => ∃ (a C tp : Addr) (d : Option Addr) (cs : List V) (us : List Value) (b : Bool), xs = [.ref a, .ref tp] ∧ H a = some (exo a C d) ∧ (∀ d', d = some d' → ∃ fs, H d' = some (exd d' fs)) ∧
  XCl K C newId bmB ∧ H tp = some (.tup cs) ∧ Paired ClsV cs us ∧ PySem.W.kitAny K (.ref C) us = some b ∧ Q (.bl b) H
theorem kitE {pins : List (Addr × Obj)} {σ : St} {H : Hp} {s : Shared} {a : Addr} {d : Option Addr} (I : Inv X pins σ H s) (ea : H a = some (exo a C d)) (hd : ∀ d', d = some d' → ∃ fs, H d' = some (exd d' fs)) (T : XCl X.K C newId bmB) :
    ∃ P : Heap → Prop, PySem.W.KitX X.K (.ref a) (.ref C) P ∧ P s.heap := by
  obtain ⟨t1, ho⟩ := exo_at I.hok ea
  have cl : (PySem.W.clsIn X.K C).isSome = true := T.ic
  cases d with
  | none => exact ⟨_, PySem.W.kitx_exc (od := none) cl T.ga T.gg T.xb T.ca T.sg T.tk T.mo, ⟨ho, rfl, rfl, trivial⟩⟩
  | some d =>
    obtain ⟨fs, ed⟩ := hd d rfl
    obtain ⟨mA, ns, rel⟩ := exd_at I.hok ed
    obtain ⟨od, hod, look⟩ := lookIn_ns ns
    exact ⟨_, PySem.W.kitx_exc (od := some od) cl T.ga T.gg T.xb T.ca T.sg T.tk T.mo, ⟨ho, rfl, rfl, hod⟩⟩
theorem call_isX : CallR X (.builtin "isinstance") (rIsX X.K newId bmB) := by
  intro pins s σ H xs us Q I r h
  obtain ⟨a, C, d, c, u, b, rfl, ea, hd, T, kc, kt, q⟩ := h
  obtain ⟨u1, u2, rfl, r1, r2⟩ := vals2 r
  obtain rfl : u1 = Value.ref a := r1
  obtain rfl : u2 = u := kc.eq r2
  obtain ⟨P, Z, pr⟩ := kitE I ea hd T
  exact PySem.W.kia_one Z I.kIn pr kt (fun z => nomatch z) fun tk => ⟨.bl b, H, I.tok tk, rfl, q⟩
theorem call_isXT : CallR X (.builtin "isinstance") (rIsXT X.K newId bmB) := by
  intro pins s σ H xs us Q I r h
  obtain ⟨a, C, tp, d, cs, ws, b, rfl, ea, hd, T, hT, kc, kt, q⟩ := h
  obtain ⟨u1, u2, rfl, r1, r2⟩ := vals2 r
  obtain rfl : u1 = Value.ref a := r1
  obtain rfl : u2 = Value.ref tp := r2
  obtain ⟨P, Z, pr⟩ := kitE I ea hd T
  obtain ⟨_, its, rv, o, h1, h2, n, h3⟩ := (show ObjOk X.prog X.w H s.heap tp (.tup cs) from I.hok tp _ hT)
  obtain rfl := ClsV.all kc rv
  obtain ⟨oc, od, dt, sl⟩ := o
  simp only at h2 h3
  subst h2 h3
  exact PySem.W.kia_tup Z I.kIn pr h1 kt (fun z => nomatch z) fun tk => ⟨.bl b, H, I.tok tk, rfl, q⟩
end
end L2
/-! new objects told by what stands: the old ones, and the new one -/
namespace L2
open PySem PySem.Spec PyProof.Rows
/-- a new object o at p, all others as they were -/
abbrev NewO (H : Hp) (o : HO) (Q : VK) : Prop := ∀ p H', Same H H' → H p = none → H' p = some o → Q (.ref p) H'
theorem Same.new {H : Hp} {p : Addr} {o : HO} (h : H p = none) : Same H (upd H p o) := fun b u e => by rw [upd_ne (ne_of_none e h)]; exact e
theorem NewO.at {H : Hp} {o : HO} {Q : VK} (h : NewO H o Q) : ∀ p, H p = none → Q (.ref p) (upd H p o) := fun p n => h p _ (Same.new n) n upd_same
section
variable {X : Cx} {f : Value → Value → Sem Value} {r r' : R2}
theorem OpR.imp (h : OpR X f r) (w : ∀ x y H Q, r' x y H Q → r x y H Q) : OpR X f r' := fun pins s σ H x y v u Q I rx ry z => h pins s σ H x y v u Q I rx ry (w _ _ _ _ z)
variable {g : Value} {q q' : List V → Hp → VK → Prop}
theorem CallR.imp (h : CallR X g q) (w : ∀ xs H Q, q' xs H Q → q xs H Q) : CallR X g q' := fun pins s σ H xs us Q I r z => h pins s σ H xs us Q I r (w _ _ _ z)
def rCatM : R2 := fun x y H Q => ∃ l b xs zs, x = .ref l ∧ y = .ref b ∧ H l = some (.lst xs) ∧ H b = some (.lst zs) ∧ xs.length + zs.length ≤ sizeLine ∧ NewO H (.lst (xs ++ zs)) Q
theorem op_catM : OpR X (binaryOp .Add) rCatM := op_cat.imp fun x y H Q ⟨l, b, xs, zs, a1, a2, a3, a4, a5, k⟩ => ⟨l, b, xs, zs, a1, a2, a3, a4, a5, k.at⟩
def rRepM : R2 := fun x y H Q => ∃ l k xs, x = .ref l ∧ y = .int k ∧ H l = some (.lst xs) ∧ -(2 ^ 63) ≤ k ∧ k < 2 ^ 63 ∧ xs.length * k.toNat ≤ sizeLine ∧ NewO H (.lst (List.replicate k.toNat xs).flatten) Q
theorem op_repM : OpR X (binaryOp .Mult) rRepM := op_rep.imp fun x y H Q ⟨l, k, xs, a1, a2, a3, a4, a5, a6, q⟩ => ⟨l, k, xs, a1, a2, a3, a4, a5, a6, q.at⟩
end
section
variable {X : Cx} {e : Expr} {es : List Expr} {te : TE} {t : TA} {pos : Pos}
def tTupM (t : TA) : TE := fun σ H Q => t σ H fun xs H1 => xs.length ≤ sizeLine ∧ NewO H1 (.tup xs) Q
def tLstM (t : TA) : TE := fun σ H Q => t σ H fun xs H1 => xs.length ≤ sizeLine ∧ NewO H1 (.lst xs) Q
theorem pe_tupM {x1} (h : PA X es t) : PE X (.Tuple es x1 pos) (tTupM t) := by
  refine ⟨fun pins s σ H Q I hq => wpAny_Tuple_spliced (thn (h.run pos pins s σ H _ I hq) fun us s1 ⟨xs, H1, I1, r, few, q⟩ => ⟨by rw [← r.length]; exact few, ?_⟩)⟩
  exact ⟨.ref s1.heap.objs.size, _, I1.laid (o := .tup xs) (t' := s1.toks) (fun b u z => Heap.get?_push_of_some _ z) (Nat.le_refl _) ⟨few, us, r, ⟨_, Heap.get?_push_size _ rfl, rfl, _, rfl⟩⟩, rfl, q.at _ (I1.hok.fresh (Nat.le_refl _))⟩
theorem pe_lstM (h : PA X es t) : PE X (.List es pos) (tLstM t) := by
  refine ⟨fun pins s σ H Q I hq => wpAny_List_spliced (thn (h.run pos pins s σ H _ I hq) fun us s1 ⟨xs, H1, I1, r, few, q⟩ => ⟨by rw [← r.length]; exact few, ?_⟩)⟩
  exact ⟨.ref s1.heap.objs.size, _, I1.laid (o := .lst xs) (t' := s1.toks) (fun b u z => Heap.get?_push_of_some _ z) (Nat.le_refl _) ⟨few, us, 0, r, Heap.get?_push_size _ rfl⟩, rfl, q.at _ (I1.hok.fresh (Nat.le_refl _))⟩
end
section
variable {X : Cx} {C fI : Addr} {f : Str} {B newId initId : String} {bmB : List Value} {x : Str} {p pos apos kpos : Pos} {e : Expr} {te : TE} {k : Nat}
/-- C(e) of an own error class: the new object and its dict -/
def tXcM (f : Str) (C : Addr) (te : TE) : TE := fun σ H Q => te σ H fun v H1 => ∀ a d H', Same H1 H' → H1 a = none → H' a = some (exo a C (some d)) → H' d = some (exd d [(f, v)]) → Q (.ref a) H'
theorem xcM {H1 : Hp} {v : V} {f : Str} {C : Addr} {Q : VK} (h : ∀ a d H', Same H1 H' → H1 a = none → H' a = some (exo a C (some d)) → H' d = some (exd d [(f, v)]) → Q (.ref a) H') : ∀ a d, H1 a = none → H1 d = none → a ≠ d → Q (.ref a) (upd (upd H1 d (exd d [(f, v)])) a (exo a C (some d))) := fun a d na nd ne =>
  h a d _ (fun b o z => by rw [upd_ne (ne_of_none z na), upd_ne (ne_of_none z nd)]; exact z) na upd_same (by rw [upd_ne ne.symm, upd_same])
theorem pe_xcPosM (FB : ExcBaseFacts B newId initId bmB) (SF : StoreFacts B bmB "object.__setattr__" "object") (T : XCl X.K C newId bmB) (J : XIn X.K C fI f) (N : FName f) (hr : Room k X.A) (hk : 1 ≤ k) (hm : X.mg x = some (.ref C)) (he : PE X e te) (hg : Gl X x := by rfl)
    (hdb : (x == ("__debug__" : Str)) = false := by decide) (hst : starEach (e :: []) X.env = (false, eval e X.env) :: starEach [] X.env := by rfl) (hpl : (backTo pos (starEach [] X.env)).any (·.1) = false := by rfl) :
    PE X (.Call (.Name x p) [e] [] pos) (tXcM f C te) := by
  refine ⟨fun pins s σ H Q I h => wpAny_Call_Name_kw (ld_glob I hg hm ?_ hdb)⟩
  refine PySem.W.callWith_K (h₀ := X.base) I.ok.mod.kin T.kp ?_ hst hpl
  have one : PA X [e] (fun σ H Q => te σ H fun v H1 => Q [v] H1) := pa_cons he pa_nil hst
  refine thn (one.run pos pins s σ H (fun vs H1 => ∃ v, vs = [v] ∧ ∀ a d H', Same H1 H' → H1 a = none → H' a = some (exo a C (some d)) → H' d = some (exd d [(f, v)]) → Q (.ref a) H') I ?_) fun us s1 hh => ?_
  · have same : (fun (v : V) (H1 : Hp) => ∃ w, [v] = [w] ∧ ∀ a d H', Same H1 H' → H1 a = none → H' a = some (exo a C (some d)) → H' d = some (exd d [(f, w)]) → Q (.ref a) H') = fun v H1 => ∀ a d H', Same H1 H' → H1 a = none → H' a = some (exo a C (some d)) → H' d = some (exd d [(f, v)]) → Q (.ref a) H' := by
      funext v H1
      simp
    show te σ H _
    rw [same]
    exact h
  · obtain ⟨vs, H1, I1, r1, v, rfl, q1⟩ := hh
    obtain ⟨u, rfl, ru⟩ := vals1 r1
    exact ⟨I1.kIn, run_xc FB SF T J N hr hk I1 ru (.inl ⟨rfl, rfl⟩) (xcM q1)⟩
theorem pe_xcKwM (FB : ExcBaseFacts B newId initId bmB) (SF : StoreFacts B bmB "object.__setattr__" "object") (T : XCl X.K C newId bmB) (J : XIn X.K C fI f) (N : FName f) (hr : Room k X.A) (hk : 1 ≤ k) (hm : X.mg x = some (.ref C)) (he : PE X e te) (hg : Gl X x := by rfl)
    (hall : (backToKw pos (keywordEach [⟨some f, e, kpos⟩] X.env)).all (·.1.isSome) = true := by rfl) (hks : (backToKw pos (keywordEach [⟨some f, e, kpos⟩] X.env)).filterMap (·.1) = [f] := by rfl) (hdb : (x == ("__debug__" : Str)) = false := by decide)
    (hpl : ((backTo pos (starEach [] X.env)).any (·.1) || (backToKw pos (keywordEach [⟨some f, e, kpos⟩] X.env)).any (·.1.isNone)) = false := by rfl) :
    PE X (.Call (.Name x p) [] [⟨some f, e, kpos⟩] pos) (tXcM f C te) := by
  refine ⟨fun pins s σ H Q I h => wpAny_Call_Name_kw (ld_glob I hg hm ?_ hdb)⟩
  refine PySem.W.callWith_KW0 (h₀ := X.base) I.ok.mod.kin T.kp hall ?_ hpl
  have one : PK X [⟨some f, e, kpos⟩] (fun σ H Q => te σ H fun v H1 => Q [v] H1) := pk_cons he pk_nil
  refine thn (one.run pos pins s σ H (fun vs H1 => ∃ v, vs = [v] ∧ ∀ a d H', Same H1 H' → H1 a = none → H' a = some (exo a C (some d)) → H' d = some (exd d [(f, v)]) → Q (.ref a) H') I ?_) fun ws s1 hh => ?_
  · have same : (fun (v : V) (H1 : Hp) => ∃ w, [v] = [w] ∧ ∀ a d H', Same H1 H' → H1 a = none → H' a = some (exo a C (some d)) → H' d = some (exd d [(f, w)]) → Q (.ref a) H') = fun v H1 => ∀ a d H', Same H1 H' → H1 a = none → H' a = some (exo a C (some d)) → H' d = some (exd d [(f, v)]) → Q (.ref a) H' := by
      funext v H1
      simp
    show te σ H _
    rw [same]
    exact h
  · obtain ⟨vs, H1, I1, r1, v, rfl, q1⟩ := hh
    obtain ⟨u, rfl, ru⟩ := vals1 r1
    refine ⟨I1.kIn, ?_⟩
    rw [hks]
    exact run_xc FB SF T J N hr hk I1 ru (.inr ⟨rfl, rfl⟩) (xcM q1)
end
end L2
namespace L2
open PySem PySem.Spec PyProof.Rows
/-- isinstance of an own error, whatever its built-in base -/
def rIsE (K : PySem.W.Frag) : List V → Hp → VK → Prop := fun xs H Q => ∃ (n : String) (b : List Value), rIsX K n b xs H Q
def rIsET (K : PySem.W.Frag) : List V → Hp → VK → Prop := fun xs H Q => ∃ (n : String) (b : List Value), rIsXT K n b xs H Q
theorem call_isE' {X : Cx} : CallR X (.builtin "isinstance") (rIsE X.K) := fun pins s σ H xs us Q I r h => h.elim fun n h => h.elim fun b h => call_isX (newId := n) (bmB := b) pins s σ H xs us Q I r h
theorem call_isET {X : Cx} : CallR X (.builtin "isinstance") (rIsET X.K) := fun pins s σ H xs us Q I r h => h.elim fun n h => h.elim fun b h => call_isXT (newId := n) (bmB := b) pins s σ H xs us Q I r h
end L2
namespace L2
open PySem PySem.Spec PyProof.Rows
/-- {} -/
def tDNewM : TE := fun _ H Q => NewO H (.dK []) Q
theorem pe_dnewM {X : Cx} {pos : Pos} : PE X (.Dict [] [] pos) tDNewM := ⟨fun pins s σ H Q I h =>
  (pe_dnewK (X := X) (pos := pos)).run pins s σ H Q I h.at⟩
theorem Same.sqT {K : PySem.W.Frag} {H H' : Hp} {a : Addr} {xs : List V} (e : Same H H') (h : SqT K H a xs) : SqT K H' a xs := by
  rcases h with (h | ⟨o, h⟩) | h
  · exact .inl (.inl (e _ _ h))
  · exact .inl (.inr ⟨o, e _ _ h⟩)
  · exact .inr h
end L2
/-! a, .., *rest = a tuple -/
namespace L2
open PySem PySem.Spec PyProof.Rows PySem.W PySem.Calls
section
variable {X : Cx} {pos : Pos}
/-- (a, .., *r) = a tuple of k values or more: the rest as a new list -/
def gRest (K : PySem.W.Frag) (k : Nat) (t : TGs) : TG := fun v σ H Q => ∃ a xs, v = .ref a ∧ SqT K H a xs ∧ k ≤ xs.length ∧ ∀ p H', Same H H' → H p = none → H' p = some (.lst (xs.drop k)) → t (xs.take k ++ [.ref p]) σ H' Q
theorem pgs_rest {e : Expr} {q : Pos} {es : List Expr} {t : TG} {u : TGs} (h1 : PG X e t) (h2 : PGs X es u)
    (hs : (assignEach (.Starred e q :: es) X.env).map (·.2) = assign e X.env :: (assignEach es X.env).map (·.2) := by rfl) : PGs X (.Starred e q :: es) (gCons t u) := by
  refine ⟨fun pins s σ H vs us Q I r h => ?_⟩
  obtain ⟨v, vr, e1, h⟩ := h
  subst e1
  cases r with
  | cons r rr =>
    rw [hs]
    refine assignInOrder_cons (thn (h1.run pins s σ H _ _ _ I r h) fun _ s1 ⟨σ1, H1, I1, q1⟩ => ?_)
    exact h2.run pins s1 σ1 H1 _ _ Q I1 rr q1
theorem pg_rest {es : List Expr} {m k : Nat} {t : TGs} (hc : X.calm = true) (h : PGs X es t)
    (hn : (assignEach es X.env).length = k + 1 := by rfl) (hst : (assignEach es X.env).findIdx? (·.1) = some k := by rfl) : PG X (.Tuple es m pos) (gRest X.K k t) := by
  refine ⟨fun pins s σ H v u Q I r hw => ?_⟩
  obtain ⟨l, xs, rfl, hq, hk, hw⟩ := hw
  cases r
  obtain ⟨its, rv, hl, hz⟩ := I.tuple hq
  have len := rv.length
  have few : its.toArray.size ≤ sizeLine := by simpa [← len] using hz
  have hki : k ≤ its.toArray.size := by simpa [← len] using hk
  rw [assign_Tuple]
  refine wpAny_bind (wpAny_standAt ?_)
  unfold unpack
  rw [hn, hst]
  refine wpAny_bind (wpAny_holding ?_)
  have hlt : l ≠ s.heap.objs.size := by obtain ⟨o, ho, _⟩ := hl; exact Nat.ne_of_lt (Heap.lt_size ho)
  unfold unpackItems
  refine wpAny_bind ?_
  unfold notIterableAtAll
  refine wpAny_bind (wpAny_specialOf hl.typeIs slot_tuple_iter.lookup ?_)
  refine wpAny_pure ?_
  simp only [Bool.false_eq_true, if_false]
  refine wpAny_bind (wpAny_holding (iter_tuple hl ?_))
  refine wpAny_bind (wpAny_holding (draw_tuple hlt k 0 _ _ ⟨_, Heap.get?_push_size _ rfl, rfl, rfl⟩ (hl.push _) (by omega) fun h₁ hit₁ hs₁ => ?_))
  have hl₁ : IsTup h₁ l its.toArray := (hl.push _).extBut hs₁.extBut hlt
  rw [Nat.zero_add] at hit₁
  obtain ⟨oi, hoi, _⟩ := id hit₁
  obtain ⟨ol, hol, _⟩ := id hl₁
  rw [List.drop_zero]
  have hfl : (its.toArray.toList.take k).length = k := by rw [List.length_take, Array.length_toList]; omega
  rw [if_neg (show ¬ ((its.toArray.toList.take k).length < k) by rw [hfl]; omega)]
  refine wpAny_bind (wpAny_holding (kun_collect (s := { s with heap := h₁ }) (T := "tuple_iterator") (.inr (.inr (.inr rfl))) (Walks.tuple (A := X.A.in1) (I.ok.hd hc) s.heap.objs.size l hlt its.toArray) (fun j u st => st.1.typeIs) (k := k) (by omega) ⟨hit₁, hl₁⟩ (Heap.lt_size hoi) (Heap.lt_size hol) (fun h₂ tk hk2 => ?_) few))
  have z0 : k + 1 - 1 - k = 0 := by omega
  rw [z0]
  show wpAny _ _ (if (its.toArray.toList.drop k).length < 0 then _ else _) _ _ _
  rw [if_neg (by omega)]
  show wpAny _ _ (newList ((its.toArray.toList.drop k).take ((its.toArray.toList.drop k).length - 0)) >>= fun d => pure (its.toArray.toList.take k ++ [d] ++ (its.toArray.toList.drop k).drop ((its.toArray.toList.drop k).length - 0))) _ _ _
  have e1 : (its.toArray.toList.drop k).take ((its.toArray.toList.drop k).length - 0) = its.drop k := by rw [Nat.sub_zero, List.take_length]
  have e2 : its.toArray.toList.take k ++ [Value.ref h₂.objs.size] ++ (its.toArray.toList.drop k).drop ((its.toArray.toList.drop k).length - 0) = its.take k ++ [Value.ref h₂.objs.size] := by rw [Nat.sub_zero, List.drop_length, List.append_nil]
  rw [e1]
  have I1 : Inv X pins σ H { s with heap := h₂, toks := tk } := I.kept (t' := tk) fun b o e => hk2 b o (Nat.ne_of_lt (Heap.lt_size e)) (hs₁.extBut b o (Nat.ne_of_lt (Heap.lt_size e)) (Heap.get?_push_of_some _ e))
  have szd : (xs.drop k).length ≤ sizeLine := by rw [List.length_drop]; omega
  refine wpAny_bind (wpAny_newList (wpAny_pure ?_))
  show wpAny _ _ (assignInOrder _ (its.toArray.toList.take k ++ [Value.ref h₂.objs.size] ++ (its.toArray.toList.drop k).drop ((its.toArray.toList.drop k).length - 0))) _ _ _
  rw [e2]
  have I2 := I1.lnew (t' := tk) (rv.drop k) szd
  exact h.run pins _ σ _ _ _ Q I2 ((rv.take k).append (.cons (show RelV (.ref h₂.objs.size) (.ref h₂.objs.size) from rfl) .nil)) (hw _ _ (Same.new I1.fresh) I1.fresh upd_same)
end
end L2
/-! a def's promise where nothing is being shown (repr) around it -/
namespace L2
open PySem PySem.Spec PyProof.Rows
structure FnG (P : Program) (w : World) (K : PySem.W.Frag) (mg : Str → Option Value) (base : Heap) (CX : CXT) (k : Nat) (f : Addr) (fd : FuncData) (ps : List Str) (sp : Sp) : Prop where
  len : ∀ vs H Q E, sp vs H Q E → vs.length = ps.length
  run : ∀ (A : Around) (outer : List Env) (s : Shared) (H : Hp) (args : Args) (us : List Value) (vs : List V) (Q : VK) (E : XK), A.guards = some [] → Room k A → Env0 P w K mg base A outer s H → BindsTo s fd args (ps.zip us) → Vals vs us →
    sp vs H Q E → codeAny (model P w) A (.call (.ref f) args) (CR CX outer P w H s Q E) s
section
variable {P : Program} {w : World} {K : PySem.W.Frag} {mg : Str → Option Value} {base : Heap} {CX : CXT} {k : Nat} {f : Addr} {fd : FuncData} {ps : List Str} {sp : Sp}
theorem FnOk.toG (F : FnOk P w K mg base CX k f fd ps sp) : FnG P w K mg base CX k f fd ps sp := ⟨F.len, fun A o s H a us vs Q E _ => F.run A o s H a us vs Q E⟩
theorem FnG.mono {j : Nat} (F : FnG P w K mg base CX j f fd ps sp) (h : j ≤ k) : FnG P w K mg base CX k f fd ps sp := ⟨F.len, fun A o s H a us vs Q E g r => F.run A o s H a us vs Q E g (r.mono h)⟩
/-- THE RULE, with the word that no repr is under way -/
theorem fnG_of {name qual : Str} {params : Arguments} {body : List Stmt} {scope : Scope} {dV kV doc pm cdv ct oc : Value} {an od : Option Addr} {osl : Array (Option Value)} {N : List Str}
    (lk : K.lookup f = some ⟨oc, od, .func (PySem.W.fnOf name qual params body scope dV kV doc pm an cdv ct), osl⟩) (cdo : PySem.W.codeIn K cdv qual = true) (S : FnScope N ps scope) (len : ∀ vs H Q E, sp vs H Q E → vs.length = ps.length)
    (hb : ∀ (A : Around) (outer : List Env) (s : Shared) (H : Hp) (vs : List V) (Q : VK) (E : XK), A.guards = some [] → Room k (A.deeper (envOfC qual scope s.heap.objs.size f cdv)) → sp vs H Q E →
      ∃ t, PSs (cxOf CX P w K mg base N qual scope f cdv A outer s H E) body t ∧ t { nx := fun _ H' => Q .non H', rt := Q } (start N vs) H) :
    FnG P w K mg base CX (k + 1) f (PySem.W.fnOf name qual params body scope dV kV doc pm an cdv ct) ps sp := by
  refine ⟨len, fun A outer s H args us vs Q E gA room e0 bnd rv pr => ?_⟩
  have kin : K.In s.heap := e0.mod.kin.keeps fun b o z => (e0.bs b o z).1
  have noLim : s.heap.NoLimit := e0.mod.nolimit.keeps fun b o z => (e0.bs b o z).1
  refine codeAny_call_function room.depth (kin _ _ lk) rfl S.co S.gen rfl (PySem.W.codeRec_of kin cdo) (bnd _ _ _ _ (wpAny_newFunctionEnv_cells S.kind (fun y hy => ?_) fun env same s1 IC => ?_))
  · rcases S.par y.1 (List.of_mem_zip (show (y.1, y.2) ∈ ps.zip us from hy)).1 with z | z
    · exact .inl z
    · exact .inr ⟨z, PySem.W.cellsFrom_some _ _ _ (.inl z)⟩
  subst same
  obtain ⟨t, pt, rd⟩ := hb A outer s H vs Q E gA (room.deeper _) pr
  have I0 : Inv (cxOf CX P w K mg base N qual scope f cdv A outer s H E) [] (start N vs) H s1 := inv_start S room.hd e0 (len _ _ _ _ pr) rv IC
  refine ⟨noLim.keeps IC.toInCall.keep, codeAny_func (wpAny_mono (pt.run [] s1 (start N vs) H _ I0 rd) (fun fl s' z => ?_) fun e s' z => z)⟩
  cases fl with
  | ret u =>
    obtain ⟨v, σ', H', J, r2, q⟩ := z
    exact ⟨v, H', J.os, J.bare, J.base, J.hok, r2, q⟩
  | next =>
    obtain ⟨σ', H', J, q⟩ := z
    exact ⟨V.non, H', J.os, J.bare, J.base, J.hok, rfl, q⟩
  | brk => exact z.elim fun _ y => y.elim fun _ y => y.2.elim
  | cont => exact z.elim fun _ y => y.elim fun _ y => y.2.elim
theorem FunD.okG {x qual : Str} {params : Arguments} {body : List Stmt} {scope : Scope} {dvs : List V} {kws : List (Str × V)} {N : List Str} (F : FunD K x qual params body scope dvs kws f fd) (S : FnScope N ps scope) (len : ∀ vs H Q E, sp vs H Q E → vs.length = ps.length)
    (hb : ∀ (cdv : Value) (A : Around) (outer : List Env) (s : Shared) (H : Hp) (vs : List V) (Q : VK) (E : XK), A.guards = some [] → Room k (A.deeper (envOfC qual scope s.heap.objs.size f cdv)) → sp vs H Q E →
      ∃ t, PSs (cxOf CX P w K mg base N qual scope f cdv A outer s H E) body t ∧ t { nx := fun _ H' => Q .non H', rt := Q } (start N vs) H) : FnG P w K mg base CX (k + 1) f fd ps sp := by
  obtain ⟨oc, od, dV, kV, doc, pm, an, cdv, ct, osl, rfl, lk, cdo, _, _⟩ := F.ex
  exact fnG_of lk cdo S len fun A outer s H vs Q E g r p => hb cdv A outer s H vs Q E g r p
end
section
variable {X : Cx} {CX : CXT} {k : Nat} {f : Addr} {fd : FuncData} {ps : List Str} {sp : Sp} {ds : List Value} {dvs : List V} {E : XK} {x : Str} {p pos : Pos} {e : Expr} {es : List Expr} {t : TA}
/-- f(e, ..) of such a def -/
theorem pe_callG (F : FnG X.prog X.w X.K X.mg X.base CX k f fd ps sp) (gA : X.A.guards = some []) (hr : Room k X.A) (hg : Gl X x) (hm : X.mg x = some (.ref f)) (hk : PySem.W.keepIn X.K (.ref f) = true) (hb : Binds X.K fd ps ds) (hd : Vals dvs ds) (hx : Passes CX X E)
    (ha : PA X (e :: es) t) (hdb : (x == ("__debug__" : Str)) = false := by decide) (hst : starEach (e :: es) X.env = (false, eval e X.env) :: starEach es X.env := by rfl) (hpl : (backTo pos (starEach es X.env)).any (·.1) = false := by rfl) :
    PE X (.Call (.Name x p) (e :: es) [] pos) (tCall sp dvs E t) := by
  refine ⟨fun pins s σ H Q I h => wpAny_Call_Name_kw (ld_glob I hg hm ?_ hdb)⟩
  refine PySem.W.callWith_K (h₀ := X.base) I.ok.mod.kin hk (thn (ha.run pos pins s σ H _ I h) fun us s1 ⟨vs, H1, I1, r, q⟩ => ⟨I1.kIn, ?_⟩) hst hpl
  have r2 : Vals (vs ++ dvs) (us ++ ds) := r.append hd
  refine wpAny_call (codeAny_mono (F.run X.A X.stack s1 H1 ⟨us, []⟩ (us ++ ds) (vs ++ dvs) Q E gA hr I1.env0 (hb s1 us I1.kIn (by rw [← r2.length]; exact F.len _ _ _ _ q)) r2 q) fun r s' z => ?_)
  cases r with
  | error y => exact hx pins σ H1 s1 y s' I1 z
  | ok fl =>
    cases fl with
    | ret u => exact I1.after z
    | next => exact z.elim
    | brk => exact z.elim
    | cont => exact z.elim
end
/-- the script: a list that is known to the object, or one of the module's own -/
def ScrL (K : PySem.W.Frag) (H : Hp) (a : Addr) (xs : List V) : Prop :=
  (∃ o, H a = some (.frz o (.lst xs))) ∨ ∃ its : List Value, K.lookup a = some { cls := .type "list", data := .seq its.toArray } ∧ its.length ≤ sizeLine ∧ Vals xs its
theorem ScrL.seq {K : PySem.W.Frag} {H : Hp} {a : Addr} {xs : List V} (h : ScrL K H a xs) : SqL K H a xs := by
  rcases h with ⟨o, h⟩ | ⟨its, h1, h2, h3⟩
  · exact .inl (.inr ⟨o, h⟩)
  · exact .inr ⟨_, its.toArray, _, h1, rfl, rfl, rfl, by simpa using h2, by simpa using h3⟩
theorem ScrL.same {K : PySem.W.Frag} {H H' : Hp} {a : Addr} {xs : List V} (h : ScrL K H a xs) (e : ∀ b o, H b = some o → H' b = some o) : ScrL K H' a xs := by
  rcases h with ⟨o, h⟩ | h
  · exact .inl ⟨o, e _ _ h⟩
  · exact .inr h
/-- the script + [..] -/
def rCatS (K : PySem.W.Frag) : R2 := fun x y H Q => ∃ l b xs zs, x = .ref l ∧ y = .ref b ∧ ScrL K H l xs ∧ H b = some (.lst zs) ∧ xs.length + zs.length ≤ sizeLine ∧ ∀ p, H p = none → Q (.ref p) (upd H p (.lst (xs ++ zs)))
theorem op_catS {X : Cx} : OpR X (binaryOp .Add) (rCatS X.K) := by
  intro pins s σ H x y v u Q I rx ry h
  obtain ⟨l, b, xs, zs, rfl, rfl, hS, hB, few, q⟩ := h
  obtain rfl : v = Value.ref l := rx
  obtain rfl : u = Value.ref b := ry
  obtain ⟨its, n, rv, lv, at_l⟩ : ∃ (its : List Value) (n : Nat), Vals xs its ∧ xs.length = its.length ∧ s.heap.get? l = some { cls := .type "list", data := .seq its.toArray n } := by
    rcases hS with ⟨o, h⟩ | ⟨its, h1, h2, h3⟩
    · obtain ⟨_, _, its, n, r, z⟩ := (show ObjOk X.prog X.w H s.heap l (.frz o (.lst xs)) from I.hok l _ h)
      exact ⟨its, n, r, r.length, z⟩
    · exact ⟨its, _, h3, h3.length, I.kIn _ _ h1⟩
  obtain ⟨_, its2, n2, rv2, lv2, at_b⟩ := I.lstM hB
  refine PySem.P.add_list at_l at_b ?_ (by rw [List.size_toArray, List.size_toArray]; omega)
  rw [show its.toArray ++ its2.toArray = (its ++ its2).toArray by simp]
  exact ⟨.ref _, _, I.lnew (t' := s.toks) (rv.append rv2) (by rw [List.length_append]; omega), rfl, q _ I.fresh⟩
/-- the law's own call -/
theorem lawG {P : Program} {w : World} {K : PySem.W.Frag} {mg mb : Str → Option Value} {CX : CXT} {k : Nat} {fa a : Addr} {fd : FuncData} {x : Str} {sp : Sp} {s₁ : Shared} {vs : List Value} {ns : List Int}
    (kin : K.In s₁.heap) (gl : s₁.heap.Ns mainGlobals mg) (bl : s₁.heap.Ns builtinsNs mb) (bb : ∀ y : Str, y ≠ "__name__" → mb y = bootBuiltins y) (nl : s₁.heap.NoLimit) (gn : s₁.gens = #[])
    (hs : s₁.heap.get? a = some { cls := .type "list", data := .seq vs.toArray }) (hi : IntsAre vs ns) (hl : ns.length ≤ sizeLine) (hr : Room k callerA)
    (F : ∀ base : Heap, K.In base → base.Ns mainGlobals mg → FnG P w K mg base CX k fa fd [x] sp) (bnd : ∀ (s : Shared) (u : Value), BindsTo s fd ⟨[u], []⟩ [(x, u)])
    (pr : ∀ H : Hp, Only H → ScrL K H a (ns.map V.int) → sp [.ref a] H (fun v _ => v = .bl true) fun _ _ _ => False) (no : ∀ H e s', CX [] H s₁ (fun _ _ _ => False) e s' → False) :
    codeAny (model P w) callerA (.call (.ref fa) ⟨[.ref a], []⟩) (fun r s' => r = .ok (.ret (.bool true)) ∧ OldK s₁.heap s'.heap ∧ s'.os = s₁.os ∧ AllBare s'.gens) s₁ := by
  have main : ∀ H : Hp, Only H → ScrL K H a (ns.map V.int) → HOk P w H s₁.heap → (∀ b u, H b = some u → b = a ∧ K.lookup a = none) →
      codeAny (model P w) callerA (.call (.ref fa) ⟨[.ref a], []⟩) (fun r s' => r = .ok (.ret (.bool true)) ∧ OldK s₁.heap s'.heap ∧ s'.os = s₁.os ∧ AllBare s'.gens) s₁ := by
    intro H only sq ok at_a
    have toB : ∀ {b : Addr} {o : Obj}, s₁.heap.get? b = some o → H b = none → (hidT s₁.heap H).get? b = some o := fun z n => hidT_get z n
    have dictFree : ∀ {b : Addr} {o : Obj} {es : Array DictEntry} {ep : Nat}, s₁.heap.get? b = some o → o.data = .dict es ep → H b = none := fun {b o es ep} z dz => by
      cases q : H b with
      | none => rfl
      | some u =>
        obtain ⟨rfl, _⟩ := at_a b u q
        rw [hs] at z
        cases z
        exact nomatch (show Data.seq vs.toArray _ = Data.dict es ep from dz)
    have toNs : ∀ {b : Addr} {m : Str → Option Value}, s₁.heap.Ns b m → (hidT s₁.heap H).Ns b m := fun ⟨o, es, ep, z, dz, r⟩ => ⟨o, es, ep, toB z (dictFree z dz), dz, r⟩
    have kinB : K.In (hidT s₁.heap H) := fun b o z => toB (kin b o z) (by
      cases q : H b with
      | none => rfl
      | some u =>
        obtain ⟨rfl, n⟩ := at_a b u q
        rw [n] at z
        cases z)
    have M : Mod K mg (hidT s₁.heap H) := ⟨kinB, toNs gl, ⟨mb, toNs bl, bb⟩, nl.elim fun mc z => ⟨mc, toNs z.1, z.2⟩⟩
    have E0' : Env0 P w K mg (hidT s₁.heap H) callerA [] s₁ H := ⟨rfl, M, fun b o z => of_hidT z, Nat.le_of_eq (hidT_size _ _), trivial, fun b z => absurd (show b ∈ ([] : List Addr) from z) (by simp), ok, .of_eq gn⟩
    refine codeAny_mono ((F _ kinB (toNs gl)).run callerA [] s₁ H ⟨[.ref a], []⟩ [.ref a] [.ref a] _ _ rfl hr E0' (bnd s₁ (.ref a)) (.cons rfl .nil) (pr H only sq)) fun r s' z => ?_
    cases r with
    | error y => exact (no H y s' z).elim
    | ok fl =>
      cases fl with
      | next => exact z.elim
      | brk => exact z.elim
      | cont => exact z.elim
      | ret u =>
        obtain ⟨v, H', os, bare, un, ok', rv, q⟩ := z
        obtain rfl : v = .bl true := q
        obtain rfl : u = Value.bool true := rv
        refine ⟨rfl, OldK.of_keep fun b o z => ?_, os, bare⟩
        rcases only b with n | ⟨ob, xs, n⟩
        · exact un.keep b o z n (fun y => absurd (show b ∈ ([] : List Addr) from y) (by simp)) (by simp)
        · obtain ⟨e2, _⟩ := ok' b _ (un.frzs b ob _ n)
          obtain ⟨e1, _⟩ := ok b _ n
          rw [e1] at z
          cases z
          exact e2
  have lenV := hi.length
  cases kc : K.lookup a with
  | some o =>
    have z := kin a o kc
    rw [hs] at z
    cases z
    exact main (fun _ => none) (fun _ => .inl rfl) (.inr ⟨vs, kc, by rw [lenV]; exact hl, vals_ints hi⟩) (fun b u z => nomatch (show (none : Option HO) = some u from z)) fun b u z => nomatch (show (none : Option HO) = some u from z)
  | none =>
    have hH : ∀ b u, (if b = a then some (HO.frz { cls := .type "list", data := .seq vs.toArray } (.lst (ns.map V.int))) else none) = some u → b = a ∧ u = HO.frz { cls := .type "list", data := .seq vs.toArray } (.lst (ns.map V.int)) := fun b u z => by
      by_cases e : b = a
      · rw [if_pos e] at z
        exact ⟨e, (Option.some.inj z).symm⟩
      · rw [if_neg e] at z
        cases z
    refine main (fun b => if b = a then some (.frz { cls := .type "list", data := .seq vs.toArray } (.lst (ns.map V.int))) else none) (fun b => ?_) (.inl ⟨_, if_pos rfl⟩) (fun b u z => ?_) fun b u z => ⟨(hH b u z).1, kc⟩
    · by_cases e : b = a
      · exact .inr ⟨_, _, if_pos e⟩
      · exact .inl (if_neg e)
    · obtain ⟨rfl, rfl⟩ := hH b u z
      exact ⟨hs, by rw [List.length_map]; exact hl, vs, _, vals_ints hi, hs⟩
/-- the walk's end over a head by facts, for such a promise -/
theorem walkG {l : PySem.W.OpenLaw} {n k : Nat} {q : Program} {loose : List Str} {XP : (Str → Option Value) → Heap → Prop} {YP : World → Heap → Prop} {d : DefRec} {CX : CXT} {x : Str} (most : l.most = some n) (fits : n ≤ sizeLine) (nod : d.params.defaults = []) (hr : Room k callerA)
    (F : ∀ (w : World) (mg : Str → Option Value) (fa : Addr) (h : Heap), YP w h → h.Ns mainGlobals mg → mg d.name = some (.ref fa) →
      ∃ (K : PySem.W.Frag) (fd : FuncData) (sp : Sp), K.In h ∧ (∀ (s : Shared) (u : Value), BindsTo s fd ⟨[u], []⟩ [(x, u)]) ∧
        (∀ (H : Hp) (a : Addr) (ns : List Int), ns.length ≤ n → Only H → ScrL K H a (ns.map V.int) → sp [.ref a] H (fun v _ => v = .bl true) fun _ _ _ => False) ∧
        ∀ base : Heap, K.In base → base.Ns mainGlobals mg → FnG l.prog w K mg base CX k fa fd [x] sp)
    (no : ∀ (H : Hp) (s : Shared) (e : Value) (s' : Shared), CX [] H s (fun _ _ _ => False) e s' → False) : PySem.W.WalkO q loose XP YP l.row.toRowW d [] (fun f vs => PySem.call f vs) := by
  refine Att.attach_call most nod fun w s₀ s₁ mg mb fa o pm cd doc a vs ns G Y ho hd hcd hmg hobj hints hlen hg => ?_
  obtain ⟨K, fd, sp, kin, bnd, pr, fok⟩ := F w mg fa _ Y G.T.g hmg
  exact lawG kin G.T.g G.T.b G.T.builtins G.T.nolimit hg hobj hints (Nat.le_trans hlen fits) hr fok bnd (fun H o s => pr H a ns hlen o s) fun H e s' => no H s₁ e s'
end L2
namespace L2
/-- a test whose answer is known -/
theorem if_yes {b : Bool} {A B : Prop} (h : b = true) (x : A) : if b = true then A else B := by rw [if_pos h]; exact x
theorem if_no {b : Bool} {A B : Prop} (h : b = false) (x : B) : if b = true then A else B := by rw [h]; exact x
end L2
/-! a def of the module by its name: its promise, its arguments' binding, where it stands -/
namespace L2
open PySem PySem.Spec PyProof.Rows
/-- a def without defaults, as the head tells it -/
structure Has (K : PySem.W.Frag) (mg : Str → Option Value) (x : Str) (st : Stmt) : Prop where
  gl : mg x = some (.ref (He.ga K x))
  df : ∃ fd, FunD K x x (defArgs st) (defBody st) (defScope st) [] [] (He.ga K x) fd
/-- how positional arguments bind; by «fun _ _ _ _ _ _ us hl => match us, hl with | [_, _], _ => rfl» -/
def BindOk (x : Str) (st : Stmt) (ps : List Str) : Prop := ∀ (kV doc pm : Value) (an : Option Addr) (cdv ct : Value) (us : List Value), us.length = ps.length → bindArgs (PySem.W.fnOf x x (defArgs st) (defBody st) (defScope st) .none kV doc pm an cdv ct) ⟨us, []⟩ = pure (ps.zip us)
structure FnP (P : Program) (w : World) (K : PySem.W.Frag) (mg : Str → Option Value) (base : Heap) (CX : CXT) (k : Nat) (x : Str) (ps : List Str) (sp : Sp) : Prop where
  gl : mg x = some (.ref (He.ga K x))
  kp : PySem.W.keepIn K (.ref (He.ga K x)) = true
  fn : ∃ fd, FnG P w K mg base CX k (He.ga K x) fd ps sp ∧ Binds K fd ps [] ∧ ∃ oc od osl, K.lookup (He.ga K x) = some ⟨oc, od, .func fd, osl⟩
/-- the same whatever is under way -/
structure FnQ (P : Program) (w : World) (K : PySem.W.Frag) (mg : Str → Option Value) (base : Heap) (CX : CXT) (k : Nat) (x : Str) (ps : List Str) (sp : Sp) : Prop where
  gl : mg x = some (.ref (He.ga K x))
  kp : PySem.W.keepIn K (.ref (He.ga K x)) = true
  fn : ∃ fd, FnOk P w K mg base CX k (He.ga K x) fd ps sp ∧ Binds K fd ps [] ∧ ∃ oc od osl, K.lookup (He.ga K x) = some ⟨oc, od, .func fd, osl⟩
section
variable {P : Program} {w : World} {K : PySem.W.Frag} {mg : Str → Option Value} {base : Heap} {CX : CXT} {k : Nat} {x : Str} {ps : List Str} {sp : Sp} {st : Stmt} {N : List Str}
theorem lookD {q : Str} {pa : Arguments} {b : List Stmt} {sc : Scope} {dvs : List V} {kws : List (Str × V)} {f : Addr} {fd : FuncData} (F : FunD K x q pa b sc dvs kws f fd) : ∃ oc od osl, K.lookup f = some ⟨oc, od, .func fd, osl⟩ := by
  obtain ⟨oc, od, dV, kV, doc, pm, an, cdv, ct, osl, rfl, lk, _⟩ := F.ex
  exact ⟨oc, od, osl, lk⟩
theorem FnQ.toP (F : FnQ P w K mg base CX k x ps sp) : FnP P w K mg base CX k x ps sp := ⟨F.gl, F.kp, F.fn.elim fun fd h => ⟨fd, h.1.toG, h.2⟩⟩
theorem FnQ.mono {j : Nat} (F : FnQ P w K mg base CX j x ps sp) (h : j ≤ k) : FnQ P w K mg base CX k x ps sp := ⟨F.gl, F.kp, F.fn.elim fun fd z => ⟨fd, z.1.mono h, z.2⟩⟩
theorem FnP.mono {j : Nat} (F : FnP P w K mg base CX j x ps sp) (h : j ≤ k) : FnP P w K mg base CX k x ps sp := ⟨F.gl, F.kp, F.fn.elim fun fd z => ⟨fd, z.1.mono h, z.2⟩⟩
theorem Has.q (Hs : Has K mg x st) (S : FnScope N ps (defScope st)) (B : BindOk x st ps) (len : ∀ vs H Q E, sp vs H Q E → vs.length = ps.length)
    (hb : ∀ (cdv : Value) (A : Around) (outer : List Env) (s : Shared) (H : Hp) (vs : List V) (Q : VK) (E : XK), Room k (A.deeper (envOfC x (defScope st) s.heap.objs.size (He.ga K x) cdv)) → sp vs H Q E →
      ∃ t, PSs (cxOf CX P w K mg base N x (defScope st) (He.ga K x) cdv A outer s H E) (defBody st) t ∧ t { nx := fun _ H' => Q .non H', rt := Q } (start N vs) H) : FnQ P w K mg base CX (k + 1) x ps sp := by
  obtain ⟨fd, F⟩ := Hs.df
  exact ⟨Hs.gl, F.kp, fd, F.ok S len hb, F.bindsN B, lookD F⟩
theorem Has.g (Hs : Has K mg x st) (S : FnScope N ps (defScope st)) (B : BindOk x st ps) (len : ∀ vs H Q E, sp vs H Q E → vs.length = ps.length)
    (hb : ∀ (cdv : Value) (A : Around) (outer : List Env) (s : Shared) (H : Hp) (vs : List V) (Q : VK) (E : XK), A.guards = some [] → Room k (A.deeper (envOfC x (defScope st) s.heap.objs.size (He.ga K x) cdv)) → sp vs H Q E →
      ∃ t, PSs (cxOf CX P w K mg base N x (defScope st) (He.ga K x) cdv A outer s H E) (defBody st) t ∧ t { nx := fun _ H' => Q .non H', rt := Q } (start N vs) H) : FnP P w K mg base CX (k + 1) x ps sp := by
  obtain ⟨fd, F⟩ := Hs.df
  exact ⟨Hs.gl, F.kp, fd, F.okG S len hb, F.bindsN B, lookD F⟩
end
section
variable {X : Cx} {CX : CXT} {k j : Nat} {ps : List Str} {sp : Sp} {E : XK} {x : Str} {p pos : Pos} {e : Expr} {es : List Expr} {t : TA}
/-- f(e, ..) -/
theorem pe_f (F : FnQ X.prog X.w X.K X.mg X.base CX j x ps sp) (hr : Room k X.A) (hx : Passes CX X E) (ha : PA X (e :: es) t) (hg : Gl X x := by rfl) (hj : j ≤ k := by decide) (hdb : (x == ("__debug__" : Str)) = false := by decide)
    (hst : starEach (e :: es) X.env = (false, eval e X.env) :: starEach es X.env := by rfl) (hpl : (backTo pos (starEach es X.env)).any (·.1) = false := by rfl) : PE X (.Call (.Name x p) (e :: es) [] pos) (tCall sp [] E t) := by
  obtain ⟨fd, G, b, _⟩ := F.fn
  exact pe_call G (hr.mono hj) hg F.gl F.kp b .nil hx ha hdb hst hpl
theorem pe_fG (F : FnP X.prog X.w X.K X.mg X.base CX j x ps sp) (gA : X.A.guards = some []) (hr : Room k X.A) (hx : Passes CX X E) (ha : PA X (e :: es) t) (hg : Gl X x := by rfl) (hj : j ≤ k := by decide) (hdb : (x == ("__debug__" : Str)) = false := by decide)
    (hst : starEach (e :: es) X.env = (false, eval e X.env) :: starEach es X.env := by rfl) (hpl : (backTo pos (starEach es X.env)).any (·.1) = false := by rfl) : PE X (.Call (.Name x p) (e :: es) [] pos) (tCall sp [] E t) := by
  obtain ⟨fd, G, b, _⟩ := F.fn
  exact pe_callG G gA (hr.mono hj) hg F.gl F.kp b .nil hx ha hdb hst hpl
end
end L2
/-! data with plans in it -/
namespace L2
open PySem PySem.Spec PyProof.Rows
inductive Dt where
  | non | bl (b : Bool) | int (i : Int) | str (x : Str) | lst (ds : List Dt) | tup (ds : List Dt) | dic | wrk (sc : Dt) | sup
def deedAdd : Dt → Bool
  | .tup (.str x :: _) => decide (x = "add") | _ => false
def okDeed : Dt → Bool
  | .tup (.str _ :: _) => true | _ => false
def rowDs : Dt → List Dt
  | .tup [_, _, _, .tup ds] => ds | _ => []
def okRow : Dt → Bool
  | .tup [_, _, _, .tup ds] => decide (ds.length ≤ 8) && ds.all okDeed | _ => false
/-- of the form of a script -/
def okSc : Dt → Bool
  | .tup rows => decide (rows.length ≤ 30) && rows.all okRow | _ => false
def hasAdd : Dt → Bool
  | .tup rows => rows.any fun r => (rowDs r).any deedAdd | _ => false
abbrev wkA (K : PySem.W.Frag) : Addr := He.ga K "WorkerPlan"
abbrev suA (K : PySem.W.Frag) : Addr := He.ga K "SupervisorPlan"
mutual
inductive Dd (K : PySem.W.Frag) (H : Hp) : V → Dt → Prop
  | non : Dd K H .non .non
  | bl (b : Bool) : Dd K H (.bl b) (.bl b)
  | int (i : Int) : Dd K H (.int i) (.int i)
  | str (x : Str) (h : x.length ≤ 1000 := by decide) : Dd K H (.str x) (.str x)
  | lst {a : Addr} {xs : List V} {ds : List Dt} : SqL K H a xs → DdAll K H xs ds → Dd K H (.ref a) (.lst ds)
  | tup {a : Addr} {xs : List V} {ds : List Dt} : SqT K H a xs → DdAll K H xs ds → Dd K H (.ref a) (.tup ds)
  | dic {a : Addr} : H a = some (.dK []) → Dd K H (.ref a) .dic
  | wrk {a dx : Addr} {fs : List (Str × V)} {v : V} {sc : Dt} : H a = some (.ins (wkA K) dx fs) → fs.lookup ("script" : Str) = some v → Dd K H v sc → okSc sc = true → Dd K H (.ref a) (.wrk sc)
  | sup {a dx : Addr} {fs : List (Str × V)} : H a = some (.ins (suA K) dx fs) → Dd K H (.ref a) .sup
inductive DdAll (K : PySem.W.Frag) (H : Hp) : List V → List Dt → Prop
  | nil : DdAll K H [] []
  | cons {v : V} {vs : List V} {d : Dt} {ds : List Dt} : Dd K H v d → DdAll K H vs ds → DdAll K H (v :: vs) (d :: ds)
end
theorem Same.sqL {K : PySem.W.Frag} {H H' : Hp} {a : Addr} {xs : List V} (e : Same H H') (h : SqL K H a xs) : SqL K H' a xs := by
  rcases h with (h | ⟨o, h⟩) | h
  · exact .inl (.inl (e _ _ h))
  · exact .inl (.inr ⟨o, e _ _ h⟩)
  · exact .inr h
mutual
theorem Dd.same {K : PySem.W.Frag} {H H' : Hp} (s : Same H H') : ∀ {v : V} {d : Dt}, Dd K H v d → Dd K H' v d
  | _, _, .non => .non
  | _, _, .bl b => .bl b
  | _, _, .int i => .int i
  | _, _, .str x h => .str x h
  | _, _, .lst h t => .lst (s.sqL h) (DdAll.same s t)
  | _, _, .tup h t => .tup (s.sqT h) (DdAll.same s t)
  | _, _, .dic h => .dic (s _ _ h)
  | _, _, .wrk h l t o => .wrk (s _ _ h) l (Dd.same s t) o
  | _, _, .sup h => .sup (s _ _ h)
theorem DdAll.same {K : PySem.W.Frag} {H H' : Hp} (s : Same H H') : ∀ {vs : List V} {ds : List Dt}, DdAll K H vs ds → DdAll K H' vs ds
  | _, _, .nil => .nil
  | _, _, .cons h t => .cons (Dd.same s h) (DdAll.same s t)
end
theorem DdAll.len {K : PySem.W.Frag} {H : Hp} {vs : List V} {ds : List Dt} (h : DdAll K H vs ds) : vs.length = ds.length := by
  induction ds generalizing vs with
  | nil => cases h; rfl
  | cons d ds ih => cases h with
    | cons _ t => rw [List.length_cons, List.length_cons, ih t]
theorem DdAll.get {K : PySem.W.Frag} {H : Hp} {vs : List V} {ds : List Dt} (h : DdAll K H vs ds) : ∀ {i : Nat} {v : V}, vs[i]? = some v → ∃ d, ds[i]? = some d ∧ Dd K H v d := by
  induction ds generalizing vs with
  | nil => cases h; intro i v e; simp at e
  | cons d ds ih => cases h with
    | cons a t =>
      intro i v e
      cases i with
      | zero => simp at e; exact ⟨d, rfl, e ▸ a⟩
      | succ i => simpa using ih t (by simpa using e)
theorem DdAll.at {K : PySem.W.Frag} {H : Hp} {vs : List V} {ds : List Dt} (h : DdAll K H vs ds) : ∀ {i : Nat} {d : Dt}, ds[i]? = some d → ∃ v, vs[i]? = some v ∧ Dd K H v d := by
  induction ds generalizing vs with
  | nil => intro i d e; simp at e
  | cons d0 ds ih => cases h with
    | cons a t =>
      intro i d e
      cases i with
      | zero => simp at e; exact ⟨_, rfl, e ▸ a⟩
      | succ i => simpa using ih t (by simpa using e)
theorem DdAll.app {K : PySem.W.Frag} {H : Hp} {vs ws : List V} {ds es : List Dt} (h : DdAll K H vs ds) (g : DdAll K H ws es) : DdAll K H (vs ++ ws) (ds ++ es) := by
  induction ds generalizing vs with
  | nil => cases h; exact g
  | cons d ds ih => cases h with
    | cons a t => exact .cons a (ih t)
theorem DdAll.take {K : PySem.W.Frag} {H : Hp} {vs : List V} {ds : List Dt} (h : DdAll K H vs ds) : ∀ k : Nat, DdAll K H (vs.take k) (ds.take k) := by
  induction ds generalizing vs with
  | nil => cases h; intro k; simpa using DdAll.nil
  | cons d ds ih => cases h with
    | cons a t => intro k; cases k with
      | zero => exact .nil
      | succ k => exact .cons a (ih t k)
theorem DdAll.drop {K : PySem.W.Frag} {H : Hp} {vs : List V} {ds : List Dt} (h : DdAll K H vs ds) : ∀ k : Nat, DdAll K H (vs.drop k) (ds.drop k) := by
  induction ds generalizing vs with
  | nil => cases h; intro k; simpa using DdAll.nil
  | cons d ds ih => cases h with
    | cons a t => intro k; cases k with
      | zero => exact .cons a t
      | succ k => exact ih t k
theorem DdAll.one {K : PySem.W.Frag} {H : Hp} {vs : List V} {a : Dt} (h : DdAll K H vs [a]) : ∃ v, vs = [v] ∧ Dd K H v a := by
  cases h with
  | cons h1 t => cases t; exact ⟨_, rfl, h1⟩
theorem DdAll.two {K : PySem.W.Frag} {H : Hp} {vs : List V} {a b : Dt} (h : DdAll K H vs [a, b]) : ∃ v u, vs = [v, u] ∧ Dd K H v a ∧ Dd K H u b := by
  cases h with
  | cons h1 t => obtain ⟨u, rfl, h2⟩ := t.one; exact ⟨_, u, rfl, h1, h2⟩
theorem DdAll.four {K : PySem.W.Frag} {H : Hp} {vs : List V} {a b c d : Dt} (h : DdAll K H vs [a, b, c, d]) : ∃ v u w z, vs = [v, u, w, z] ∧ Dd K H v a ∧ Dd K H u b ∧ Dd K H w c ∧ Dd K H z d := by
  cases h with
  | cons h1 t => cases t with
    | cons h2 t => obtain ⟨w, z, rfl, h3, h4⟩ := t.two; exact ⟨_, _, w, z, rfl, h1, h2, h3, h4⟩
/-! kinds -/
def kd : Dt → Nat
  | .non => 0 | .bl _ => 1 | .int _ => 2 | .str _ => 3 | .lst _ => 4 | .tup _ => 5 | .dic => 6 | .wrk _ => 7 | .sup => 8
theorem kd_lt (d : Dt) : kd d < 9 := by cases d <;> simp [kd]
def tyK (K : PySem.W.Frag) : Nat → Value
  | 0 => .type "NoneType" | 1 => .type "bool" | 2 => .type "int" | 3 => .type "str" | 4 => .type "list" | 5 => .type "tuple" | 6 => .type "dict" | 7 => .ref (wkA K) | _ => .ref (suA K)
def clK (K : PySem.W.Frag) : Nat → Value
  | 0 => .type "int" | 1 => .type "bool" | 2 => .type "str" | 3 => .type "tuple" | 4 => .ref (He.ga K "AnyWorker") | 5 => .ref (wkA K) | _ => .ref (suA K)
def tabK : Nat → Nat → Bool
  | 1, 0 => true | 2, 0 => true | 1, 1 => true | 3, 2 => true | 5, 3 => true | 7, 4 => true | 7, 5 => true | 8, 6 => true | _, _ => false
def kitD (K : PySem.W.Frag) : Bool := (List.range 9).all fun i => (List.range 7).all fun j => decide (PySem.W.kitOne K (tyK K i) (clK K j) = some (tabK i j))
structure PKn (K : PySem.W.Frag) : Prop where
  wk : C8.InsC K (wkA K)
  su : C8.InsC K (suA K)
  kit : ∀ i j, i < 9 → j < 7 → PySem.W.kitOne K (tyK K i) (clK K j) = some (tabK i j)
theorem kitD_ok {K : PySem.W.Frag} (h : kitD K = true) : ∀ i j, i < 9 → j < 7 → PySem.W.kitOne K (tyK K i) (clK K j) = some (tabK i j) := fun i j hi hj => by
  have z := List.all_eq_true.mp (List.all_eq_true.mp h i (List.mem_range.mpr hi)) j (List.mem_range.mpr hj)
  exact of_decide_eq_true z
section
variable {K : PySem.W.Frag} {H : Hp} {v : V} {d : Dt}
theorem Dd.ty (P : PKn K) (h : Dd K H v d) : TyX K H v (tyK K (kd d)) := by
  cases h with
  | non => exact .base .non
  | bl b => exact .base (.bl b)
  | int i => exact .base (.int i)
  | str x h => exact .base (.str x)
  | lst h t =>
    rcases h with (h | ⟨o, h⟩) | ⟨o, its, n, h, c, _⟩
    · exact .base (.lst h)
    · exact .base (.frz h)
    · exact .kList h c
  | tup h t =>
    rcases h with (h | ⟨o, h⟩) | ⟨o, its, n, h, c, _⟩
    · exact .base (.tup h)
    · exact .fTuple h
    · exact .kTuple h c
  | dic h => exact .base (.dK h)
  | wrk h _ _ _ => exact .base (.ins h P.wk.cl P.wk.ha P.wk.hn P.wk.htk P.wk.hm)
  | sup h => exact .base (.ins h P.su.cl P.su.ha P.su.hn P.su.htk P.su.hm)
/-- isinstance of such a value -/
theorem Dd.isi (P : PKn K) (h : Dd K H v d) (j : Nat) {c : V} {Q : VK} (hc : ClsV c (clK K j)) (q : Q (.bl (tabK (kd d) j)) H) (hj : j < 7 := by decide) : rIsi K [v, c] H Q := ⟨v, c, _, _, _, rfl, hc, h.ty P, P.kit _ _ (kd_lt d) hj, q⟩
end
/-! what the checks say -/
def isInt : Dt → Bool
  | .int _ => true | _ => false
def isBtw (lo hi : Int) : Dt → Bool
  | .int i => decide (lo ≤ i) && decide (i ≤ hi) | _ => false
def isStr : Dt → Bool
  | .str _ => true | _ => false
def isOne (ws : List Str) : Dt → Bool
  | .str x => ws.contains x | _ => false
def lettersS : Str := "abcdefghijklmnopqrstuvwxyz"
def signsS : Str := "abcdefghijklmnopqrstuvwxyz0123456789_"
def wordS (x : Str) : Bool := decide (1 ≤ x.length) && decide (x.length ≤ 20) && (match x.cps[0]? with
  | some c => decide (c ∈ lettersS.cps.toList)
  | none => false) && x.cps.toList.all fun c => decide (c ∈ signsS.cps.toList)
def isWord : Dt → Bool
  | .str x => wordS x | _ => false
def namesS : List Str := ["own", "sender", "about"]
def treeS : List Str := ["answer", "back", "ended", "down", "told"]
def reasonS : List Str := ["shutdown", "refused", "gave_up", "killed", "nobody"]
def isPlace (d : Dt) : Bool := isWord d && !isOne namesS d
def isSent (d : Dt) : Bool := isWord d && !isOne treeS d
def isVal (d : Dt) : Bool := isBtw (-1000000000000) 1000000000000 d
def isGiven (d : Dt) : Bool := isWord d && !isOne reasonS d
/-! what the scripts say -/
def dvalD : Dt → Bool
  | .tup [.str x, a] => decide (x = "plus") && isVal a
  | .tup _ => false
  | d => isVal d
def isBl : Dt → Bool
  | .bl _ => true | _ => false
def planD : Dt → Bool
  | .wrk sc => !hasAdd sc | _ => false
def itemD (k : Str) (d : Dt) : Bool :=
  if k = "sent word" then isSent d else if k = "value" then dvalD d else if k = "ticks" then isBtw 1 1000000000 d else if k = "truth" then isBl d else if k = "reason" then isGiven d else if k = "plan" then planD d else isWord d
def deedItems : List (Str × List Str) := [("note", ["word"]), ("send", ["word", "sent word", "value"]), ("ask", ["word", "sent word", "value"]), ("reply", ["value"]), ("later", ["ticks", "sent word", "value"]), ("cancel", ["word"]), ("link", ["word"]), ("unlink", ["word"]), ("monitor", ["word"]),
  ("unmonitor", ["word"]), ("trap", ["truth"]), ("mode", ["word"]), ("end", ["reason"]), ("add", ["word", "plan"]), ("remove", ["word"])]
def itemsD : List Str → List Dt → Bool
  | [], [] => true
  | k :: ks, d :: ds => itemD k d && itemsD ks ds
  | _, _ => false
def deedD : Dt → Bool
  | .tup (.str x :: ds) => (match deedItems.lookup x with
    | some ks => itemsD ks ds
    | none => false)
  | _ => false
def deedsD : Dt → Bool
  | .tup ds => decide (ds.length ≤ 8) && ds.all deedD | _ => false
def rowD : Dt → Bool
  | .tup [m, x, k, ds] => isWord m && isWord x && isBtw 1 1000 k && deedsD ds | _ => false
def keyD : Dt → Str × Str
  | .tup (.str m :: .str x :: _) => (m, x) | _ => ("", "")
/-- the place of the first wrong row -/
def wrongAt (seen : List (Str × Str)) (i : Nat) : List Dt → Option Nat
  | [] => none
  | r :: rs => if i = 30 then some i else if rowD r = false then some i else if keyD r ∈ seen then some i else wrongAt (keyD r :: seen) (i + 1) rs
def scriptD : Dt → Bool
  | .tup rows => (wrongAt [] 0 rows).isNone | _ => false
/-- a check of one value -/
def spChk (K : PySem.W.Frag) (f : Dt → Bool) : Sp := fun vs H Q _ => ∃ v d, vs = [v] ∧ Dd K H v d ∧ ∀ H', Same H H' → Q (.bl (f d)) H'
def spBtw (K : PySem.W.Frag) : Sp := fun vs H Q _ => ∃ v d lo hi, vs = [v, .int lo, .int hi] ∧ Dd K H v d ∧ ∀ H', Same H H' → Q (.bl (isBtw lo hi d)) H'
def spOne (K : PySem.W.Frag) : Sp := fun vs H Q _ => ∃ v d p ws, vs = [v, .ref p] ∧ Dd K H v d ∧ SqT K H p (ws.map V.str) ∧ ∀ H', Same H H' → Q (.bl (isOne ws d)) H'
end L2
/-! [e for x in it] over any walk whose turns leave what stands -/
namespace L2
open PySem PySem.Spec PyProof.Rows
section
variable {J : It} {n : Nat} {G : Hp → Prop} {Y : Nat → Hp → V → Hp → Prop}
/-- the values told by the turn -/
theorem comp_val (w : Walk J n G Y) {H : Hp} {f : Nat → V} {Q : Addr → Hp → Prop} (hn : n < sizeLine) {σ : St} {vs : List Nat} {g : TG} {te : TE} (hG : ∀ H', Same H H' → G H') (hY : ∀ i H x H', Y i H x H' → Same H H')
    (turn : ∀ (i : Nat) (x : V) (H1 H2 : Hp) (R : VK), i < n → Same H H1 → Y i H1 x H2 → (∀ H3, Same H2 H3 → R (f i) H3) → g x (wipe σ vs) H2 fun σ2 H3 => wipe σ2 vs = wipe σ vs ∧ te σ2 H3 R)
    (k : ∀ p H', Same H H' → H p = none → H' p = some (.lst ((List.range n).map f)) → Q p H') :
    ∀ D, H D = none → ∃ W : Nat → Nat → Hp → Prop, (∃ m, W 0 m (upd H D (.lst []))) ∧ ∀ i m H2, W i m H2 →
      (J.stop i H2 ∧ Q D H2) ∨ (J.go i H2 ∧ ∃ Nx : Hp → Prop, (∀ H', Nx H' → ∃ m', m' < m ∧ W (i + 1) m' H') ∧ ∀ v H', J.yld i H2 v H' → g v (wipe σ vs) H' fun σ2 H3 => wipe σ2 vs = wipe σ vs ∧ tYes σ2 H3 fun b H4 =>
        if b = true then te σ2 H4 fun y H5 => ∃ acc, H5 D = some (.lst acc) ∧ acc.length < sizeLine ∧ Nx (upd H5 D (.lst (acc ++ [y]))) else Nx H4) := fun D hD => by
  refine lc_it w (Qd := fun H2 => Q D H2) (fun i H2 => Same H H2 ∧ H2 D = some (.lst ((List.range i).map f))) ⟨Same.new hD, upd_same⟩ (fun i H2 _ h => hG H2 h.1) (fun i x H2 H3 hi h y => ?_) (fun H2 h => k D H2 h.1 hD h.2)
  obtain ⟨s1, hd⟩ := h
  have s2 := hY _ _ _ _ y
  have z := turn i x H2 H3 (fun y H5 => ∃ acc, H5 D = some (.lst acc) ∧ acc.length < sizeLine ∧ (Same H (upd H5 D (.lst (acc ++ [y]))) ∧ (upd H5 D (.lst (acc ++ [y]))) D = some (.lst ((List.range (i + 1)).map f)))) hi s1 y
    (fun H4 s3 => ⟨_, s3 _ _ (s2 _ _ hd), by simp only [List.length_map, List.length_range]; omega, fun b o e => by rw [upd_ne (ne_of_none e hD)]; exact s3 _ _ (s2 _ _ (s1 b o e)), by rw [upd_same, List.range_succ]; simp⟩)
  exact z
/-- .. told by what stands: P i v H, that stays -/
theorem comp_any (w : Walk J n G Y) {H : Hp} {P : Nat → V → Hp → Prop} {Q : Addr → Hp → Prop} (hn : n < sizeLine) {σ : St} {vs : List Nat} {g : TG} {te : TE} (hG : ∀ H', Same H H' → G H') (hY : ∀ i H x H', Y i H x H' → Same H H')
    (hP : ∀ i v H1 H2, Same H1 H2 → P i v H1 → P i v H2) (hD0 : ∀ i v H1 D xs ys, H D = none → H1 D = some (.lst xs) → P i v H1 → P i v (upd H1 D (.lst ys)))
    (turn : ∀ (i : Nat) (x : V) (H1 H2 : Hp) (R : VK), i < n → Same H H1 → Y i H1 x H2 → (∀ v H3, Same H2 H3 → P i v H3 → R v H3) → g x (wipe σ vs) H2 fun σ2 H3 => wipe σ2 vs = wipe σ vs ∧ te σ2 H3 R)
    (k : ∀ p H' xs, Same H H' → H p = none → H' p = some (.lst xs) → xs.length = n → (∀ i v, xs[i]? = some v → P i v H') → Q p H') :
    ∀ D, H D = none → ∃ W : Nat → Nat → Hp → Prop, (∃ m, W 0 m (upd H D (.lst []))) ∧ ∀ i m H2, W i m H2 →
      (J.stop i H2 ∧ Q D H2) ∨ (J.go i H2 ∧ ∃ Nx : Hp → Prop, (∀ H', Nx H' → ∃ m', m' < m ∧ W (i + 1) m' H') ∧ ∀ v H', J.yld i H2 v H' → g v (wipe σ vs) H' fun σ2 H3 => wipe σ2 vs = wipe σ vs ∧ tYes σ2 H3 fun b H4 =>
        if b = true then te σ2 H4 fun y H5 => ∃ acc, H5 D = some (.lst acc) ∧ acc.length < sizeLine ∧ Nx (upd H5 D (.lst (acc ++ [y]))) else Nx H4) := fun D hD => by
  refine lc_it w (Qd := fun H2 => Q D H2) (fun i H2 => Same H H2 ∧ ∃ xs, H2 D = some (.lst xs) ∧ xs.length = i ∧ ∀ j v, xs[j]? = some v → P j v H2) ⟨Same.new hD, [], upd_same, rfl, fun j v e => by simp at e⟩ (fun i H2 _ h => hG H2 h.1) (fun i x H2 H3 hi h y => ?_)
    (fun H2 h => let ⟨s, xs, h1, h2, h3⟩ := h; k D H2 xs s hD h1 h2 h3)
  obtain ⟨s1, xs, hd, hl, hp⟩ := h
  have s2 := hY _ _ _ _ y
  have z := turn i x H2 H3 (fun y H5 => ∃ acc, H5 D = some (.lst acc) ∧ acc.length < sizeLine ∧ (Same H (upd H5 D (.lst (acc ++ [y]))) ∧ ∃ xs, (upd H5 D (.lst (acc ++ [y]))) D = some (.lst xs) ∧ xs.length = i + 1 ∧ ∀ j v, xs[j]? = some v → P j v (upd H5 D (.lst (acc ++ [y]))))) hi s1 y
    (fun v H4 s3 pv => ⟨xs, s3 _ _ (s2 _ _ hd), by omega, fun b o e => by rw [upd_ne (ne_of_none e hD)]; exact s3 _ _ (s2 _ _ (s1 b o e)), xs ++ [v], upd_same, by simp [hl], fun j u e => ?_⟩)
  · exact z
  · rcases Nat.lt_or_ge j xs.length with hj | hj
    · rw [List.getElem?_append_left hj] at e
      exact hD0 _ _ _ _ _ _ hD (s3 _ _ (s2 _ _ hd)) (hP _ _ _ _ (fun b o q => s3 _ _ (s2 _ _ q)) (hp j u e))
    · rw [List.getElem?_append_right hj] at e
      have : j = i := by
        rcases Nat.lt_or_ge (j - xs.length) 1 with q | q
        · omega
        · rw [List.getElem?_eq_none (by simpa using q)] at e; cases e
      subst this
      rw [hl, Nat.sub_self] at e
      cases e
      exact hD0 _ _ _ _ _ _ hD (s3 _ _ (s2 _ _ hd)) pv
end
end L2
namespace L2
open PySem PySem.Spec PyProof.Rows
/-- the inner walk of a turn, and what each of its turns gives -/
structure In2 (H0 : Hp) (m : Nat) (f : Nat → Bool) (g1 : TG) (te : TE) (vs1 : List Nat) (σ2 : St) (J1 : It) : Prop where
  ex : ∃ (G1 : Hp → Prop) (Y1 : Nat → Hp → V → Hp → Prop), Walk J1 m G1 Y1 ∧ (∀ H', Same H0 H' → G1 H') ∧ (∀ j H x H', Y1 j H x H' → Same H H') ∧
    ∀ (j : Nat) (y : V) (H5 H6 : Hp) (R : VK), j < m → Same H0 H5 → Y1 j H5 y H6 → (∀ H7, Same H6 H7 → R (.bl (f j)) H7) → g1 y (wipe σ2 vs1) H6 fun σ3 H7 => wipe σ3 vs1 = wipe σ2 vs1 ∧ te σ3 H7 R
def acc2 (m : Nat → Nat) (f : Nat → Nat → Bool) (n : Nat) : List Bool := (List.range n).flatMap fun i => (List.range (m i)).map (f i)
theorem acc2_succ (m : Nat → Nat) (f : Nat → Nat → Bool) (n : Nat) : acc2 m f (n + 1) = acc2 m f n ++ (List.range (m n)).map (f n) := by
  unfold acc2
  rw [List.range_succ, List.flatMap_append]
  simp
section
variable {J : It} {n : Nat} {G : Hp → Prop} {Y : Nat → Hp → V → Hp → Prop}
/-- [a test for x in it for y in it2(x)] -/
theorem comp2_bool (w : Walk J n G Y) {H : Hp} {m : Nat → Nat} {f : Nat → Nat → Bool} {Q : Addr → Hp → Prop} (hn : (acc2 m f n).length < sizeLine) {σ : St} {vs vs1 : List Nat} {g g1 : TG} {wi1 : TI} {te : TE} (hG : ∀ H', Same H H' → G H') (hY : ∀ i H x H', Y i H x H' → Same H H')
    (turn : ∀ (i : Nat) (x : V) (H1 H2 : Hp) (C : St → It → Hp → Prop), i < n → Same H H1 → Y i H1 x H2 → (∀ σ2 J1 H4, Same H2 H4 → In2 H (m i) (f i) g1 te vs1 σ2 J1 → C σ2 J1 H4) → g x (wipe σ vs) H2 fun σ2 H3 => wipe σ2 vs = wipe σ vs ∧ wi1 σ2 H3 (C σ2))
    (k : ∀ p H', Same H H' → H p = none → H' p = some (.lst ((acc2 m f n).map V.bl)) → Q p H') :
    ∀ D, H D = none → ∃ W : Nat → Nat → Hp → Prop, (∃ m, W 0 m (upd H D (.lst []))) ∧ ∀ i m H, W i m H →
      (J.stop i H ∧ Q D H) ∨ (J.go i H ∧ ∃ Nx : Hp → Prop, (∀ H', Nx H' → ∃ m', m' < m ∧ W (i + 1) m' H') ∧ ∀ x H', J.yld i H x H' → g x (wipe σ vs) H' fun σ2 H2 => wipe σ2 vs = wipe σ vs ∧ tYes σ2 H2 fun b H3 =>
        if b = true then wi1 σ2 H3 fun J1 H4 => ∃ W1 : Nat → Nat → Hp → Prop, (∃ m, W1 0 m H4) ∧ ∀ j k H, W1 j k H →
          (J1.stop j H ∧ Nx H) ∨ (J1.go j H ∧ ∃ Nx1 : Hp → Prop, (∀ H', Nx1 H' → ∃ k', k' < k ∧ W1 (j + 1) k' H') ∧ ∀ x H', J1.yld j H x H' → g1 x (wipe σ2 vs1) H' fun σ3 H5 => wipe σ3 vs1 = wipe σ2 vs1 ∧ tYes σ3 H5 fun b H6 =>
            if b = true then te σ3 H6 fun y H7 => ∃ acc, H7 D = some (.lst acc) ∧ acc.length < sizeLine ∧ Nx1 (upd H7 D (.lst (acc ++ [y]))) else Nx1 H6)
        else Nx H3) := fun D hD => by
  have Dup : ∀ {H1 : Hp} (xs : List V), Same H H1 → Same H (upd H1 D (.lst xs)) := fun xs s b o e => by rw [upd_ne (ne_of_none e hD)]; exact s _ _ e
  refine ⟨fun i k H1 => k = n - i ∧ i ≤ n ∧ Same H H1 ∧ H1 D = some (.lst ((acc2 m f i).map V.bl)), ⟨n, by simp, Nat.zero_le _, Same.new hD, upd_same⟩, ?_⟩
  rintro i _ H1 ⟨rfl, hi, s1, d1⟩
  by_cases lt : i < n
  · refine .inr ⟨w.goes i H1 lt (hG _ s1), fun H' => Same H H' ∧ H' D = some (.lst ((acc2 m f (i + 1)).map V.bl)), fun H' q => ⟨n - (i + 1), by omega, rfl, lt, q.1, q.2⟩, fun x H2 y => ?_⟩
    have y2 := w.yields i H1 x H2 lt (hG _ s1) y
    have s2 := hY _ _ _ _ y2
    refine turn i x H1 H2 _ lt s1 y2 fun σ2 J1 H4 s4 z => ?_
    obtain ⟨G1, Y1, w1, hG1, hY1, t1⟩ := z
    have s04 : Same H H4 := fun b o e => s4 _ _ (s2 _ _ (s1 _ _ e))
    have d4 : H4 D = some (.lst ((acc2 m f i).map V.bl)) := s4 _ _ (s2 _ _ d1)
    have small : ∀ j, j < m i → (acc2 m f i ++ (List.range j).map (f i)).length < sizeLine := fun j hj => by
      have mono : ∀ a b, a ≤ b → (acc2 m f a).length ≤ (acc2 m f b).length := fun a b h => by
        induction h with
        | refl => exact Nat.le_refl _
        | step _ ih => rw [acc2_succ, List.length_append]; omega
      have := mono (i + 1) n lt
      rw [acc2_succ, List.length_append, List.length_map, List.length_range] at this
      rw [List.length_append, List.length_map, List.length_range]
      omega
    refine ⟨fun j k H5 => k = m i - j ∧ j ≤ m i ∧ Same H H5 ∧ H5 D = some (.lst ((acc2 m f i ++ (List.range j).map (f i)).map V.bl)), ⟨m i, by simp, Nat.zero_le _, s04, by simpa using d4⟩, ?_⟩
    rintro j _ H5 ⟨rfl, hj, s5, d5⟩
    by_cases lt1 : j < m i
    · refine .inr ⟨w1.goes j H5 lt1 (hG1 _ s5), fun H' => Same H H' ∧ H' D = some (.lst ((acc2 m f i ++ (List.range (j + 1)).map (f i)).map V.bl)), fun H' q => ⟨m i - (j + 1), by omega, rfl, lt1, q.1, q.2⟩, fun x H6 y => ?_⟩
      have y6 := w1.yields j H5 x H6 lt1 (hG1 _ s5) y
      have s6 := hY1 _ _ _ _ y6
      exact t1 j x H5 H6 _ lt1 s5 y6 fun H7 s7 => ⟨_, s7 _ _ (s6 _ _ d5), by rw [List.length_map]; exact small j lt1, Dup _ (fun b o e => s7 _ _ (s6 _ _ (s5 _ _ e))), by rw [upd_same, List.range_succ]; simp⟩
    · have e : j = m i := by omega
      subst e
      exact .inl ⟨w1.stops H5 (hG1 _ s5), s5, by rw [acc2_succ]; exact d5⟩
  · have e : i = n := by omega
    subst e
    exact .inl ⟨w.stops H1 (hG _ s1), k D H1 s1 hD d1⟩
end
end L2
namespace K08
open PySem PySem.Spec PyProof.Rows L2
abbrev PP : Program := PySem.Challenge.pw_watchtree_k08_whole_plans_related
def top (i : Nat) : Stmt := PP.main.body.getD i (.Pass ⟨0, 0, 0, 0⟩)
def frees : List Str := ["repr", "ValueError", "int", "bool", "str", "tuple", "list", "isinstance", "len", "range", "enumerate", "zip", "all", "any", "sorted", "set", "max", "min", "dict"]
def cInts : List (Str × Int) := [("LARGEST_VALUE", 1000000000000), ("MOST_SIGNS", 20), ("MOST_ROWS", 30), ("MOST_DEEDS", 8), ("MOST_WORK", 1000), ("MOST_TICKS_LATER", 1000000000), ("MOST_TICKS", 1000000000), ("MOST_REFUSED", 100), ("MOST_RESTARTS", 20), ("MOST_CHILDREN", 12), ("MOST_LEVELS", 20), ("MOST_PLANS", 200), ("MOST_ROOT_PLANS", 60), ("MOST_ROOT_LEVELS", 6), ("MOST_ROOT_PRODUCT", 1000), ("MOST_DIGITS", 10), ("WORDS_OF_LINE", 7), ("NO_NUMBER", -1)]
def cStrs : List (Str × Str) := [("LETTERS", lettersS), ("SIGNS", signsS), ("INDENT", "  "), ("DIGITS", "0123456789")]
def cTups : List (Str × List Str) := [("DEED_NAMES", namesS), ("TREE_WORDS", treeS), ("TREE_REASONS", reasonS), ("RESTARTS", ["permanent", "transient", "temporary"]), ("STRATEGIES", ["one", "rest", "all"])]
def clss : List Str := ["AnyWorker", "WorkerPlan", "SupervisorPlan", "PlanError", "AbsentError", "BadSetting", "BadChild", "BadRoot", "BadText", "BadScript", "NoPlace", "Row"]
/-- what the module's names stand for -/
structure Txt (K : PySem.W.Frag) (mg : Str → Option Value) : Prop where
  fr : ∀ x ∈ frees, mg x = none
  ci : ∀ p ∈ cInts, ∃ u, mg p.1 = some u ∧ RelV (.int p.2) u
  cs : ∀ p ∈ cStrs, ∃ u, mg p.1 = some u ∧ RelV (.str p.2) u
  ct : ∀ p ∈ cTups, ∃ u, mg p.1 = some u ∧ RelV (.ref (He.ga K p.1)) u
  tq : ∀ p ∈ cTups, ∀ H, SqT K H (He.ga K p.1) (p.2.map V.str)
  cc : ∀ x ∈ clss, ∃ u, mg x = some u ∧ RelV (.ref (He.ga K x)) u
  pk : PKn K
  na : NoAttr K (wkA K) "script"
section
variable {K : PySem.W.Frag} {mg : Str → Option Value} (T : Txt K mg)
include T
theorem Txt.c_LARGEST_VALUE : ∃ u, mg "LARGEST_VALUE" = some u ∧ RelV (.int 1000000000000) u := T.ci ("LARGEST_VALUE", _) (by simp [cInts])
theorem Txt.c_MOST_SIGNS : ∃ u, mg "MOST_SIGNS" = some u ∧ RelV (.int 20) u := T.ci ("MOST_SIGNS", _) (by simp [cInts])
theorem Txt.c_MOST_ROWS : ∃ u, mg "MOST_ROWS" = some u ∧ RelV (.int 30) u := T.ci ("MOST_ROWS", _) (by simp [cInts])
theorem Txt.c_MOST_DEEDS : ∃ u, mg "MOST_DEEDS" = some u ∧ RelV (.int 8) u := T.ci ("MOST_DEEDS", _) (by simp [cInts])
theorem Txt.c_MOST_WORK : ∃ u, mg "MOST_WORK" = some u ∧ RelV (.int 1000) u := T.ci ("MOST_WORK", _) (by simp [cInts])
theorem Txt.c_MOST_TICKS_LATER : ∃ u, mg "MOST_TICKS_LATER" = some u ∧ RelV (.int 1000000000) u := T.ci ("MOST_TICKS_LATER", _) (by simp [cInts])
theorem Txt.c_MOST_TICKS : ∃ u, mg "MOST_TICKS" = some u ∧ RelV (.int 1000000000) u := T.ci ("MOST_TICKS", _) (by simp [cInts])
theorem Txt.c_MOST_REFUSED : ∃ u, mg "MOST_REFUSED" = some u ∧ RelV (.int 100) u := T.ci ("MOST_REFUSED", _) (by simp [cInts])
theorem Txt.c_MOST_RESTARTS : ∃ u, mg "MOST_RESTARTS" = some u ∧ RelV (.int 20) u := T.ci ("MOST_RESTARTS", _) (by simp [cInts])
theorem Txt.c_LETTERS : ∃ u, mg "LETTERS" = some u ∧ RelV (.str lettersS) u := T.cs ("LETTERS", lettersS) (by simp [cStrs])
theorem Txt.c_SIGNS : ∃ u, mg "SIGNS" = some u ∧ RelV (.str signsS) u := T.cs ("SIGNS", signsS) (by simp [cStrs])
theorem Txt.c_DEED_NAMES : ∃ u, mg "DEED_NAMES" = some u ∧ RelV (.ref (He.ga K "DEED_NAMES")) u := T.ct ("DEED_NAMES", namesS) (by simp [cTups])
theorem Txt.c_TREE_WORDS : ∃ u, mg "TREE_WORDS" = some u ∧ RelV (.ref (He.ga K "TREE_WORDS")) u := T.ct ("TREE_WORDS", treeS) (by simp [cTups])
theorem Txt.c_TREE_REASONS : ∃ u, mg "TREE_REASONS" = some u ∧ RelV (.ref (He.ga K "TREE_REASONS")) u := T.ct ("TREE_REASONS", reasonS) (by simp [cTups])
theorem Txt.c_RESTARTS : ∃ u, mg "RESTARTS" = some u ∧ RelV (.ref (He.ga K "RESTARTS")) u := T.ct ("RESTARTS", ["permanent", "transient", "temporary"]) (by simp [cTups])
theorem Txt.c_STRATEGIES : ∃ u, mg "STRATEGIES" = some u ∧ RelV (.ref (He.ga K "STRATEGIES")) u := T.ct ("STRATEGIES", ["one", "rest", "all"]) (by simp [cTups])
theorem Txt.c_AnyWorker : ∃ u, mg "AnyWorker" = some u ∧ RelV (.ref (He.ga K "AnyWorker")) u := T.cc "AnyWorker" (by simp [clss])
theorem Txt.c_WorkerPlan : ∃ u, mg "WorkerPlan" = some u ∧ RelV (.ref (He.ga K "WorkerPlan")) u := T.cc "WorkerPlan" (by simp [clss])
theorem Txt.c_SupervisorPlan : ∃ u, mg "SupervisorPlan" = some u ∧ RelV (.ref (He.ga K "SupervisorPlan")) u := T.cc "SupervisorPlan" (by simp [clss])
theorem Txt.c_PlanError : ∃ u, mg "PlanError" = some u ∧ RelV (.ref (He.ga K "PlanError")) u := T.cc "PlanError" (by simp [clss])
theorem Txt.c_MOST_ROOT_PLANS : ∃ u, mg "MOST_ROOT_PLANS" = some u ∧ RelV (.int 60) u := T.ci ("MOST_ROOT_PLANS", _) (by simp [cInts])
theorem Txt.c_MOST_ROOT_LEVELS : ∃ u, mg "MOST_ROOT_LEVELS" = some u ∧ RelV (.int 6) u := T.ci ("MOST_ROOT_LEVELS", _) (by simp [cInts])
theorem Txt.c_MOST_ROOT_PRODUCT : ∃ u, mg "MOST_ROOT_PRODUCT" = some u ∧ RelV (.int 1000) u := T.ci ("MOST_ROOT_PRODUCT", _) (by simp [cInts])
theorem Txt.c_MOST_DIGITS : ∃ u, mg "MOST_DIGITS" = some u ∧ RelV (.int 10) u := T.ci ("MOST_DIGITS", _) (by simp [cInts])
theorem Txt.c_WORDS_OF_LINE : ∃ u, mg "WORDS_OF_LINE" = some u ∧ RelV (.int 7) u := T.ci ("WORDS_OF_LINE", _) (by simp [cInts])
theorem Txt.c_NO_NUMBER : ∃ u, mg "NO_NUMBER" = some u ∧ RelV (.int (-1)) u := T.ci ("NO_NUMBER", _) (by simp [cInts])
theorem Txt.c_INDENT : ∃ u, mg "INDENT" = some u ∧ RelV (.str "  ") u := T.cs ("INDENT", "  ") (by simp [cStrs])
theorem Txt.c_DIGITS : ∃ u, mg "DIGITS" = some u ∧ RelV (.str "0123456789") u := T.cs ("DIGITS", "0123456789") (by simp [cStrs])
theorem Txt.c_BadSetting : ∃ u, mg "BadSetting" = some u ∧ RelV (.ref (He.ga K "BadSetting")) u := T.cc "BadSetting" (by simp [clss])
theorem Txt.c_BadScript : ∃ u, mg "BadScript" = some u ∧ RelV (.ref (He.ga K "BadScript")) u := T.cc "BadScript" (by simp [clss])
end
section
variable {P : Program} {w : World} {K : PySem.W.Frag} {mg : Str → Option Value} {base : Heap}
abbrev s_is_integer : Stmt := (top 10)
def N_is_integer : List Str := ["value"]
theorem sc_is_integer : FnScope N_is_integer ["value"] (defScope s_is_integer) := ⟨rfl, rfl, rfl, by decide +kernel, rfl, by decide +kernel, by decide +kernel⟩
abbrev s_is_between : Stmt := (top 11)
def N_is_between : List Str := ["value", "low", "high"]
theorem sc_is_between : FnScope N_is_between ["value", "low", "high"] (defScope s_is_between) := ⟨rfl, rfl, rfl, by decide +kernel, rfl, by decide +kernel, by decide +kernel⟩
abbrev s_is_one_of : Stmt := (top 12)
def N_is_one_of : List Str := ["value", "words"]
theorem sc_is_one_of : FnScope N_is_one_of ["value", "words"] (defScope s_is_one_of) := ⟨rfl, rfl, rfl, by decide +kernel, rfl, by decide +kernel, by decide +kernel⟩
abbrev s_is_word : Stmt := (top 13)
def N_is_word : List Str := ["value", "sign"]
theorem sc_is_word : FnScope N_is_word ["value"] (defScope s_is_word) := ⟨rfl, rfl, rfl, by decide +kernel, rfl, by decide +kernel, by decide +kernel⟩
abbrev s_is_place_name : Stmt := (top 14)
def N_is_place_name : List Str := ["value"]
theorem sc_is_place_name : FnScope N_is_place_name ["value"] (defScope s_is_place_name) := ⟨rfl, rfl, rfl, by decide +kernel, rfl, by decide +kernel, by decide +kernel⟩
abbrev s_is_sent_word : Stmt := (top 15)
def N_is_sent_word : List Str := ["value"]
theorem sc_is_sent_word : FnScope N_is_sent_word ["value"] (defScope s_is_sent_word) := ⟨rfl, rfl, rfl, by decide +kernel, rfl, by decide +kernel, by decide +kernel⟩
abbrev s_is_sent_value : Stmt := (top 16)
def N_is_sent_value : List Str := ["value"]
theorem sc_is_sent_value : FnScope N_is_sent_value ["value"] (defScope s_is_sent_value) := ⟨rfl, rfl, rfl, by decide +kernel, rfl, by decide +kernel, by decide +kernel⟩
abbrev s_is_given_reason : Stmt := (top 17)
def N_is_given_reason : List Str := ["value"]
theorem sc_is_given_reason : FnScope N_is_given_reason ["value"] (defScope s_is_given_reason) := ⟨rfl, rfl, rfl, by decide +kernel, rfl, by decide +kernel, by decide +kernel⟩
theorem inV_str (x : Str) (ws : List Str) : inV (.str x) (ws.map V.str) = ws.contains x := by
  unfold inV
  rw [List.any_map, List.contains_eq_any_beq]
  congr 1
  funext y
  show (y == x) = (x == y)
  exact BEq.comm
theorem ok_is_integer (F : Has K mg "is_integer" s_is_integer) (T : Txt K mg) : FnQ P w K mg base CX0 1 "is_integer" ["value"] (spChk K isInt) := by
  refine F.q sc_is_integer (fun _ _ _ _ _ _ us hl => match us, hl with | [_], _ => rfl) (fun vs H Q E h => by obtain ⟨v, d, rfl, _⟩ := h; rfl) (fun cdv A outer s H vs Q E hr h => ?_)
  obtain ⟨v, d, rfl, hd, k⟩ := h
  have gI : mg "isinstance" = none := T.fr _ (by simp [frees])
  refine ⟨_, PSs.nox (pss_one (ps_ret (pe_and (pe_callB call_isi (by rfl) gI boot_isinstance (pa_cons (pv 0) (pa_cons (pe_bltn (v := .ty "int") (by rfl) (T.fr "int" (by simp [frees])) PyProof.Rows.boot_int rfl) pa_nil))) (pe_one (pe_not (pe_callB call_isi (by rfl) gI boot_isinstance (pa_cons (pv 0) (pa_cons (pe_bltn (v := .ty "bool") (by rfl) (T.fr "bool" (by simp [frees])) PyProof.Rows.boot_bool rfl) pa_nil)))))))), ?_⟩
  refine ⟨_, rfl, _, _, _, _, _, rfl, .ty _, (hd).ty T.pk, T.pk.kit _ 0 (kd_lt _) (by decide), _, rfl, ?_⟩
  cases d with
  | int i => exact if_yes rfl ⟨_, rfl, _, _, _, _, _, rfl, .ty _, (hd).ty T.pk, T.pk.kit _ 1 (kd_lt _) (by decide), _, rfl, k H (Same.refl H)⟩
  | bl b => exact if_yes rfl ⟨_, rfl, _, _, _, _, _, rfl, .ty _, (hd).ty T.pk, T.pk.kit _ 1 (kd_lt _) (by decide), _, rfl, k H (Same.refl H)⟩
  | _ => exact if_no rfl (k H (Same.refl H))
theorem ok_is_between (F : Has K mg "is_between" s_is_between) (T : Txt K mg) (F_is_integer : FnQ P w K mg base CX0 1 "is_integer" ["value"] (spChk K isInt)) : FnQ P w K mg base CX0 2 "is_between" ["value", "low", "high"] (spBtw K) := by
  refine F.q sc_is_between (fun _ _ _ _ _ _ us hl => match us, hl with | [_, _, _], _ => rfl) (fun vs H Q E h => by obtain ⟨v, d, lo, hi, rfl, _⟩ := h; rfl) (fun cdv A outer s H vs Q E hr h => ?_)
  obtain ⟨v, d, lo, hi, rfl, hd, k⟩ := h
  refine ⟨_, PSs.nox (pss_one (ps_ret (pe_and (pe_f F_is_integer hr pass0 (pa_cons (pv 0) pa_nil)) (pe_one (pe_chain op_le op_le (pv 1) (pv 0) (pv 2)))))), ?_⟩
  refine ⟨_, rfl, v, d, rfl, hd, fun H' s => ⟨_, rfl, ?_⟩⟩
  cases d with
  | int i =>
    cases hd
    refine if_yes rfl ⟨_, rfl, _, rfl, _, _, rfl, rfl, _, rfl, ?_⟩
    by_cases c : lo ≤ i
    · exact if_yes (decide_eq_true c) ⟨_, rfl, _, _, rfl, rfl, by have z := k H' s; simp only [isBtw, decide_eq_true c, Bool.true_and] at z; exact z⟩
    · exact if_no (decide_eq_false c) (by have z := k H' s; simp only [isBtw, decide_eq_false c, Bool.false_and] at z; exact z)
  | _ => exact if_no rfl (k H' s)
theorem ok_is_one_of (F : Has K mg "is_one_of" s_is_one_of) (T : Txt K mg) : FnQ P w K mg base CX0 1 "is_one_of" ["value", "words"] (spOne K) := by
  refine F.q sc_is_one_of (fun _ _ _ _ _ _ us hl => match us, hl with | [_, _], _ => rfl) (fun vs H Q E h => by obtain ⟨v, d, p, ws, rfl, _⟩ := h; rfl) (fun cdv A outer s H vs Q E hr h => ?_)
  obtain ⟨v, d, p, ws, rfl, hd, hw, k⟩ := h
  have gI : mg "isinstance" = none := T.fr _ (by simp [frees])
  refine ⟨_, PSs.nox (pss_one (ps_ret (pe_and (pe_callB call_isi (by rfl) gI boot_isinstance (pa_cons (pv 0) (pa_cons (pe_bltn (v := .ty "str") (by rfl) (T.fr "str" (by simp [frees])) PyProof.Rows.boot_str rfl) pa_nil))) (pe_one (pe_cmpR op_in_seq (pv 0) (pv 1) (by first | exact nomark _ | rfl)))))), ?_⟩
  refine ⟨_, rfl, _, _, _, _, _, rfl, .ty _, (hd).ty T.pk, T.pk.kit _ 2 (kd_lt _) (by decide), _, rfl, ?_⟩
  cases d with
  | str x =>
    cases hd
    refine if_yes rfl ⟨_, rfl, _, rfl, p, _, rfl, .inr hw, rfl, (by simp [flatV]), ?_⟩
    have z := k H (Same.refl H)
    simp only [isOne, ← inV_str] at z
    exact z
  | _ => exact if_no rfl (k H (Same.refl H))
theorem ok_is_word (F : Has K mg "is_word" s_is_word) (T : Txt K mg) : FnQ P w K mg base CX0 1 "is_word" ["value"] (spChk K isWord) := by
  refine F.q sc_is_word (fun _ _ _ _ _ _ us hl => match us, hl with | [_], _ => rfl) (fun vs H Q E h => by obtain ⟨v, d, rfl, _⟩ := h; rfl) (fun cdv A outer s H vs Q E hr h => ?_)
  obtain ⟨v, d, rfl, hd, k⟩ := h
  have gI : mg "isinstance" = none := T.fr _ (by simp [frees])
  have gL : mg "len" = none := T.fr _ (by simp [frees])
  refine ⟨_, PSs.nox (pss_cons (ps_if (pw_or (pt_not (pt_val (pe_callB call_isi (by rfl) gI boot_isinstance (pa_cons (pv 0) (pa_cons (pe_bltn (v := .ty "str") (by rfl) (T.fr "str" (by simp [frees])) PyProof.Rows.boot_str rfl) pa_nil))))) (pw_or1 (pt_not (pt_chain op_le op_le pe_int (pe_callB call_len_str (by rfl) gL boot_len (pa_cons (pv 0) pa_nil)) (C8.pe_gc (by rfl) T.c_MOST_SIGNS))))).pt
  (pss_one (ps_ret pe_bl))
  pss_nil)
  (pss_one (ps_ret (pe_and (pe_cmpR op_in_sign (pe_item_str (pv 0) pe_int (fun _ _ => rfl)) (C8.pe_gc (by rfl) T.c_LETTERS) (by first | exact nomark _ | rfl)) (pe_one (pe_callB (cr_all rfl) (by rfl) (T.fr "all" (by simp [frees])) boot_all (pa_cons (pe_lc (own := [("sign", 1)]) (tt := tYes) rfl sc_is_word.nd (pi_str (pv 0)) (blkOk_by (N := N_is_word) (sc := defScope s_is_word) (by decide +kernel)) (fun _ _ _ _ _ => (pg_name (i := 1) sc_is_word.nd rfl (by first | exact .inl rfl | exact .inr rfl))) (fun _ _ _ _ _ => pts_nil) (fun _ _ _ _ _ => (pe_cmpR op_in_sign (pv 1) (C8.pe_gc (by rfl) T.c_SIGNS) (by first | exact nomark _ | rfl)))) pa_nil))))))), ?_⟩
  refine ⟨_, rfl, _, _, _, _, _, rfl, .ty _, (hd).ty T.pk, T.pk.kit _ 2 (kd_lt _) (by decide), _, rfl, ?_⟩
  cases d with
  | str x =>
    cases hd
    rename_i few
    refine if_no rfl ?_
    refine ⟨_, rfl, x, rfl, Nat.le_of_lt (small1000 few), _, _, rfl, rfl, _, rfl, ?_⟩
    by_cases c1 : (1 : Int) ≤ (x.length : Int)
    · refine if_yes (decide_eq_true c1) ?_
      refine ⟨_, _, rfl, rfl, _, rfl, ?_⟩
      by_cases c2 : (x.length : Int) ≤ 20
      · refine if_no (by simpa using c2) ?_
        have p0 : 0 < x.cps.size := by have : x.length = x.cps.size := rfl; omega
        obtain ⟨c, hc⟩ : ∃ c, x.cps[0]? = some c := ⟨x.cps[0], by simp [p0]⟩
        have e1 : decide (1 ≤ x.length) = true := decide_eq_true (by omega)
        have e2 : decide (x.length ≤ 20) = true := decide_eq_true (by omega)
        refine ⟨_, rfl, x, 0, c, rfl, rfl, by decide, by decide, by omega, hc, c, lettersS, rfl, rfl, _, rfl, ?_⟩
        by_cases c3 : c ∈ lettersS.cps.toList
        · refine if_yes (decide_eq_true c3) ?_
          refine ⟨_, rfl, x, rfl, comp_val walk_str (f := fun i => .bl (match x.cps[i]? with
            | some c => decide (c ∈ signsS.cps.toList)
            | none => false)) ?_ (fun _ _ => True.intro) (fun i H x H' y b o e => by rw [y.1]; exact e) ?_ ?_⟩
          · have := small1000 few
            exact this
          · rintro i v H1 H2 R hi s1 ⟨rfl, c, hc2, rfl⟩ r
            refine ⟨rfl, _, rfl, c, signsS, rfl, rfl, ?_⟩
            have z := r H2 (Same.refl H2)
            simp only [hc2] at z
            exact z
          · intro p H' s1 n1 l1
            have em : ((List.range x.cps.size).map fun i => V.bl (match x.cps[i]? with
              | some c => decide (c ∈ signsS.cps.toList)
              | none => false)) = (x.cps.toList.map fun c => decide (c ∈ signsS.cps.toList)).map V.bl := by
              apply List.ext_getElem
              · simp
              · intro i h1 h2
                simp at h1
                simp [h1]
            rw [em] at l1
            refine ⟨p, _, rfl, SqL.of l1, ?_⟩
            have z := k H' s1
            simp only [isWord, wordS, e1, e2, hc, decide_eq_true c3, Bool.and_true, Bool.true_and] at z
            rw [List.all_map]
            exact z
        · refine if_no (decide_eq_false c3) ?_
          have z := k H (Same.refl H)
          simp only [isWord, wordS, e1, e2, hc, decide_eq_false c3, Bool.and_false, Bool.false_and] at z
          exact z
      · refine if_yes (by simpa using c2) ?_
        have z := k H (Same.refl H)
        simp only [isWord, wordS, decide_eq_false (show ¬ x.length ≤ 20 by omega), Bool.and_false, Bool.false_and] at z
        exact z
    · refine if_no (decide_eq_false c1) ?_
      have z := k H (Same.refl H)
      simp only [isWord, wordS, decide_eq_false (show ¬ 1 ≤ x.length by omega), Bool.false_and] at z
      exact ⟨_, rfl, if_yes rfl z⟩
  | _ => exact if_yes rfl (if_yes rfl (k H (Same.refl H)))
theorem ok_is_place_name (F : Has K mg "is_place_name" s_is_place_name) (T : Txt K mg) (F_is_word : FnQ P w K mg base CX0 1 "is_word" ["value"] (spChk K isWord)) : FnQ P w K mg base CX0 2 "is_place_name" ["value"] (spChk K isPlace) := by
  refine F.q sc_is_place_name (fun _ _ _ _ _ _ us hl => match us, hl with | [_], _ => rfl) (fun vs H Q E h => by obtain ⟨v, d, rfl, _⟩ := h; rfl) (fun cdv A outer s H vs Q E hr h => ?_)
  obtain ⟨v, d, rfl, hd, k⟩ := h
  refine ⟨_, PSs.nox (pss_one (ps_ret (pe_and (pe_f F_is_word hr pass0 (pa_cons (pv 0) pa_nil)) (pe_one (pe_cmpR op_notIn_seq (pv 0) (C8.pe_gc (by rfl) T.c_DEED_NAMES) (by first | exact nomark _ | rfl)))))), ?_⟩
  refine ⟨_, rfl, v, d, rfl, hd, fun H' s => ⟨_, rfl, ?_⟩⟩
  have z := k H' s
  have hw : ∀ H, SqT K H (He.ga K "DEED_NAMES") (namesS.map V.str) := T.tq ("DEED_NAMES", namesS) (by simp [cTups])
  cases d with
  | str x =>
    cases hd
    by_cases c : isWord (.str x) = true
    · refine if_yes c ⟨_, rfl, _, _, rfl, .inr (hw H'), rfl, by simp [flatV], ?_⟩
      rw [inV_str]
      simp only [isPlace, c, Bool.true_and] at z
      exact z
    · have c : isWord (.str x) = false := by simpa using c
      refine if_no c ?_
      simp only [isPlace, c, Bool.false_and] at z
      exact z
  | _ => exact if_no rfl z
theorem ok_is_sent_word (F : Has K mg "is_sent_word" s_is_sent_word) (T : Txt K mg) (F_is_word : FnQ P w K mg base CX0 1 "is_word" ["value"] (spChk K isWord)) : FnQ P w K mg base CX0 2 "is_sent_word" ["value"] (spChk K isSent) := by
  refine F.q sc_is_sent_word (fun _ _ _ _ _ _ us hl => match us, hl with | [_], _ => rfl) (fun vs H Q E h => by obtain ⟨v, d, rfl, _⟩ := h; rfl) (fun cdv A outer s H vs Q E hr h => ?_)
  obtain ⟨v, d, rfl, hd, k⟩ := h
  refine ⟨_, PSs.nox (pss_one (ps_ret (pe_and (pe_f F_is_word hr pass0 (pa_cons (pv 0) pa_nil)) (pe_one (pe_cmpR op_notIn_seq (pv 0) (C8.pe_gc (by rfl) T.c_TREE_WORDS) (by first | exact nomark _ | rfl)))))), ?_⟩
  refine ⟨_, rfl, v, d, rfl, hd, fun H' s => ⟨_, rfl, ?_⟩⟩
  have z := k H' s
  have hw : ∀ H, SqT K H (He.ga K "TREE_WORDS") (treeS.map V.str) := T.tq ("TREE_WORDS", treeS) (by simp [cTups])
  cases d with
  | str x =>
    cases hd
    by_cases c : isWord (.str x) = true
    · refine if_yes c ⟨_, rfl, _, _, rfl, .inr (hw H'), rfl, by simp [flatV], ?_⟩
      rw [inV_str]
      simp only [isSent, c, Bool.true_and] at z
      exact z
    · have c : isWord (.str x) = false := by simpa using c
      refine if_no c ?_
      simp only [isSent, c, Bool.false_and] at z
      exact z
  | _ => exact if_no rfl z
theorem ok_is_given_reason (F : Has K mg "is_given_reason" s_is_given_reason) (T : Txt K mg) (F_is_word : FnQ P w K mg base CX0 1 "is_word" ["value"] (spChk K isWord)) : FnQ P w K mg base CX0 2 "is_given_reason" ["value"] (spChk K isGiven) := by
  refine F.q sc_is_given_reason (fun _ _ _ _ _ _ us hl => match us, hl with | [_], _ => rfl) (fun vs H Q E h => by obtain ⟨v, d, rfl, _⟩ := h; rfl) (fun cdv A outer s H vs Q E hr h => ?_)
  obtain ⟨v, d, rfl, hd, k⟩ := h
  refine ⟨_, PSs.nox (pss_one (ps_ret (pe_and (pe_f F_is_word hr pass0 (pa_cons (pv 0) pa_nil)) (pe_one (pe_cmpR op_notIn_seq (pv 0) (C8.pe_gc (by rfl) T.c_TREE_REASONS) (by first | exact nomark _ | rfl)))))), ?_⟩
  refine ⟨_, rfl, v, d, rfl, hd, fun H' s => ⟨_, rfl, ?_⟩⟩
  have z := k H' s
  have hw : ∀ H, SqT K H (He.ga K "TREE_REASONS") (reasonS.map V.str) := T.tq ("TREE_REASONS", reasonS) (by simp [cTups])
  cases d with
  | str x =>
    cases hd
    by_cases c : isWord (.str x) = true
    · refine if_yes c ⟨_, rfl, _, _, rfl, .inr (hw H'), rfl, by simp [flatV], ?_⟩
      rw [inV_str]
      simp only [isGiven, c, Bool.true_and] at z
      exact z
    · have c : isWord (.str x) = false := by simpa using c
      refine if_no c ?_
      simp only [isGiven, c, Bool.false_and] at z
      exact z
  | _ => exact if_no rfl z
theorem ok_is_sent_value (F : Has K mg "is_sent_value" s_is_sent_value) (T : Txt K mg) (F_is_between : FnQ P w K mg base CX0 2 "is_between" ["value", "low", "high"] (spBtw K)) : FnQ P w K mg base CX0 3 "is_sent_value" ["value"] (spChk K isVal) := by
  refine F.q sc_is_sent_value (fun _ _ _ _ _ _ us hl => match us, hl with | [_], _ => rfl) (fun vs H Q E h => by obtain ⟨v, d, rfl, _⟩ := h; rfl) (fun cdv A outer s H vs Q E hr h => ?_)
  obtain ⟨v, d, rfl, hd, k⟩ := h
  refine ⟨_, PSs.nox (pss_one (ps_ret (pe_f F_is_between hr pass0 (pa_cons (pv 0) (pa_cons (pe_un un_neg (C8.pe_gc (by rfl) T.c_LARGEST_VALUE)) (pa_cons (C8.pe_gc (by rfl) T.c_LARGEST_VALUE) pa_nil)))))), ?_⟩
  exact ⟨_, rfl, _, rfl, v, d, _, _, rfl, hd, k⟩
end
end K08
namespace K08H
open PySem PySem.Spec PyProof.Rows L2 K08
abbrev wN : List Str := ["name", "restart", "opening", "closing", "deadline", "refused", "script"]
abbrev sN : List Str := ["name", "children", "restart", "strategy", "most", "span", "deadline"]
abbrev rN : List Str := ["plan", "below"]
def lE : List Value := [.type "LookupError", .type "Exception", .type "BaseException", .type "object"]
def vE : List Value := [.type "ValueError", .type "Exception", .type "BaseException", .type "object"]
/-- the address of the empty tuple among WorkerPlan's defaults -/
def dsAt (K : PySem.W.Frag) : Addr := match K.lookup (He.ma K (wkA K) "__init__") with
  | some ⟨_, _, .func fd, _⟩ => (match fd.kwdefaults with
    | .ref D => (match PySem.W.nsIn K D "script" with
      | some (some (.ref a)) => a
      | _ => 0)
    | _ => 0)
  | _ => 0
def dF (x : Str) (i : Nat) : He.DefD := ⟨(x, none), x, x, defArgs (top i), defBody (top i), defScope (top i), [], []⟩
def dI (c : Str) (i : Nat) : He.DefD := ⟨(c, some "__init__"), "__init__", c ++ ".__init__", defArgs (inClass (top i) 0), defBody (inClass (top i) 0), defScope (inClass (top i) 0), [], []⟩
def dW : He.DefD := ⟨("WorkerPlan", some "__init__"), "__init__", "WorkerPlan.__init__", defArgs (inClass (top 53) 0), defBody (inClass (top 53) 0), defScope (inClass (top 53) 0), [], [("restart", .str "permanent"), ("opening", .int 0), ("closing", .int 0), ("deadline", .non), ("refused", .int 0), ("script", .adr dsAt)]⟩
def dLw : He.DefD := ⟨("WorkerPlan", some "__len__"), "__len__", "WorkerPlan.__len__", defArgs (inClass (top 53) 2), defBody (inClass (top 53) 2), defScope (inClass (top 53) 2), [], []⟩
def dLs : He.DefD := ⟨("SupervisorPlan", some "__len__"), "__len__", "SupervisorPlan.__len__", defArgs (inClass (top 54) 2), defBody (inClass (top 54) 2), defScope (inClass (top 54) 2), [], []⟩
def dS : He.DefD := ⟨("SupervisorPlan", some "__init__"), "__init__", "SupervisorPlan.__init__", defArgs (inClass (top 54) 0), defBody (inClass (top 54) 0), defScope (inClass (top 54) 0), [], [("restart", .str "permanent"), ("strategy", .str "one"), ("most", .int 1), ("span", .int 10), ("deadline", .non)]⟩
def dCw : He.DefD := ⟨("WorkerPlan", some "__contains__"), "__contains__", "WorkerPlan.__contains__", defArgs (inClass (top 53) 3), defBody (inClass (top 53) 3), defScope (inClass (top 53) 3), [], []⟩
def dCs : He.DefD := ⟨("SupervisorPlan", some "__contains__"), "__contains__", "SupervisorPlan.__contains__", defArgs (inClass (top 54) 3), defBody (inClass (top 54) 3), defScope (inClass (top 54) 3), [], []⟩
def dEw : He.DefD := ⟨("WorkerPlan", some "__eq__"), "__eq__", "WorkerPlan.__eq__", defArgs (inClass (top 53) 1), defBody (inClass (top 53) 1), defScope (inClass (top 53) 1), [], []⟩
def dEs : He.DefD := ⟨("SupervisorPlan", some "__eq__"), "__eq__", "SupervisorPlan.__eq__", defArgs (inClass (top 54) 1), defBody (inClass (top 54) 1), defScope (inClass (top 54) 1), [], []⟩
def fns1 : List (Str × Nat) := [("is_integer", 10), ("is_between", 11), ("is_one_of", 12), ("is_word", 13), ("is_place_name", 14), ("is_sent_word", 15), ("is_sent_value", 16), ("is_given_reason", 17), ("is_deed", 33), ("_is_item", 34), ("_is_deed_value", 35), ("_has_add", 36), ("_is_row", 37), ("_are_deeds", 38), ("wrong_row", 39), ("is_script", 40), ("is_plan", 55), ("_is_deadline", 56)]
def fns2 : List (Str × Nat) := [("_check_settings", 57), ("_check_children", 58), ("plans_in", 59), ("names", 60), ("plan_at", 61), ("path_to", 62), ("_way_to", 63), ("_turn_to", 64), ("levels_of", 65), ("greatest_product", 66), ("_broken_rule", 67), ("check_root", 68), ("is_root", 69), ("changed", 70), ("_changed_below", 71), ("with_children", 72), ("_with_settings", 73), ("_settings_of", 74)]
def fns3 : List (Str × Nat) := [("_supervisor", 75), ("plan_text", 83), ("_lines_of", 84), ("_words_of", 85), ("read_plan", 86), ("_depth_of", 87), ("_can_stand", 88), ("_plan_of", 89), ("_made_of", 90), ("_number_of", 91), ("_deadline_of", 92), ("_built", 93), ("_law_begun", 95), ("_law_next", 96), ("_law_of", 97), ("_law_words", 98), ("_law_worker", 99), ("_law_over", 100)]
def fns4 : List (Str × Nat) := [("_law_tree", 101), ("_law_sup", 102), ("_law_build", 103), ("_law_renamed", 104), ("_law_rule", 105), ("_law_got", 106), ("_law_counts_right", 107), ("_law_parts_right", 108), ("_law_renamed_text", 109), ("_law_renaming_right", 110), ("law", 111)]
def fns : List (Str × Nat) := fns1 ++ (fns2 ++ (fns3 ++ (fns4)))
def dR : He.DefD := ⟨("Row", some "__init__"), "__init__", "Row.__init__", defArgs (inClass (top 82) 0), defBody (inClass (top 82) 0), defScope (inClass (top 82) 0), [], []⟩
def fn : List He.DefD := dW :: dS :: dLw :: dLs :: dEw :: dEs :: dR :: dCw :: dCs :: (fns.map (fun p => dF p.1 p.2) ++ [dI "BadSetting" 21, dI "BadChild" 22, dI "BadScript" 25, dI "BadText" 24, dI "BadRoot" 23, dI "NoPlace" 26])
def tupB (K : PySem.W.Frag) (a : Addr) (xs : List V) : Bool := match K.lookup a with
  | some ⟨.type c, _, .seq its _, _⟩ => decide (c = "tuple") && (decide (its.size ≤ 1000) && He.relAll xs its.toList)
  | _ => false
def insB (K : PySem.W.Frag) (x : Str) : Bool := (He.Fa.cls x).ok K && (decide (PySem.W.findIn K (.ref (He.ga K x)) "__class__" = some (some (.builtin "object.__class__"))) && (decide (PySem.W.specialIn K (.builtin "object.__class__") "__get__" = some (some (.builtin "getset_descriptor.__get__"))) &&
  (decide (PySem.W.takesIn K (.builtin "object.__class__") = some true) && (decide (PySem.W.mroIn K (He.ga K x) (.type "object") = some true) && decide (PySem.W.kitOne K (.ref (He.ga K x)) (.ref (He.ga K x)) = some true)))))
def errB (K : PySem.W.Frag) (x f : Str) : Bool := (He.Fa.glo x).ok K && (xclB K (He.ga K x) "ValueError.__new__" vE && (decide (PySem.W.findIn K (.ref (He.ga K x)) "__init__" = some (some (.ref (He.ma K (He.ga K x) "__init__")))) && (decide (PySem.W.typeIn K (.ref (He.ma K (He.ga K x) "__init__")) = some (.type "function")) &&
  (decide (PySem.W.findIn K (.ref (He.ga K x)) f = some none) && decide (PySem.W.typeIn K (.ref (He.ga K x)) = some (.type "type"))))))
/-- the deeds' table: its keys, and what lies at each -/
def deedsB (K : PySem.W.Frag) : Bool := deedItems.all fun p => match PySem.W.nsIn K (He.ga K "DEED_ITEMS") p.1 with
  | some (some (.ref a)) => tupB K a (p.2.map V.str)
  | _ => false
def keysB (K : PySem.W.Frag) : Bool := match K.lookup (He.ga K "DEED_ITEMS") with
  | some ⟨_, _, .dict es _, _⟩ => es.toList.all fun e => match e.key with
    | .str x _ => (deedItems.lookup x).isSome
    | _ => false
  | _ => false
def frag1 : List Str := "DEED_ITEMS" :: clss
def fnB (K : PySem.W.Frag) (C : Addr) (f : Str) : Bool := decide (PySem.W.findIn K (.ref C) f = some (some (.ref (He.ma K C f)))) && (decide (PySem.W.typeIn K (.ref (He.ma K C f)) = some (.type "function")) && PySem.W.isFn K (.ref (He.ma K C f)))
def eqsB (K : PySem.W.Frag) : Bool := (fnB K (wkA K) "__eq__" && fnB K (suA K) "__eq__") && (decide (PySem.W.findIn K (.ref (wkA K)) "__ne__" = some (some (.builtin "object.__ne__"))) && (decide (PySem.W.findIn K (.ref (suA K)) "__ne__" = some (some (.builtin "object.__ne__"))) &&
  (decide (PySem.W.subIn K (.ref (wkA K)) (.type "object") = some true) && decide (PySem.W.subIn K (.ref (suA K)) (.type "object") = some true))))
def lensB (K : PySem.W.Frag) : Bool := decide (PySem.W.findIn K (.ref (wkA K)) "__len__" = some (some (.ref (He.ma K (wkA K) "__len__")))) && (decide (PySem.W.typeIn K (.ref (He.ma K (wkA K) "__len__")) = some (.type "function")) && (decide (PySem.W.findIn K (.ref (suA K)) "__len__" = some (some (.ref (He.ma K (suA K) "__len__")))) && decide (PySem.W.typeIn K (.ref (He.ma K (suA K) "__len__")) = some (.type "function"))))
def errTB (K : PySem.W.Frag) : Bool := decide (PySem.W.exmOne K (.ref (He.ga K "BadRoot")) (.ref (He.ga K "BadRoot")) = some true) && decide (PySem.W.exmOne K (.ref (He.ga K "NoPlace")) (.ref (He.ga K "NoPlace")) = some true)
def errLB (K : PySem.W.Frag) (x f : Str) : Bool := (He.Fa.glo x).ok K && (xclB K (He.ga K x) "LookupError.__new__" lE && (decide (PySem.W.findIn K (.ref (He.ga K x)) "__init__" = some (some (.ref (He.ma K (He.ga K x) "__init__")))) && (decide (PySem.W.typeIn K (.ref (He.ma K (He.ga K x) "__init__")) = some (.type "function")) &&
  (decide (PySem.W.findIn K (.ref (He.ga K x)) f = some none) && decide (PySem.W.typeIn K (.ref (He.ga K x)) = some (.type "type"))))))
def insIB (K : PySem.W.Frag) : Bool := fnB K (wkA K) "__contains__" && fnB K (suA K) "__contains__"
def fa : List He.Fx := [fun K => (frag1 ++ (cTups.map (·.1) ++ fns.map (·.1))).all fun x => (He.Fa.glo x).ok K, fun K => frees.all fun x => (He.Fa.free x).ok K, fun K => cInts.all fun p => (He.Fa.int p.1 p.2).ok K, fun K => cStrs.all fun p => (He.Fa.str p.1 p.2).ok K,
  fun K => cTups.all fun p => tupB K (He.ga K p.1) (p.2.map V.str), fun K => insB K "WorkerPlan", fun K => insB K "SupervisorPlan", kitD, fun K => wN.all fun f => (He.Fa.noat "WorkerPlan" f).ok K, fun K => (He.Fa.mkr "WorkerPlan").ok K, fun K => tupB K (dsAt K) [], deedsB, keysB,
  fun K => errB K "BadSetting" "setting", fun K => errB K "BadScript" "index", fun K => sN.all fun f => (He.Fa.noat "SupervisorPlan" f).ok K, fun K => (He.Fa.mkr "SupervisorPlan").ok K, lensB, fun K => errB K "BadChild" "index", eqsB, fun K => errB K "BadText" "line",
  fun K => (He.Fa.cls "Row").ok K, fun K => rN.all fun f => (He.Fa.noat "Row" f).ok K, fun K => (He.Fa.mkr "Row").ok K, insIB, errTB, fun K => errLB K "NoPlace" "place", fun K => errB K "BadRoot" "rule"]
def ts : List He.Tab := [(fun K => He.ga K "DEED_ITEMS", deedItems.map (·.1))]
abbrev R : PySem.W.OpenRow := PySem.W.OpenLaw.row PySem.Challenge.rw_watchtree_k08_whole_plans_related
abbrev hk : PySem.W.Hook := He.hookXT 4 [dsAt] fa fn ts
def ob (s : PySem.W.SharedT) : He.AlT := He.obsXTG 4 [dsAt] fa fn ts (HandSHeadRun.getT s)
theorem ob_eq (s : PySem.W.SharedT) : ob s = hk.obs s.abs := He.obsXTG_eq (HandSHeadRun.getT_eq s)
def loose1 : List Str := ["AnyWorker", "LARGEST_VALUE", "MOST_SIGNS", "LETTERS", "SIGNS", "DEED_NAMES", "TREE_WORDS", "TREE_REASONS", "is_integer", "is_between", "is_one_of", "is_word", "is_place_name", "is_sent_word", "is_sent_value", "is_given_reason", "PlanError", "AbsentError", "BadSetting", "BadChild"]
def loose2 : List Str := ["BadRoot", "BadText", "BadScript", "NoPlace", "MOST_ROWS", "MOST_DEEDS", "MOST_WORK", "MOST_TICKS_LATER", "DEED_ITEMS", "is_deed", "_is_item", "_is_deed_value", "_has_add", "_is_row", "_are_deeds", "wrong_row", "is_script", "RESTARTS", "STRATEGIES", "MOST_TICKS"]
def loose3 : List Str := ["MOST_REFUSED", "MOST_RESTARTS", "MOST_CHILDREN", "MOST_LEVELS", "MOST_PLANS", "MOST_ROOT_PLANS", "MOST_ROOT_LEVELS", "MOST_ROOT_PRODUCT", "WorkerPlan", "SupervisorPlan", "is_plan", "_is_deadline", "_check_settings", "_check_children", "plans_in", "names", "plan_at", "path_to", "_way_to", "_turn_to"]
def loose4 : List Str := ["levels_of", "greatest_product", "_broken_rule", "check_root", "is_root", "changed", "_changed_below", "with_children", "_with_settings", "_settings_of", "_supervisor", "INDENT", "DIGITS", "MOST_DIGITS", "WORDS_OF_LINE", "NO_NUMBER", "Row", "plan_text", "_lines_of", "_words_of"]
def loose5 : List Str := ["read_plan", "_depth_of", "_can_stand", "_plan_of", "_made_of", "_number_of", "_deadline_of", "_built", "_law_begun", "_law_next", "_law_of", "_law_words", "_law_worker", "_law_over", "_law_tree", "_law_sup", "_law_build", "_law_renamed", "_law_rule", "_law_got"]
def loose6 : List Str := ["_law_counts_right", "_law_parts_right", "_law_renamed_text", "_law_renaming_right"]
def loose : List Str := loose1 ++ (loose2 ++ (loose3 ++ (loose4 ++ (loose5 ++ (loose6)))))
/-! the head's run, looked at in three parts (each fits the memory) -/
abbrev Rq : Program := PySem.W.view R.prog [111]
open PySem.W PySem.Calls HandSHeadRun in
def LkP (w : World) : Prop := ∀ os : OsState, (HandSHeadRun.endF (HandSHeadRun.stepQ (HandSHeadRun.denQ HandSHeadRun.tabQ) R.prog w) 20000 R.prog w os).map (fun s => (looksF R.prog (boot_heap w.params) s.abs, seenQ Rq loose (importedModules R.prog.main.body) (fun s => xlAt Rq [] s && recOk R.toRowW.records s) s.abs)) = some (true, openGood Rq loose)
/-- the facts; the defs' facts; the defs; the tables -/
def obP (fa : List He.Fx) (fn : List He.DefD) (ts : List He.Tab) (s : PySem.W.SharedT) : He.AlT := He.obsXTG 4 [dsAt] fa fn ts (HandSHeadRun.getT s)
def FaP (w : World) : Prop := ∀ os : OsState, (HandSHeadRun.endF (HandSHeadRun.stepQ (HandSHeadRun.denQ HandSHeadRun.tabQ) R.prog w) 20000 R.prog w os).map (fun s => (obP fa [] [] s).1.1) = some true
def FnP (w : World) : Prop := ∀ os : OsState, (HandSHeadRun.endF (HandSHeadRun.stepQ (HandSHeadRun.denQ HandSHeadRun.tabQ) R.prog w) 20000 R.prog w os).map (fun s => (obP [] fn [] s).1.1) = some true
def DmP (w : World) : Prop := ∀ os : OsState, (HandSHeadRun.endF (HandSHeadRun.stepQ (HandSHeadRun.denQ HandSHeadRun.tabQ) R.prog w) 20000 R.prog w os).map (fun s => (obP [] fn [] s).1.2) = some (He.valT fn ts w).1.2
def TbP (w : World) : Prop := ∀ os : OsState, (HandSHeadRun.endF (HandSHeadRun.stepQ (HandSHeadRun.denQ HandSHeadRun.tabQ) R.prog w) 20000 R.prog w os).map (fun s => (obP [] [] ts s).2) = some (He.valT fn ts w).2
theorem run_of {w : World} (h1 : LkP w) (h2 : FaP w) (h3 : FnP w) (h4 : DmP w) (h5 : TbP w) : HandSHeadRun.RunEq R Rq hk ob 20000 loose w := by
  intro os
  have a := h1 os
  have b := h2 os
  have c := h3 os
  have d := h4 os
  have e := h5 os
  revert a b c d e
  generalize (HandSHeadRun.endF (HandSHeadRun.stepQ (HandSHeadRun.denQ HandSHeadRun.tabQ) R.prog w) 20000 R.prog w os) = E
  intro a b c d e
  cases E with
  | none => cases a
  | some s =>
    rw [Option.map_some] at a b c d e ⊢
    have a2 := congrArg (fun z => z.1) (Option.some.inj a)
    have a3 := congrArg (fun z => z.2) (Option.some.inj a)
    have b2 : ((fa.all fun f => f (He.frG (HandSHeadRun.getT s) (He.asY (HandSHeadRun.getT s) 4 [dsAt]))) && true) = true := Option.some.inj b
    have c2 : (true && fn.all fun d => d.ok (He.frG (HandSHeadRun.getT s) (He.asY (HandSHeadRun.getT s) 4 [dsAt]))) = true := Option.some.inj c
    have o1 : (ob s).1.1 = true := by
      show ((fa.all fun f => f (He.frG (HandSHeadRun.getT s) (He.asY (HandSHeadRun.getT s) 4 [dsAt]))) && fn.all fun d => d.ok (He.frG (HandSHeadRun.getT s) (He.asY (HandSHeadRun.getT s) 4 [dsAt]))) = true
      rw [Bool.and_true] at b2
      rw [Bool.true_and] at c2
      rw [b2, c2]
      rfl
    have d2 : (ob s).1.2 = (He.valT fn ts w).1.2 := Option.some.inj d
    have e2 : (ob s).2 = (He.valT fn ts w).2 := Option.some.inj e
    have o : ob s = hk.val w := Prod.ext (Prod.ext o1 d2) e2
    exact congrArg some (Prod.ext a2 (Prod.ext a3 o))
theorem run_lk_f (w : World) : LkP (w.withFollow "special-get-raises" false) := by
  intro os
  kernel_rfl
theorem run_lk_t (w : World) : LkP (w.withFollow "special-get-raises" true) := by
  intro os
  kernel_rfl
theorem run_fa_f (w : World) : FaP (w.withFollow "special-get-raises" false) := by
  intro os
  kernel_rfl
theorem run_fa_t (w : World) : FaP (w.withFollow "special-get-raises" true) := by
  intro os
  kernel_rfl
theorem run_fn_f (w : World) : FnP (w.withFollow "special-get-raises" false) := by
  intro os
  kernel_rfl
theorem run_fn_t (w : World) : FnP (w.withFollow "special-get-raises" true) := by
  intro os
  kernel_rfl
theorem run_dm_f (w : World) : DmP (w.withFollow "special-get-raises" false) := by
  intro os
  kernel_rfl
theorem run_dm_t (w : World) : DmP (w.withFollow "special-get-raises" true) := by
  intro os
  kernel_rfl
theorem run_tb_f (w : World) : TbP (w.withFollow "special-get-raises" false) := by
  intro os
  kernel_rfl
theorem run_tb_t (w : World) : TbP (w.withFollow "special-get-raises" true) := by
  intro os
  kernel_rfl
theorem run (w : World) : HandSHeadRun.RunEq R (PySem.W.view R.prog [111]) hk ob 20000 loose w :=
  PySem.W.byRow2 "special-get-raises" (P := fun w => HandSHeadRun.RunEq R (PySem.W.view R.prog [111]) hk ob 20000 loose w) (fun w => run_of (run_lk_f w) (run_fa_f w) (run_fn_f w) (run_dm_f w) (run_tb_f w)) (fun w => run_of (run_lk_t w) (run_fa_t w) (run_fn_t w) (run_dm_t w) (run_tb_t w)) w
end K08H
/-! a, b, c = x, y, z: the names are stored from behind -/
namespace L2
open PySem PySem.Spec PyProof.Rows
def setSeq : List Nat → List V → St → St
  | i :: is, x :: xs, σ => setSeq is xs (σ.set i (some x))
  | _, _, σ => σ
section
variable {X : Cx} {pins : List (Addr × Obj)} {H : Hp} {M : Model} {A : Around} {E : Value → Shared → Prop}
/-- names as they stand in the list -/
inductive Nms (X : Cx) : List Nat → List Str → Prop
  | nil : Nms X [] []
  | cons {i : Nat} {x : Str} {is : List Nat} {ns : List Str} (hi : X.N[i]? = some x) (hx : Loc X.env.scope x) (hf : X.fn x = true ∨ X.env.scope.names.lookup x = some .local) (r : Nms X is ns) : Nms X (i :: is) (x :: ns)
theorem Nms.len {is : List Nat} {ns : List Str} (h : Nms X is ns) : is.length = ns.length := by
  induction h with
  | nil => rfl
  | cons _ _ _ _ ih => rw [List.length_cons, List.length_cons, ih]
theorem stores_ok (hN : X.N.Nodup) : ∀ {is : List Nat} {ns : List Str} {xs : List V} {us : List Value} {σ : St} {s : Shared} {Q : Unit → Shared → Prop}, Nms X is ns → Vals xs us → Inv X pins σ H s → (∀ s', Inv X pins (setSeq is xs σ) H s' → Q () s') →
    wpAny M A (assignInOrder (ns.map fun n => bindName X.env n) us) Q E s
  | _, _, _, _, σ, s, Q, .nil, _, I, h => by
    refine wpAny_pure (h s ?_)
    unfold setSeq
    exact I
  | _, _, _, _, σ, s, Q, .cons hi hx hf r, .nil, I, h => wpAny_pure (h s I)
  | _, _, _, _, σ, s, Q, .cons hi hx hf r, .cons rx rr, I, h => by
    refine wpAny_bind (wpAny_holding (wpAny_bind (wpAny_holding (wpAny_point (wpAny_bind (store_ok I hN hi hx rx (fun s1 I1 => wpAny_point ?_) hf))))))
    exact stores_ok hN r rr I1 h
/-- target names = a tuple of as many -/
def tSwap (K : PySem.W.Frag) (is : List Nat) (te : TE) : TS := fun D σ H => te σ H fun v H1 => ∃ a xs, v = .ref a ∧ SqT K H1 a xs ∧ xs.length = is.length ∧ D.nx (setSeq is.reverse xs.reverse σ) H1
theorem Vals.rev {xs : List V} {us : List Value} (h : Vals xs us) : Vals xs.reverse us.reverse := by
  induction h with
  | nil => exact .nil
  | cons r _ ih =>
    rw [List.reverse_cons, List.reverse_cons]
    exact ih.append (.cons r .nil)
theorem ps_swap {tg e : Expr} {te : TE} {pos : Pos} {is : List Nat} {ns : List Str} (hc : X.calm = true) (hN : X.N.Nodup) (he : PE X e te) (hn : Nms X is.reverse ns.reverse) (hs : swapsWithSole [tg] e pos.line X.env = pure false := by rfl) (hw : swappedStores [tg] e X.env = pure (some ns) := by rfl) :
    PS X (.Assign [tg] e pos) (tSwap X.K is te) := by
  refine ⟨fun pins s σ H D I h => ?_⟩
  rw [exec_Assign_arm]
  refine wpAny_bind (wpAny_standAt ?_)
  rw [hs]
  refine wpAny_bind (wpAny_pure ?_)
  rw [if_neg (by decide)]
  refine wpAny_bind (thn (he.run pins s σ H _ I h) fun v s1 ⟨x, H1, I1, r1, a, xs, ex, hq, hl, q⟩ => ?_)
  subst ex
  cases r1
  rw [hw]
  refine wpAny_bind (wpAny_pure ?_)
  obtain ⟨its, rv, ht, hz⟩ := I1.tuple hq
  have ln : ns.length = its.toArray.size := by
    have z := hn.len
    rw [List.length_reverse, List.length_reverse] at z
    have y := rv.length
    rw [List.size_toArray]
    omega
  refine wpAny_bind (wpAny_rule (wpAny_bind ?_))
  rw [ln]
  refine unpackItems_tuple (I.ok.hd hc) ht fun h' hx => ?_
  have I2 : Inv X pins σ H1 { s1 with heap := h' } := I1.kept (t' := s1.toks) fun b o e => hx b o (Nat.ne_of_lt (Heap.lt_size e)) e
  refine wpAny_bind (stores_ok hN hn (Vals.rev (by simpa using rv)) I2 fun s' I' => wpAny_pure ?_)
  exact ⟨_, _, I', q⟩
end
end L2
/-! str of a string, an integer, None; a string times a number -/
namespace L2
open PySem PySem.Spec PyProof.Rows
/-- what str tells of a value -/
def strV : V → Str
  | .int i => Str.ofString (toString i)
  | .str x => x
  | _ => "None"
/-- a value that str is understood of -/
def Strb : V → Prop
  | .int i => i.natAbs.log2 < 1920
  | .str _ => True
  | .non => True
  | _ => False
theorem call_strV {X : Cx} : CallR X (.type "str") fun xs H Q => ∃ x, xs = [x] ∧ Strb x ∧ Q (.str (strV x)) H := by
  intro pins s σ H xs us Q I r h
  obtain ⟨x, rfl, hx, q⟩ := h
  obtain ⟨u, rfl, ru⟩ := vals1 r
  cases x with
  | int i =>
    obtain ⟨t, rfl⟩ := ru
    exact P.str_of_int hx ⟨.str _, H, Inv.tok I _, ⟨_, rfl⟩, q⟩
  | str x =>
    obtain ⟨t, rfl⟩ := ru
    exact P.str_of_str ⟨.str _, H, I, ⟨_, rfl⟩, q⟩
  | non =>
    cases ru
    exact P.str_of_none ⟨.str _, H, Inv.tok I _, ⟨_, rfl⟩, q⟩
  | bl b => exact hx.elim
  | byt b => exact hx.elim
  | flt b => exact hx.elim
  | ref a => exact hx.elim
  | ty n => exact hx.elim
theorem op_mul_str {X : Cx} : OpR X (binaryOp .Mult) fun x y H Q => ∃ (a : Str) (k : Nat), x = .str a ∧ y = .int k ∧ a.length ≤ 4096 ∧ k ≤ 4096 ∧ (Txt.mul a (k : Int)).length ≤ sizeLine ∧ Q (.str (Txt.mul a k)) H := by
  intro pins s σ H x y v u Q I rv ru h
  obtain ⟨a, k, rfl, rfl, la, lk, lm, q⟩ := h
  obtain ⟨t, rfl⟩ := rv
  obtain ⟨t', rfl⟩ := ru
  have hk : a.length * k ≤ sizeLine := Nat.le_trans (Nat.mul_le_mul la lk) (by decide)
  refine P.mul_str ?_ (fun h1 _ => ?_) (fun h1 _ => ?_) ?_
  · rw [Bool.or_eq_false_iff]
    exact ⟨decide_eq_false (by omega), decide_eq_false (by omega)⟩
  · have kp : (0 : Int) < k := by omega
    have z : (4096 : Int) ≤ (2 ^ 63 - 1) / (k : Int) := by
      rw [Int.le_ediv_iff_mul_le kp]
      have : (k : Int) ≤ 4096 := by omega
      omega
    omega
  · show decide (a.length * (k : Int).toNat > sizeLine) = false
    rw [Int.toNat_natCast]
    exact decide_eq_false (by omega)
  · unfold Txt.mul at q lm
    split
    · rename_i c
      rw [if_pos c] at q
      exact ⟨by decide, .str _, H, Inv.tok I _, ⟨_, rfl⟩, q⟩
    · rename_i c
      rw [if_neg c] at q lm
      split
      · rename_i d
        rw [if_pos d] at q
        exact ⟨.str _, H, I, ⟨_, rfl⟩, q⟩
      · rename_i d
        rw [if_neg d] at q lm
        exact ⟨lm, .str _, H, Inv.tok I _, ⟨_, rfl⟩, q⟩
end L2
/-! repr of a truth -/
namespace L2
open PySem PySem.Spec PyProof.Rows
def reprB (b : Bool) : Str := if b = true then Str.ofString "True" else Str.ofString "False"
theorem call_reprB {X : Cx} : CallR X (.builtin "repr") (fun xs H Q => ∃ b, xs = [V.bl b] ∧ Q (.str (reprB b)) H) := by
  intro pins s σ H xs us Q I r h
  obtain ⟨b, rfl, q⟩ := h
  obtain ⟨u, rfl, ru⟩ := vals1 r
  obtain rfl : u = Value.bool b := ru
  exact P.repr_of_bool ⟨.str _, H, Inv.tok I _, ⟨_, rfl⟩, q⟩
end L2
/-! t[lo:hi] of a tuple, be it the whole or not; t + u of tuples, be one empty or not -/
namespace L2
open PySem PySem.Spec PyProof.Rows
def rSlW (K : PySem.W.Frag) : V → Option Int → Option Int → Hp → VK → Prop := fun x lo hi H Q => ∃ a xs, x = .ref a ∧ SqT K H a xs ∧ ∀ p H', Same H H' → SqT K H' p (cutV xs lo hi) → Q (.ref p) H'
theorem sl_tupW {X : Cx} : SlR X (rSlW X.K) := by
  intro pins s σ H x v vl vu lo hi sl Q I rx hs pl pu h
  obtain ⟨a, xs, rfl, hx, q⟩ := h
  refine sl_tupA pins s σ H _ v vl vu lo hi sl Q I rx hs pl pu ⟨a, xs, rfl, hx, fun w => ?_, fun _ p np => ?_⟩
  · refine q a H (Same.refl H) ?_
    have e : cutV xs lo hi = xs := by
      unfold cutV
      rw [w.1, w.2, List.drop_zero, Nat.sub_zero, List.take_length]
    rw [e]; exact hx
  · exact q p _ (Same.new np) (SqT.of upd_same)
theorem sl_tupWK {X : Cx} (K : PySem.W.Frag) (h : X.K = K := by rfl) : SlR X (rSlW K) := by
  subst h; exact sl_tupW
/-- t + u -/
def rCatW (K : PySem.W.Frag) : R2 := fun x y H Q => ∃ a b xs ys, x = .ref a ∧ y = .ref b ∧ SqT K H a xs ∧ SqT K H b ys ∧ xs.length + ys.length ≤ sizeLine ∧ ∀ p H', Same H H' → SqT K H' p (xs ++ ys) → Q (.ref p) H'
theorem op_catW {X : Cx} : OpR X (binaryOp .Add) (rCatW X.K) := by
  intro pins s σ H x y v u Q I rx ry h
  obtain ⟨a, b, xs, ys, rfl, rfl, ha, hb, hz, q⟩ := h
  refine op_catA pins s σ H _ _ v u Q I rx ry ⟨a, b, xs, ys, rfl, rfl, ha, hb, hz, fun e => ?_, fun _ e => ?_, fun _ _ p np => ?_⟩
  · subst e; exact q b H (Same.refl H) hb
  · subst e; exact q a H (Same.refl H) (by rw [List.append_nil]; exact ha)
  · exact q p _ (Same.new np) (SqT.of upd_same)
end L2
/-! sets of texts: added to, gathered, sorted -/
namespace L2
open PySem PySem.Spec PyProof.Rows
def txtOf (e : Int × Value) : Str := match e.2 with
  | .str x _ => x
  | _ => Str.empty
def GoodT (w : World) (e : Int × Value) : Prop := ∃ x tk, e.2 = Value.str x tk ∧ e.1 = hashStr w x
/-- the set of texts at a: M its members, n their number; it can be walked -/
def SetX (w : World) (h : Heap) (a : Addr) (M : Str → Bool) (n : Nat) : Prop :=
  ∃ ob es ep tb, h.get? a = some ob ∧ ob.ExactSet ∧ ob.data = .set es ep tb ∧ (∀ e ∈ es.toList, GoodT w e) ∧ (es.toList.map txtOf).Nodup ∧ (∀ x, M x = true ↔ x ∈ es.toList.map txtOf) ∧
    es.size < scanBound ∧ tb.fits es.size = true ∧ es.size = n ∧ Ris tb.place.toList ∧ (w.params.followText "set-order" = true ∨ tb.led = true)
section
variable {P : Program} {w : World} {h h' : Heap} {a : Addr} {M : Str → Bool} {n : Nat}
theorem SetX.at (R : SetX w h a M n) (k : ∀ ob, h.get? a = some ob → h'.get? a = some ob) : SetX w h' a M n := by
  obtain ⟨ob, es, ep, tb, at_, rest⟩ := R
  exact ⟨ob, es, ep, tb, k ob at_, rest⟩
theorem goodT_is {e : Int × Value} (g : GoodT w e) (x : Str) : (strKind P w).is x e.2 = true ↔ txtOf e = x := by
  obtain ⟨y, tk, e1, _⟩ := g
  unfold txtOf
  rw [e1]
  show Value.isStrOf x (.str y tk) = true ↔ y = x
  simp [Value.isStrOf]
theorem goodT_elems {l : List (Int × Value)} (g : ∀ e ∈ l, GoodT w e) : ElemsOf (strKind P w) l := fun e he => by
  obtain ⟨x, tk, e1, e2⟩ := g e he
  exact ⟨⟨x, (goodT_is (g e he) x).2 (by unfold txtOf; rw [e1]), e2⟩, by rw [e1] <;> rfl⟩
theorem goodT_mem {l : List (Int × Value)} (g : ∀ e ∈ l, GoodT w e) (x : Str) : x ∈ l.map txtOf ↔ ∃ e ∈ l, (strKind P w).is x e.2 = true := by
  constructor
  · intro m
    obtain ⟨e, he, q⟩ := List.mem_map.mp m
    exact ⟨e, he, (goodT_is (g e he) x).2 q⟩
  · rintro ⟨e, he, q⟩
    exact List.mem_map.mpr ⟨e, he, (goodT_is (g e he) x).1 q⟩
theorem SetX.type {s : Shared} (R : SetX w s.heap a M n) : s.TypeIs (.ref a) "set" := by
  obtain ⟨ob, _, _, _, at_, ex, _⟩ := R
  exact ⟨ob, at_, ex.1⟩
theorem tset_fresh {h : Heap} (w : World) : SetX w (h.push { cls := .type "set", dict := none, data := .set #[] 0 (.fresh 0 0 (!w.params.followText "set-order")) }) h.objs.size (fun _ => false) 0 := by
  refine ⟨_, #[], 0, _, Heap.get?_push_size _ rfl, ⟨rfl, rfl, rfl⟩, rfl, (fun e he => by simp at he), (by simp), (fun x => by simp), (by decide), (by rfl), rfl, List.Pairwise.nil, ?_⟩
  show _ ∨ (!w.params.followText "set-order") = true
  cases w.params.followText "set-order" <;> simp
end
section
variable {P : Program} {w : World} {A : Around} {E : Value → Shared → Prop} {s : Shared} {a : Addr} {M : Str → Bool} {n : Nat}
/-- what is stored behind an add -/
theorem tset_tail {gate : Bool → Sem Unit} (hgate : ∀ (b : Bool) (s₁ : Shared) (Q' : Unit → Shared → Prop), Q' () s₁ → wpAny (model P w) A (gate b) Q' E s₁) {ob : Obj} {es : Array (Int × Value)} {ep : Nat} {tb : SetTable}
    (at_ : s.heap.get? a = some ob) (ex : ob.ExactSet) (hd : ob.data = .set es ep tb) {fs : Array (Int × Value)} {tc : SetTable} {M2 : Str → Bool} (good : ∀ e ∈ fs.toList, GoodT w e) (once : (fs.toList.map txtOf).Nodup) (mem : ∀ x, M2 x = true ↔ x ∈ fs.toList.map txtOf)
    (room : fs.size < scanBound) (fit : tc.fits fs.size = true) (ris : Ris tc.place.toList) (led : w.params.followText "set-order" = true ∨ tc.led = true) {dummy : Bool} {R : Option Bool → Shared → Prop}
    (fin : ∀ h', Heap.SameBut a s.heap h' → SetX w h' a M2 fs.size → R (some true) { s with heap := h' }) :
    wpAny (model P w) A (do
        storeSet a fs tc
        if (!dummy && tc.tooFull) = true then do
            gate (relayAll tc fs (SetTable.grown fs.size)).2.2
            storeSet a (relayAll tc fs (SetTable.grown fs.size)).1 (relayAll tc fs (SetTable.grown fs.size)).2.1
            pure (some true)
          else pure (some true)) R E s := by
  refine wpAny_bind (wpAny_storeSet_of at_ hd ?_ (fits_of_scanBound room))
  have at1 := store_at (es' := fs) (t' := tc) at_ hd
  have same1 := Heap.SameBut.update s.heap a (Obj.putSet fs tc)
  split
  · have perm := relayAll_perm tc fs (SetTable.grown fs.size)
    have fit3 := relayAll_fits tc fs (SetTable.grown fs.size)
    have ris3 := relayAll_ris tc fs (SetTable.grown fs.size)
    have led3 := relayAll_led tc fs (SetTable.grown fs.size)
    generalize relayAll tc fs (SetTable.grown fs.size) = Z at perm fit3 ris3 led3 ⊢
    obtain ⟨gs, td, gave⟩ := Z
    dsimp only at perm fit3 ris3 led3 ⊢
    have size3 : gs.size = fs.size := by rw [← Array.length_toList, perm.length_eq, Array.length_toList]
    have room3 : gs.size < scanBound := by rw [size3]; exact room
    refine wpAny_bind (hgate _ _ _ ?_)
    refine wpAny_bind (wpAny_storeSet_of at1 rfl ?_ (fits_of_scanBound room3))
    have at2 := store_at (es' := gs) (t' := td) at1 rfl
    refine wpAny_pure (fin _ (same1.trans (Heap.SameBut.update _ a _)) ?_)
    exact ⟨_, gs, _, td, at2, ex, rfl, fun e he => good e (perm.mem_iff.mp he), (perm.map txtOf).nodup_iff.mpr once, fun x => (mem x).trans (perm.map txtOf).mem_iff.symm, room3, fit3, size3, ris3, led.imp id fun z => by rw [led3]; exact z⟩
  · exact wpAny_pure (fin _ same1 ⟨_, fs, _, tc, at1, ex, rfl, good, once, mem, room, fit, rfl, ris, led⟩)
theorem tset_hashed {x : Str} {tk : Tok} {Q : Bool → Shared → Prop} (R : SetX w s.heap a M n) (room : n + 1 < scanBound)
    (fin : ∀ h', Heap.SameBut a s.heap h' → SetX w h' a (fun y => M y || decide (y = x)) (if M x = true then n else n + 1) → Q (!M x) { s with heap := h' }) :
    wpAny (model P w) A (setAddHashed a (.str x tk) ((strKind P w).hash x)) Q E s := by
  obtain ⟨ob, es, ep, tb, at_, ex, hd, good, once, mem, few, fit, size, ris, led⟩ := R
  have isx : (strKind P w).is x (.str x tk) = true := by
    show Value.isStrOf x (.str x tk) = true
    simp [Value.isStrOf]
  have scan : (Value.str x tk).scannable = true := rfl
  have elems : ElemsOf (strKind P w) es.toList := goodT_elems good
  unfold setAddHashed setAddHashedIn
  refine wpAny_holding (wpAny_bind (wpAny_setState_of at_ hd fit ?_))
  dsimp only
  rw [byScan_of scan few elems]
  simp only [↓reduceIte]
  unfold setAddByScan
  refine wpAny_bind (wpAny_bind (wpAny_rule (wpAny_bind (wpAny_setScan_of isx at_ hd fit elems ?_))))
  cases found : List.findIdx? (fun e => (strKind P w).is x e.2) es.toList with
  | some j =>
    dsimp only
    obtain ⟨hj, pj, _⟩ := List.findIdx?_eq_some_iff_getElem.mp found
    have there : M x = true := (mem x).2 ((goodT_mem (P := P) good x).2 ⟨es.toList[j], List.getElem_mem hj, pj⟩)
    refine wpAny_pure (wpAny_pure ?_)
    have z := fin s.heap (Heap.SameBut.refl a s.heap) ⟨ob, es, ep, tb, at_, ex, hd, good, once, fun y => by
      rw [Bool.or_eq_true, decide_eq_true_eq, ← mem y]
      exact ⟨fun q => q.elim id (fun e => e ▸ there), .inl⟩, few, fit, by rw [if_pos there]; exact size, ris, led⟩
    rw [there] at z
    exact z
  | none =>
    dsimp only
    have out : x ∉ es.toList.map txtOf := fun z => by
      obtain ⟨e, he, q⟩ := (goodT_mem (P := P) good x).1 z
      have c := List.findIdx?_eq_none_iff.mp found e he
      rw [q] at c
      cases c
    have new : M x = false := by
      cases q : M x with
      | false => rfl
      | true => exact absurd ((mem x).1 q) out
    have gateOk : ∀ (b : Bool) {s₁ : Shared} {Q' : Unit → Shared → Prop}, Q' () s₁ → wpAny (model P w) A (match b with | true => rule "set.scan.the-table-gave-way" | false => pure ()) Q' E s₁ :=
      fun b {s₁ Q'} q => match b with
        | true => wpAny_rule q
        | false => wpAny_pure q
    have perm := layNew_perm tb es ((strKind P w).hash x) (.str x tk)
    have fit1 := layNew_fits tb es ((strKind P w).hash x) (.str x tk)
    have ris1 := layNew_ris tb es ((strKind P w).hash x) (.str x tk) ris
    have led1 := layNew_led tb es ((strKind P w).hash x) (.str x tk)
    generalize layNew tb es ((strKind P w).hash x) (.str x tk) = Z at perm fit1 ris1 led1 ⊢
    obtain ⟨fs, tc, dummy, gave⟩ := Z
    dsimp only at perm fit1 ris1 led1 ⊢
    rw [Array.toList_push] at perm
    have pc : fs.toList.Perm (((strKind P w).hash x, Value.str x tk) :: es.toList) := perm.trans (List.perm_append_singleton _ _)
    have pk : (fs.toList.map txtOf).Perm (x :: es.toList.map txtOf) := pc.map txtOf
    have good1 : ∀ e ∈ fs.toList, GoodT w e := fun e he => by
      rcases List.mem_cons.mp (pc.mem_iff.mp he) with rfl | z
      · exact ⟨x, tk, rfl, rfl⟩
      · exact good e z
    have once1 : (fs.toList.map txtOf).Nodup := pk.nodup_iff.mpr (List.nodup_cons.mpr ⟨out, once⟩)
    have mem1 : ∀ y, (M y || decide (y = x)) = true ↔ y ∈ fs.toList.map txtOf := fun y => by
      rw [Bool.or_eq_true, decide_eq_true_eq, mem y, pk.mem_iff, List.mem_cons, or_comm]
    have size1 : fs.size = n + 1 := by rw [← Array.length_toList, pc.length_eq, List.length_cons, Array.length_toList, size]
    have room1 : fs.size < scanBound := by rw [size1]; exact room
    have ledOk : w.params.followText "set-order" = true ∨ tc.led = true := led.imp id fun z => by rw [led1]; exact z
    have last : ∀ h', Heap.SameBut a s.heap h' → SetX w h' a (fun y => M y || decide (y = x)) fs.size → Q true { s with heap := h' } := fun h' sb r => by
      have z := fin h' sb
      rw [new] at z
      rw [size1] at r
      exact z r
    refine wpAny_bind (gateOk _ ?_)
    split
    · refine wpAny_bind ?_
      rw [hashByValue_scannable 8 scan]
      refine wpAny_pure ?_
      refine tset_tail ?_ at_ ex hd good1 once1 mem1 room1 ?_ ?_ ?_ ?_
      · intro b s₁ Q' q
        exact gateOk b q
      · first | (split <;> first | exact fit1 | exact SetTable.fits_plain_off fit1) | exact fit1
      · first | (split <;> exact ris1) | exact ris1
      · first | (split <;> exact ledOk) | exact ledOk
      · intro h' sb r
        dsimp only
        exact wpAny_pure (last h' sb r)
    · refine wpAny_bind (wpAny_pure ?_)
      simp only [↓reduceIte]
      refine tset_tail ?_ at_ ex hd good1 once1 mem1 room1 fit1 ris1 ledOk ?_
      · intro b s₁ Q' q
        exact gateOk b q
      · intro h' sb r
        dsimp only
        exact wpAny_pure (last h' sb r)
theorem tset_add {x : Str} {tk : Tok} {Q : Value → Shared → Prop} (R : SetX w s.heap a M n) (room : n + 1 < scanBound)
    (fin : ∀ h', Heap.SameBut a s.heap h' → SetX w h' a (fun y => M y || decide (y = x)) (if M x = true then n else n + 1) → Q .none { s with heap := h', toks := s.toks + 1 }) :
    wpAny (model P w) A (call (.builtin "set.add") [.ref a, .str x tk]) Q E s := by
  refine wpAny_call_entry F.slot_set_add R.type F.entry_set_add ?_ (F.args_set_add_2 _ _)
  unfold Builtin.«set.add» Builtin.Frozenset.oneOther
  simp only [List.isEmpty_nil, bind_assoc]
  unfold Builtin.Frozenset.addrOf setAdd
  refine wpAny_bind (wpAny_pure ?_)
  try dsimp only
  refine wpAny_bind (wpAny_pure ?_)
  try dsimp only
  refine wpAny_bind (wpAny_holding ?_)
  have isx : (strKind P w).is x (.str x tk) = true := by
    show Value.isStrOf x (.str x tk) = true
    simp [Value.isStrOf]
  refine wpAny_bind ((strKind P w).pyHash isx ?_)
  refine tset_hashed (s := { s with toks := s.toks + 1 }) R room fun h' sb r => ?_
  show wpAny _ _ (ret Value.none) _ _ _
  exact wpAny_pure ⟨_, rfl, fin h' sb r⟩
end
section
variable {P : Program} {w : World} {A : Around} {E : Value → Shared → Prop} {s : Shared} {a : Addr} {M : Str → Bool} {n : Nat}
theorem txts_of {w : World} : ∀ {l : List (Int × Value)} {vs : List Value}, (∀ e ∈ l, GoodT w e) → vs.Perm (l.map (·.2)) → ∃ xs, StrsAre vs xs ∧ xs.Perm (l.map txtOf) := fun {l vs} good perm => by
  have all : ∀ v ∈ vs, ∃ x tk, v = Value.str x tk := fun v hv => by
    obtain ⟨e, he, q⟩ := List.mem_map.mp (perm.mem_iff.mp hv)
    obtain ⟨x, tk, e1, _⟩ := good e he
    exact ⟨x, tk, by rw [← q]; exact e1⟩
  let f : Value → Str := fun v => match v with
    | .str x _ => x
    | _ => Str.empty
  have are : ∀ us : List Value, (∀ v ∈ us, ∃ x tk, v = Value.str x tk) → StrsAre us (us.map f) := by
    intro us
    induction us with
    | nil => intro _; exact .nil
    | cons v us ih =>
      intro h
      obtain ⟨x, tk, rfl⟩ := h v List.mem_cons_self
      exact .cons x tk (ih fun u hu => h u (List.mem_cons_of_mem _ hu))
  refine ⟨vs.map f, are vs all, ?_⟩
  have q := perm.map f
  rw [List.map_map] at q
  exact q
/-- sorted(a set of texts) -/
theorem setx_sorted {Q : Value → Shared → Prop} (R : SetX w s.heap a M n) (free : A.handled = none) (few : n < 64)
    (fin : ∀ s' p (out : Array Value) (c : Nat) (xs : List Str), (∀ b o, s.heap.get? b = some o → s'.heap.get? b = some o) → s'.gens = s.gens → s'.os = s.os → s.heap.objs.size ≤ p → s'.heap.get? p = some (seqObj "list" out c) →
      StrsAre out.toList xs → sortedS xs = true → xs.Nodup → (∀ x, x ∈ xs ↔ M x = true) → xs.length = n → Q (.ref p) s') :
    wpAny (model P w) A (call (.builtin "sorted") [.ref a]) Q E s := by
  obtain ⟨ob, es, ep, tb, at_, ex, hd, good, once, mem, room, fit, size, ris, led⟩ := R
  refine Calls.call_function_entry kind_sorted plain_sorted entry_sorted (args_sorted1 _) ?_
  unfold Builtin.«sorted»
  refine wpAny_bind (m := checkCount "sorted" 1 1 _) (wpAny_pure ?_)
  refine wpAny_bind (collect_set (A := A.in1) free ⟨ob, at_, ex.1, hd⟩ fit room ris led fun s1 vs keep1 le1 g1 o1 perm => ?_)
  obtain ⟨xs, are, px⟩ := txts_of good perm
  have lenV : vs.length = n := by rw [perm.length_eq, List.length_map, Array.length_toList]; exact size
  refine wpAny_bind (wpAny_newList ?_ (by rw [lenV, sizeLine_eq]; omega))
  have atL : (s1.heap.push (seqObj "list" vs.toArray 0)).get? s1.heap.objs.size = some (seqObj "list" vs.toArray 0) := Heap.get?_push_size _ rfl
  refine wpAny_bind (wpAny_holding (wpAny_call_entry slot_list_sort ⟨_, atL, rfl⟩ entry_list_sort (list_sort_treeK strKind_oneLt atL are.keysOf (fun v1 v2 rest e => keyKind_strs (by rw [← e]; exact are)) (by rw [lenV]; exact few) fun st' pst sst => ⟨_, rfl, ?_⟩) (args_list_sort _)))
  obtain ⟨ys, b1, b2, b3⟩ := sorted_out_str are pst sst
  obtain ⟨c, hc⟩ := sortedHeap_at (vs := vs) (out := (arrOf st').map (·.2)) atL
  have py : ys.Perm (es.toList.map txtOf) := b2.trans px
  refine wpAny_pure ⟨_, rfl, fin _ s1.heap.objs.size _ c ys (fun b u e => ?_) g1 o1 le1 hc b1 b3 (py.nodup_iff.mpr once) (fun x => by rw [py.mem_iff, ← mem x]) ?_⟩
  · have q := keep1 b u e
    have lt := Heap.lt_size q
    show (sortedHeap (s1.heap.push (seqObj "list" vs.toArray 0)) s1.heap.objs.size vs ((arrOf st').map (·.2))).get? b = some u
    rw [sortedHeap_old (Nat.ne_of_lt lt) (by rw [size_push']; exact Nat.lt_succ_of_lt lt)]
    exact Heap.get?_push_of_some _ q
  · rw [py.length_eq, List.length_map, Array.length_toList]; exact size
end
/-! as tracked things -/
def SetXO (w : World) (a : Addr) (M : Str → Bool) (n : Nat) : HO := .ext fun h => SetX w h a M n
theorem setXO_ok {w : World} {P : Program} {H : Hp} {h : Heap} {a : Addr} {M : Str → Bool} {n : Nat} (R : SetX w h a M n) : ObjOk P w H h a (SetXO w a M n) := by
  have ⟨ob, _, _, _, at_, _⟩ := R
  exact ⟨R, ⟨ob, at_⟩, fun _ _ p k => SetX.at p k⟩
section
variable {X : Cx} {pins : List (Addr × Obj)} {σ : L2.St} {H : Hp} {s : Shared}
theorem setXO_get {a : Addr} {M : Str → Bool} {n : Nat} (I : Inv X pins σ H s) (ha : H a = some (SetXO X.w a M n)) : SetX X.w s.heap a M n := (I.hok a _ ha).1
theorem addX_ok {E : Value → Shared → Prop} {D : Addr} {M : Str → Bool} {n : Nat} {x : Str} {u : Value} {Q : Value → Shared → Prop} (I : Inv X pins σ H s) (at_ : H D = some (SetXO X.w D M n)) (room : n + 1 < scanBound) (ru : RelV (.str x) u)
    (fin : ∀ s', Inv X pins σ (upd H D (SetXO X.w D (fun y => M y || decide (y = x)) (if M x = true then n else n + 1))) s' → Q .none s') : wpAny (model X.prog X.w) X.A (call (.builtin "set.add") [.ref D, u]) Q E s := by
  obtain ⟨tk, rfl⟩ := ru
  refine tset_add (setXO_get I at_) room fun h' sb new => ?_
  have some_ : ∃ ob, h'.get? D = some ob := by
    have ⟨ob, _, _, _, e, _⟩ := new
    exact ⟨ob, e⟩
  exact fin _ (I.write (e := D) (t' := s.toks + 1) (by rw [at_]; trivial) (.inl rfl) (fun b u hb hu => (sb.2 b hb).trans hu) some_ (setXO_ok new))
end
/-- sorted(a set of texts): a new list, in order -/
def rSortX (w : World) : List V → Hp → VK → Prop := fun vs H Q => ∃ (a : Addr) (M : Str → Bool) (n : Nat), vs = [.ref a] ∧ H a = some (SetXO w a M n) ∧ n < 64 ∧
  ∀ xs p H', sortedS xs = true → xs.Nodup → (∀ x, x ∈ xs ↔ M x = true) → Same H H' → H p = none → H' p = some (.lst (xs.map V.str)) → Q (.ref p) H'
theorem strs_vals : ∀ {vs : List Value} {xs : List Str}, StrsAre vs xs → Vals (xs.map V.str) vs
  | _, _, .nil => .nil
  | _, _, .cons y t r => .cons ⟨t, rfl⟩ (strs_vals r)
theorem cr_sortX {X : Cx} (hc : X.calm = true) : CallR X (.builtin "sorted") (rSortX X.w) := by
  intro pins s σ H vs us Q I r h
  obtain ⟨a, M, n, rfl, at_, few, fin⟩ := h
  obtain ⟨u, rfl, ru⟩ := vals1 r
  cases (show u = Value.ref a from ru)
  refine setx_sorted (setXO_get I at_) (I.ok.hd hc) few fun s' p out c xs keep g o le hp are srt nd mem len => ?_
  have fresh : H p = none := I.hok.fresh le
  have lenO : out.toList.length = xs.length := (strs_vals are).length.symm.trans (by simp)
  have new : ObjOk X.prog X.w (upd H p (.lst (xs.map V.str))) s'.heap p (.lst (xs.map V.str)) := ⟨by rw [List.length_map, sizeLine_eq, len]; omega, out.toList, c, strs_vals are, by simpa using hp⟩
  have J : Inv X pins σ (upd H p (.lst (xs.map V.str))) s' := I.call' (ch := []) o (Un.laid keep le fresh) (I.hok.laid keep le new) (by rw [g]; exact I.bare) (fun _ z => nomatch z)
  exact ⟨.ref p, _, J, rfl, fin xs p _ srt nd mem (Same.new fresh) fresh upd_same⟩
def leX (x y : Str) : Prop := x.cps.toList ≤ y.cps.toList
theorem leX_of {x y : Str} (h : ltCps y.cps.toList x.cps.toList = false) : leX x y := by
  rw [ltCps_eq] at h
  exact of_decide_eq_false h
theorem rising_le : ∀ (l : List Str) (p : Str), risingS p l = true → (p :: l).Pairwise leX
  | [], p, _ => List.pairwise_singleton _ _
  | x :: r, p, h => by
    have h : (!ltCps x.cps.toList p.cps.toList && risingS x r) = true := h
    simp only [Bool.and_eq_true, Bool.not_eq_true'] at h
    have ih := rising_le r x h.2
    have px : leX p x := leX_of h.1
    refine List.pairwise_cons.mpr ⟨fun y hy => ?_, ih⟩
    rcases List.mem_cons.mp hy with rfl | hy
    · exact px
    · exact List.le_trans px (List.rel_of_pairwise_cons ih hy)
theorem sorted_le : ∀ {l : List Str}, sortedS l = true → l.Pairwise leX
  | [], _ => List.Pairwise.nil
  | x :: r, h => rising_le r x h
/-- two lists in order, each text once, of the same members are one -/
theorem sorted_one {xs ys : List Str} (h1 : sortedS xs = true) (h2 : sortedS ys = true) (n1 : xs.Nodup) (n2 : ys.Nodup) (h : ∀ x, x ∈ xs ↔ x ∈ ys) : xs = ys := by
  refine List.Perm.eq_of_pairwise (fun a b _ _ u v => ?_) (sorted_le h1) (sorted_le h2) ((List.perm_ext_iff_of_nodup n1 n2).mpr h)
  have e : a.cps.toList = b.cps.toList := List.le_antisymm u v
  obtain ⟨a⟩ := a
  obtain ⟨b⟩ := b
  congr
  exact Array.toList_inj.mp e
/-! a comprehension of texts into a set -/
section
variable {X : Cx}
abbrev newX (w : World) : Obj := { cls := .type "set", dict := none, data := .set #[] 0 (.fresh 0 0 (!w.params.followText "set-order")) }
/-- what is asked of {elt for tg in iter}: D the new set -/
def tScX (w : World) (wi : TI) (g : TG) (te : TE) (vs : List Nat) : TE := fun σ H Q => wi σ H fun J H1 => ∀ D, H1 D = none → ∃ W : Nat → Nat → Hp → Prop, (∃ m, W 0 m (upd H1 D (SetXO w D (fun _ => false) 0))) ∧ ∀ i m H2, W i m H2 →
  (J.stop i H2 ∧ Q (.ref D) H2) ∨ (J.go i H2 ∧ ∃ Nx : Hp → Prop, (∀ H3, Nx H3 → ∃ j, j < m ∧ W (i + 1) j H3) ∧ ∀ x H3, J.yld i H2 x H3 → g x (wipe σ vs) H3 fun σ2 H4 => wipe σ2 vs = wipe σ vs ∧
    te σ2 H4 fun y H5 => ∃ (c : Str) (M : Str → Bool) (n : Nat), y = .str c ∧ H5 D = some (SetXO w D M n) ∧ n + 1 < scanBound ∧ Nx (upd H5 D (SetXO w D (fun z => M z || decide (z = c)) (if M c = true then n else n + 1))))
theorem pe_scX {elt tg iter : Expr} {scope : Scope} {own : List (PySem.Str × Nat)} {pos : Pos} {wi : TI} {g : TG} {te : TE} (calm : X.calm = true) (hN : X.N.Nodup) (hi : PI X tg iter wi) (blk : BlkOk X.N X.env.scope scope own)
    (hg : ∀ (s : Shared) (H : Hp) (C : Addr) (cl : List (PySem.Str × Addr)) (fp : List Addr), PG (X.blk s H scope (compEnvC scope cl C X.env) fp) tg g)
    (he : ∀ (s : Shared) (H : Hp) (C : Addr) (cl : List (PySem.Str × Addr)) (fp : List Addr), PE (X.blk s H scope (compEnvC scope cl C X.env) fp) elt te) (hs : ∀ x, foldedSetIterable iter X.env x = pure x := by intro _; rfl) :
    PE X (.SetComp elt [⟨tg, iter, [], 0⟩] scope pos) (tScX X.w wi g te (own.map (·.2))) := by
  refine ⟨fun pins s σ H Q I h => ?_⟩
  rw [PpSet.eval_SetComp]
  have frees : ∀ y ∈ scope.names, y.2 = .free → ∃ c, X.env.cells.lookup y.1 = some c := fun y hy e => (blk.free y hy e).elim (fun k => I.ok.has _ (.inl k)) fun k => I.ok.has _ (.inr k)
  refine wpAny_comprehension_free (use := none) rfl hs (closure_ok frees) blk.kind (fun y hy e => by rw [blk.uniq y hy, e]) (thn (hi.run pins s σ H _ I h) fun _ sA hA => thn hA fun _ sI ⟨it, fp, tn, J, HI, eI, II, T, stI, fpI, q⟩ => ?_)
  subst eI
  refine PpSet.newSet_ok (newEnv_comp ?_)
  generalize eD : sI.heap.objs.size = D
  have noD : HI D = none := II.hok.fresh (Nat.le_of_eq eD)
  obtain ⟨W, ⟨m0, begun⟩, turn⟩ := q D noD
  -- the set is laid
  generalize eB : ({ sI with heap := sI.heap.push (newX X.w) } : Shared) = sB
  have heapB : sB.heap = sI.heap.push (newX X.w) := by rw [← eB]
  have IB : Inv X pins σ (upd HI D (SetXO X.w D (fun _ => false) 0)) sB := by
    rw [← eB]
    refine II.laid (t' := sI.toks) (fun b o e => Heap.get?_push_of_some _ e) (Nat.le_of_eq eD) ?_
    rw [← eD]
    exact setXO_ok (tset_fresh X.w)
  have below : ∀ b ∈ fp, b < sI.heap.objs.size := fun b hb => (T.obj _ _ stI b hb).elim fun o e => Heap.lt_size e.1
  have fpB : ∀ b ∈ fp, FpOk X pins (upd HI D (SetXO X.w D (fun _ => false) 0)) b ∧ b < sB.heap.objs.size := fun b hb => by
    have lt := below b hb
    have ne : b ≠ D := by rw [← eD]; exact Nat.ne_of_lt lt
    exact ⟨⟨by rw [upd_ne ne]; exact (fpI b hb).1, (fpI b hb).2⟩, by rw [heapB, Heap.size_push]; exact Nat.lt_succ_of_lt lt⟩
  have stB : tn 0 sB.heap := T.keep _ _ _ stI fun b _ o e => by rw [heapB]; exact Heap.get?_push_of_some _ e
  -- the block's own names
  have IC := block_start IB blk hN fpB
  have gC := hg sB (upd HI D (SetXO X.w D (fun _ => false) 0)) sB.heap.objs.size (cellsFrom (sB.heap.objs.size + 1) scope.names (cloFrom X.env.cells scope.names [])) fp
  have eC := he sB (upd HI D (SetXO X.w D (fun _ => false) 0)) sB.heap.objs.size (cellsFrom (sB.heap.objs.size + 1) scope.names (cloFrom X.env.cells scope.names [])) fp
  show codeAny _ _ (.compStart (.SetComp elt [⟨tg, iter, [], 0⟩] scope pos) 0 (.ref it) (.ref D) (compEnvC scope (cellsFrom (sB.heap.objs.size + 1) scope.names (cloFrom X.env.cells scope.names [])) sB.heap.objs.size X.env)) _ { sB with heap := pushCells (sB.heap.push { cls := .type "dict", data := .dict #[] }) scope.names }
  have bare : ∀ b ∈ fp, (upd HI D (SetXO X.w D (fun _ => false) 0)) b = none := fun b hb => (fpB b hb).1.1
  generalize eE : compEnvC scope (cellsFrom (sB.heap.objs.size + 1) scope.names (cloFrom X.env.cells scope.names [])) sB.heap.objs.size X.env = cenv at IC gC eC ⊢
  have locC : cenv.locals = sB.heap.objs.size := by subst eE; rfl
  generalize eH : upd HI D (SetXO X.w D (fun _ => false) 0) = HB at IB IC gC eC begun bare fpB
  generalize eS : ({ sB with heap := pushCells (sB.heap.push { cls := .type "dict", data := .dict #[] }) scope.names } : Shared) = sC at IC ⊢
  have stC : tn 0 sC.heap := T.keep _ _ _ stB fun b _ o e => by rw [← eS]; exact pushCells_keeps _ _ _ _ (Heap.get?_push_of_some _ e)
  let Y : Cx := X.blk sB HB scope cenv fp
  have own_fp : ∀ {σ' : L2.St} {H' : Hp} {s' : Shared}, Inv Y [] σ' H' s' → (∀ b ∈ fp, H' b = none) → ∀ b ∈ fp, FpOk Y [] H' b := fun {σ' H' s'} I' hn b hb =>
    ⟨hn b hb, (I'.ok.exf b hb).1, I'.ok.exfs b hb, .inl hb, fun x c e => (I'.ok.exf b hb).2 x c e, fun p hp => absurd (show p ∈ ([] : List (Addr × Obj)) ++ [] from hp) (by simp)⟩
  have loop : codeAny (model X.prog X.w) X.A (.compLoop (.SetComp elt [⟨tg, iter, [], 0⟩] scope pos) 0 (.ref it) (.ref D) cenv) (compPost (model X.prog X.w) X.A X.xe none (EP X pins σ Q) (.ref D) sB.heap.objs.size) sC := by
    refine PpSet.compLoopS_any (fun n sT => ∃ i HT, Inv Y [] (wipe σ (own.map (·.2))) HT sT ∧ tn i sT.heap ∧ (∀ b ∈ fp, HT b = none) ∧ W i n HT) ?_ m0 ⟨0, HB, IC, stC, bare, begun⟩
    rintro n sT ⟨i, HT, IT, stT, nT, wT⟩
    rcases turn i n HT wT with ⟨halt, fin⟩ | ⟨go, Nx, less, step⟩
    · refine thnF (T.done Y rfl rfl rfl calm i [] sT _ HT (fun _ _ => False) IT (own_fp IT nT) stT halt) fun r sU ⟨er, IU⟩ => ?_
      subst er
      have back : Inv X pins σ HT sU := IB.call' (ch := fp) IU.os IU.base IU.hok IU.bare fun b hb => ⟨(fpB b hb).1.2.2.2.1, (fpB b hb).1.2.1, (fpB b hb).1.2.2.2.2.1, (fpB b hb).1.2.2.2.2.2⟩
      have noC : HT sB.heap.objs.size = none := by
        have z : HT cenv.locals = none := IU.free
        rwa [locC] at z
      obtain ⟨m, ns, _⟩ := IU.loc
      have ns : sU.heap.Ns cenv.locals m := ns
      rw [locC] at ns
      obtain ⟨f0, f1, f2, f3, f4, f5⟩ := IB.fpOk (b := sB.heap.objs.size) (H' := HT) (Nat.le_refl _) noC
      exact ⟨m, ns, fun _ sb => ⟨.ref D, HT, back.turned (t' := sU.toks) (fun b o hb e => (sb.2 b hb).trans e) f0 f1 f3 f4 f5, rfl, fin⟩⟩
    · refine thnF (T.item Y rfl rfl rfl calm i [] sT _ HT (fun _ _ => False) IT (own_fp IT nT) stT go) fun r sU ⟨u, er, hU⟩ => ?_
      subst er
      refine thnF hU fun _ sV ⟨x, HV, IV, rV, yV, stV, nV⟩ => ?_
      have IV2 := IV.pinned (own_fp IV nV) (T.obj _ _ stV)
      refine thnF (gC.run _ sV _ HV x u _ IV2 rV (step x HV yV)) fun _ sW ⟨σW, HW, IW, wW, qW⟩ => ?_
      refine thnF ((pts_nil (X := Y)).run _ sW σW HW _ IW (show tYes σW HW (fun b H9 => b = true ∧ H9 = HW) from ⟨rfl, rfl⟩)) fun b sX ⟨HX, IX, eb, eHX⟩ => ?_
      subst eb eHX
      simp only [if_true]
      refine thnF (eC.run _ sX σW HX _ IX qW) fun z sY ⟨yv, HY, IY, rY, c, M, k, ey, atY, roomY, nx⟩ => ?_
      subst ey
      refine addX_ok (X := Y) IY atY roomY rY fun sZ IZ => ?_
      obtain ⟨j, lj, wj⟩ := less _ nx
      have pin : ∀ b ∈ fp, ∀ o, sV.heap.get? b = some o → sZ.heap.get? b = some o ∧ (upd HY D (SetXO X.w D (fun z => M z || decide (z = c)) (if M c = true then k else k + 1))) b = none := fun b hb o e =>
        let z := IZ.pin (b, o) (List.mem_append_right _ (List.mem_append_right _ (mem_pinsAt hb e)))
        ⟨z.1, z.2.1⟩
      have len : (wipe σ (own.map (·.2))).length = σW.length := by rw [← wW, wipe_length]
      refine ⟨j, lj, i + 1, _, (IZ.unpinned (pins := [])).weak len (fun l v e => ?_), T.keep _ _ _ stV fun b hb o e => (pin b hb o e).1, fun b hb => ?_, wj⟩
      · rw [← wW] at e
        exact (wipe_some e).1
      · obtain ⟨o, e, _⟩ := T.obj _ _ stV b hb
        exact (pin b hb o e).2
  exact PpSet.codeAny_compStart_set loop (T.self X.A 0 _ _ _ stC loop)
end
section
variable {J : It} {n : Nat} {G : Hp → Prop} {Y : Nat → Hp → V → Hp → Prop}
/-- {e for x in it} over a walk, e a text told by the turn -/
theorem scx_val {w : World} (wk : Walk J n G Y) {H : Hp} {txt : Nat → Str} {Q : Addr → Hp → Prop} (few : n + 1 < scanBound) {σ : St} {vs : List Nat} {g : TG} {te : TE} (hG : ∀ H', Same H H' → G H') (hY : ∀ i H x H', Y i H x H' → Same H H')
    (turn : ∀ (i : Nat) (x : V) (H1 H2 : Hp) (R : VK), i < n → Same H H1 → Y i H1 x H2 → (∀ H3, Same H2 H3 → R (.str (txt i)) H3) → g x (wipe σ vs) H2 fun σ2 H3 => wipe σ2 vs = wipe σ vs ∧ te σ2 H3 R)
    (fin : ∀ p H' M k, Same H H' → H p = none → H' p = some (SetXO w p M k) → k ≤ n → (∀ y, M y = true ↔ ∃ i, i < n ∧ txt i = y) → Q p H') :
    ∀ D, H D = none → ∃ W : Nat → Nat → Hp → Prop, (∃ m, W 0 m (upd H D (SetXO w D (fun _ => false) 0))) ∧ ∀ i m H2, W i m H2 →
      (J.stop i H2 ∧ Q D H2) ∨ (J.go i H2 ∧ ∃ Nx : Hp → Prop, (∀ H3, Nx H3 → ∃ j, j < m ∧ W (i + 1) j H3) ∧ ∀ x H3, J.yld i H2 x H3 → g x (wipe σ vs) H3 fun σ2 H4 => wipe σ2 vs = wipe σ vs ∧
        te σ2 H4 fun y H5 => ∃ (c : Str) (M : Str → Bool) (n : Nat), y = .str c ∧ H5 D = some (SetXO w D M n) ∧ n + 1 < scanBound ∧ Nx (upd H5 D (SetXO w D (fun z => M z || decide (z = c)) (if M c = true then n else n + 1)))) := fun D hD => by
  let Pv : Nat → Hp → Prop := fun i H2 => Same H H2 ∧ ∃ M k, H2 D = some (SetXO w D M k) ∧ k ≤ i ∧ ∀ y, M y = true ↔ ∃ j, j < i ∧ txt j = y
  refine ⟨fun i m H2 => m = n - i ∧ i ≤ n ∧ Pv i H2, ⟨n, by simp, Nat.zero_le _, Same.new hD, _, 0, upd_same, Nat.le_refl _, fun y => by simp⟩, ?_⟩
  rintro i _ H2 ⟨rfl, hi, s1, M, k, at_, le, mem⟩
  by_cases lt : i < n
  · refine .inr ⟨wk.goes i H2 lt (hG _ s1), Pv (i + 1), fun H3 q => ⟨n - (i + 1), by omega, rfl, lt, q⟩, fun x H3 y => ?_⟩
    have y3 := wk.yields i H2 x H3 lt (hG _ s1) y
    have s3 := hY _ _ _ _ y3
    refine turn i x H2 H3 _ lt s1 y3 fun H4 s4 => ⟨_, M, k, rfl, s4 _ _ (s3 _ _ at_), by omega, fun b o e => ?_, _, _, upd_same, ?_, fun z => ?_⟩
    · rw [upd_ne (ne_of_none e hD)]
      exact s4 _ _ (s3 _ _ (s1 _ _ e))
    · split <;> omega
    · rw [Bool.or_eq_true, decide_eq_true_eq, mem z]
      constructor
      · rintro (⟨j, hj, e⟩ | e)
        · exact ⟨j, by omega, e⟩
        · exact ⟨i, by omega, e.symm⟩
      · rintro ⟨j, hj, e⟩
        rcases Nat.lt_or_ge j i with q | q
        · exact .inl ⟨j, q, e⟩
        · have : j = i := by omega
          subst this
          exact .inr e.symm
  · have e : i = n := by omega
    subst e
    exact .inl ⟨wk.stops H2 (hG _ s1), fin D H2 M k s1 hD at_ le mem⟩
end
end L2
/-! set(a list of texts) -/
namespace L2
open PySem PySem.Spec PyProof.Rows
section
variable {P : Program} {w : World} {A : Around} {E : Value → Shared → Prop} {s : Shared}
abbrev mT (xs : List Str) (i : Nat) : Str → Bool := fun y => decide (y ∈ xs.take i)
theorem mT_next {xs : List Str} {i : Nat} {x : Str} (h : xs[i]? = some x) : (fun y => mT xs i y || decide (y = x)) = mT xs (i + 1) := by
  funext y
  unfold mT
  rw [List.take_add_one, h]
  simp [List.mem_append]
theorem strs_item : ∀ {us : List Value} {xs : List Str}, StrsAre us xs → ∀ (i : Nat) (v : Value), us[i]? = some v → ∃ x t, xs[i]? = some x ∧ v = .str x t
  | _, _, .nil, i, v, e => by simp at e
  | _, _, .cons y t r, 0, v, e => ⟨y, t, rfl, by simpa using e.symm⟩
  | _, _, .cons y t r, i + 1, v, e => strs_item r i v (by simpa using e)
/-- the set's own loop over what is handed on item by item -/
theorem gather_txts {I : Addr} {fp wr : List Addr} {G : Array GenState → Array GenState → Prop} {n : Nat} {Pv : Nat → Value → Prop} {St : Nat → Shared → Prop} {R : Result → Shared → Prop} (W : WalksS P w A.in1 I fp wr G n Pv St) (D : Addr) (out : D ∉ fp) (xs : List Str)
    (len : n = xs.length) (room : xs.length + 1 < scanBound) (val : ∀ i v, Pv i v → ∃ x t, xs[i]? = some x ∧ v = .str x t) (fin : ∀ s' c, Moved (D :: wr) G s s' → c ≤ n → SetX w s'.heap D (mT xs n) c → R (.ok (.ret .none)) s') :
    ∀ (m i : Nat) (s0 : Shared), i + m = n → St i s0 → Moved (D :: wr) G s s0 → (∃ c, c ≤ i ∧ SetX w s0.heap D (mT xs i) c) → codeAny (model P w) A (.builtin "set.update.loop" ⟨[.ref D, .ref I], []⟩) R s0 := by
  have noW : D ∉ wr := fun z => out (W.sub _ z)
  have more : ∀ b ∈ wr, b ∈ D :: wr := fun b hb => List.mem_cons_of_mem _ hb
  intro m
  induction m with
  | zero =>
    rintro i s0 hi st mv ⟨c, le, S⟩
    obtain rfl : i = n := hi
    refine codeAny_builtin F.entry_set_update_loop (by
      rw [Around.under_plainId F.plain_set_update_loop _]
      exact wpAny_bind (W.done s0 _ _ st fun s1 k => wpAny_pure (fin s1 c (Moved.trans W.gtrans mv (k.mono more)) le (S.at fun o e => k.heap D o noW e))))
  | succ m ih =>
    rintro i s0 hi st mv ⟨c, le, S⟩
    have lt : i < n := by omega
    refine codeAny_builtin F.entry_set_update_loop (by
      rw [Around.under_plainId F.plain_set_update_loop _]
      refine wpAny_bind (W.item i s0 _ _ lt st fun v s1 pv st1 k => ?_)
      obtain ⟨x, t, ex, rfl⟩ := val i v pv
      have S1 := S.at fun o e => k.heap D o noW e
      show wpAny _ A.in1 (holding [Value.str x t] (setAdd D (.str x t)) >>= _) _ _ s1
      unfold setAdd
      refine wpAny_bind (wpAny_holding (wpAny_holding (wpAny_bind ((strKind P w).pyHash (k := x) (strKind_is _ _ _ _) ?_))))
      refine tset_hashed (s := { s1 with toks := s1.toks + 1 }) S1 (by omega) fun h2 sb S2 => ?_
      rw [mT_next ex] at S2
      have stay : ∀ b, b ≠ D → ∀ o, s1.heap.get? b = some o → h2.get? b = some o := fun b nb o e => (sb.2 b nb).trans e
      refine wpAny_pure ⟨plainId_quiet F.plain_set_update_loop _, ih (i + 1) _ (by omega) (W.frame _ s1 _ _ st1 (Nat.le_succ _) fun b hb o e => stay b (fun z => out (z ▸ hb)) o e) ?_ ⟨_, ?_, S2⟩⟩
      · exact Moved.trans W.gtrans mv ((k.mono more).then_heap (Nat.le_succ _) fun b o hb e => stay b (fun z => hb (z ▸ List.mem_cons_self)) o e)
      · split <;> omega)
theorem setX_new {h : Heap} {D : Addr} {xs : List Str} (e : h.get? D = some (newX w)) : SetX w h D (mT xs 0) 0 := by
  refine ⟨newX w, #[], 0, _, e, ⟨rfl, rfl, rfl⟩, rfl, (fun z hz => by simp at hz), (by simp), fun y => by simp [mT], by decide, rfl, rfl, List.Pairwise.nil, ?_⟩
  show _ ∨ (!w.params.followText "set-order") = true
  cases w.params.followText "set-order" <;> first | exact .inl rfl | exact .inr rfl
set_option maxHeartbeats 6400000 in
theorem call_setX {l : Addr} {items : Array Value} {xs : List Str} {Q : Value → Shared → Prop} (free : A.handled = none) (hl : s.heap.IsList l items) (are : StrsAre items.toList xs) (room : xs.length + 1 < scanBound)
    (fin : ∀ h' tk c, SetX w h' s.heap.objs.size (mT xs xs.length) c → c ≤ xs.length → (∀ b o, s.heap.get? b = some o → h'.get? b = some o) → Q (.ref s.heap.objs.size) { s with heap := h', toks := tk }) : wpAny (model P w) A (call (.type "set") [.ref l]) Q E s := by
  have lenI : items.size = xs.length := by rw [← Array.length_toList, are.length]
  obtain ⟨_, _, m1⟩ := F.called_set.mro
  have m2 := F.called_set.made
  have m3 := F.called_set.sub
  refine wpAny_call (codeAny_of_tree (show wpAny _ _ (callAny (.type "set") _) _ _ _ from wpAny_pure ⟨Code.quiet_builtin _ (by decide +kernel), codeAny_builtin F.entry_type_call ?_⟩))
  rw [Around.under_plain (weight_type_call_type "set" [.ref l] []) rfl]
  have m4 := F.called_set.notType
  have m5 := F.called_set.canCreate
  have m6 := F.typeCall_set_1 (.ref l)
  repeat (any_goals (first | assumption | (wp_step)))
  refine codeAny_mono (code_set_led1 (.ref l) (E := E) (Q₁ := fun o s1 => o = .ref s.heap.objs.size ∧ s1 = { s with heap := s.heap.push (newX w) }) ⟨rfl, rfl⟩) fun r s1 z => ?_
  rcases r with e | (v | _ | _ | _) <;> first | exact z.elim | exact z | skip
  obtain ⟨rfl, rfl⟩ := z
  have at_ : (s.heap.push (newX w)).get? s.heap.objs.size = some (newX w) := Heap.get?_push_size _ rfl
  have ty : Shared.TypeIs { s with heap := s.heap.push (newX w) } (.ref s.heap.objs.size) "set" := ⟨_, at_, rfl⟩
  have m7 := F.called_set.init.lookup
  have m8 := F.called_set.init.bind (.ref s.heap.objs.size)
  repeat (any_goals (first | assumption | (wp_step)))
  refine codeAny_mono (codeAny_call_builtin (R := wants (fun r s2 => r = .none ∧ ∃ h' tk c, s2 = { s with heap := h', toks := tk } ∧ SetX w h' s.heap.objs.size (mT xs xs.length) c ∧ c ≤ xs.length ∧ ∀ b o, s.heap.get? b = some o → h'.get? b = some o) E) F.called_set.init.plain F.entry_set_init
    (check_set_init_1 ty ?_)) fun r s2 z => ?_
  · obtain ⟨⟨oc, odc, odt, osl⟩, ho, hcl, nl, hdt⟩ := hl
    simp only at hcl hdt
    subst hcl hdt
    have ho1 : (s.heap.push (newX w)).get? l = some { cls := .type "list", dict := odc, data := .seq items nl, slots := osl } := Heap.get?_push_of_some _ ho
    have f1 := F.sub_list_set
    have f2 := F.sub_list_frozenset
    have f3 : (Value.type "list" == Value.type "dict") = false := by decide
    have isL : (s.heap.push (newX w)).IsList l items := ⟨_, ho1, rfl, nl, rfl⟩
    unfold Builtin.«set.__init__» noKeywords Builtin.Frozenset.updateFrom
    generalize hPI : pyIter = PI
    wp_walk
    subst hPI
    refine wpAny_pyIter_list isL (wpAny_bind (wpAny_runValue ?_))
    have free3 : A.in1.in1.in1.handled = none := by simp [free]
    have sz : (s.heap.push (newX w)).objs.size = s.heap.objs.size + 1 := Heap.size_push ..
    have lS : l < s.heap.objs.size := Heap.lt_size ho
    have neI : l ≠ (s.heap.push (newX w)).objs.size := by rw [sz]; exact Nat.ne_of_lt (Nat.lt_succ_of_lt lS)
    have outF : s.heap.objs.size ∉ [(s.heap.push (newX w)).objs.size, l] := by
      rw [sz]
      simp only [List.mem_cons, List.not_mem_nil, or_false, not_or]
      exact ⟨Nat.ne_of_lt (Nat.lt_succ_self _), Nat.ne_of_gt lS⟩
    have val : ∀ (i : Nat) (v : Value), items[i]? = some v → ∃ x t, xs[i]? = some x ∧ v = .str x t := fun i v hv => by
      have q : items.toList[i]? = some v := by rw [Array.getElem?_toList]; exact hv
      exact strs_item are i v q
    refine gather_txts ((Walks.list free3 _ l neI items).toS) s.heap.objs.size outF xs lenI room val (fun s' c mv le S => ?_) items.size 0 _ (by omega) ⟨⟨_, Heap.get?_push_size _ rfl, rfl, rfl⟩, isL.push _⟩ (Moved.refl fun _ => rfl) ⟨0, Nat.le_refl _, setX_new (Heap.get?_push_of_some _ at_)⟩
    have kp : ∀ b o, s.heap.get? b = some o → s'.heap.get? b = some o := fun b o e => mv.heap b o (fun hb => by
      have lt := Heap.lt_size e
      simp only [List.mem_cons, List.not_mem_nil, or_false] at hb
      rw [sz] at hb
      rcases hb with rfl | rfl
      · exact Nat.lt_irrefl _ lt
      · exact Nat.lt_irrefl _ (Nat.lt_trans lt (Nat.lt_succ_self _))) (Heap.get?_push_of_some _ (Heap.get?_push_of_some _ e))
    obtain ⟨h', g2, d', tk', os'⟩ := s'
    obtain rfl : g2 = s.gens := mv.gens
    obtain rfl : d' = s.drawn := mv.drawn
    obtain rfl : os' = s.os := mv.os
    rw [lenI] at S le
    exact wpAny_pure (wpAny_pure ⟨rfl, h', tk', c, rfl, S, le, kp⟩)
  · rcases r with e | (v | _ | _ | _) <;> first | exact z.elim | exact z | skip
    obtain ⟨rfl, h', tk, c, rfl, S, le, kp⟩ := z
    repeat (any_goals (first | assumption | (wp_step)))
    exact fin h' tk c S le kp
end
/-- set(xs): a new set -/
def rSetOf (K : PySem.W.Frag) (w : World) : List V → Hp → VK → Prop := fun vs H Q => ∃ (l : Addr) (xs : List Str), vs = [.ref l] ∧ SqL K H l (xs.map V.str) ∧ xs.length + 1 < scanBound ∧
  ∀ p c, H p = none → c ≤ xs.length → Q (.ref p) (upd H p (SetXO w p (fun y => decide (y ∈ xs)) c))
theorem vals_txts : ∀ {xs : List Str} {us : List Value}, Vals (xs.map V.str) us → StrsAre us xs
  | [], _, .nil => .nil
  | x :: xs, _, .cons ⟨t, e⟩ r => by
    subst e
    exact .cons x t (vals_txts r)
theorem cr_setOf {X : Cx} (calm : X.calm = true) : CallR X (.type "set") (rSetOf X.K X.w) := by
  intro pins s σ H vs us Q I r h
  obtain ⟨l, xs, rfl, hl, room, q⟩ := h
  rw [Vals.ref1 r]
  obtain ⟨its, rv, pl, hz⟩ := I.list hl
  refine call_setX (P := X.prog) (I.ok.hd calm) pl.isList (by simpa using vals_txts rv) room fun h' tk c S le kp => ?_
  have e : mT xs xs.length = fun y => decide (y ∈ xs) := by
    funext y
    unfold mT
    rw [List.take_length]
  rw [e] at S
  exact ⟨.ref s.heap.objs.size, _, I.laid (t' := tk) kp (Nat.le_refl _) (setXO_ok S), rfl, q _ c (I.hok.fresh (Nat.le_refl _)) le⟩
end L2
/-! set(a tuple of texts), len of it -/
namespace L2
open PySem PySem.Spec PyProof.Rows
section
variable {P : Program} {w : World} {A : Around} {E : Value → Shared → Prop} {s : Shared}
set_option maxHeartbeats 6400000 in
theorem call_setXT {l : Addr} {items : Array Value} {xs : List Str} {Q : Value → Shared → Prop} (free : A.handled = none) (hl : s.heap.IsTuple l items) (are : StrsAre items.toList xs) (room : xs.length + 1 < scanBound)
    (fin : ∀ h' tk c, SetX w h' s.heap.objs.size (mT xs xs.length) c → c ≤ xs.length → (∀ b o, s.heap.get? b = some o → h'.get? b = some o) → Q (.ref s.heap.objs.size) { s with heap := h', toks := tk }) : wpAny (model P w) A (call (.type "set") [.ref l]) Q E s := by
  have lenI : items.size = xs.length := by rw [← Array.length_toList, are.length]
  obtain ⟨_, _, m1⟩ := F.called_set.mro
  have m2 := F.called_set.made
  have m3 := F.called_set.sub
  refine wpAny_call (codeAny_of_tree (show wpAny _ _ (callAny (.type "set") _) _ _ _ from wpAny_pure ⟨Code.quiet_builtin _ (by decide +kernel), codeAny_builtin F.entry_type_call ?_⟩))
  rw [Around.under_plain (weight_type_call_type "set" [.ref l] []) rfl]
  have m4 := F.called_set.notType
  have m5 := F.called_set.canCreate
  have m6 := F.typeCall_set_1 (.ref l)
  repeat (any_goals (first | assumption | (wp_step)))
  refine codeAny_mono (code_set_led1 (.ref l) (E := E) (Q₁ := fun o s1 => o = .ref s.heap.objs.size ∧ s1 = { s with heap := s.heap.push (newX w) }) ⟨rfl, rfl⟩) fun r s1 z => ?_
  rcases r with e | (v | _ | _ | _) <;> first | exact z.elim | exact z | skip
  obtain ⟨rfl, rfl⟩ := z
  have at_ : (s.heap.push (newX w)).get? s.heap.objs.size = some (newX w) := Heap.get?_push_size _ rfl
  have ty : Shared.TypeIs { s with heap := s.heap.push (newX w) } (.ref s.heap.objs.size) "set" := ⟨_, at_, rfl⟩
  have m7 := F.called_set.init.lookup
  have m8 := F.called_set.init.bind (.ref s.heap.objs.size)
  repeat (any_goals (first | assumption | (wp_step)))
  refine codeAny_mono (codeAny_call_builtin (R := wants (fun r s2 => r = .none ∧ ∃ h' tk c, s2 = { s with heap := h', toks := tk } ∧ SetX w h' s.heap.objs.size (mT xs xs.length) c ∧ c ≤ xs.length ∧ ∀ b o, s.heap.get? b = some o → h'.get? b = some o) E) F.called_set.init.plain F.entry_set_init
    (check_set_init_1 ty ?_)) fun r s2 z => ?_
  · obtain ⟨⟨oc, odc, odt, osl⟩, ho, hcl, nl, hdt⟩ := hl
    simp only at hcl hdt
    subst hcl hdt
    have ho1 : (s.heap.push (newX w)).get? l = some { cls := .type "tuple", dict := odc, data := .seq items nl, slots := osl } := Heap.get?_push_of_some _ ho
    have f1 := F.sub_tuple_set
    have f2 := F.sub_tuple_frozenset
    have f3 : (Value.type "tuple" == Value.type "dict") = false := by decide
    have isL : (s.heap.push (newX w)).IsTuple l items := ⟨_, ho1, rfl, nl, rfl⟩
    unfold Builtin.«set.__init__» noKeywords Builtin.Frozenset.updateFrom
    generalize hPI : pyIter = PI
    wp_walk
    subst hPI
    refine wpAny_pyIter_tuple isL (wpAny_bind (wpAny_runValue ?_))
    have free3 : A.in1.in1.in1.handled = none := by simp [free]
    have sz : (s.heap.push (newX w)).objs.size = s.heap.objs.size + 1 := Heap.size_push ..
    have lS : l < s.heap.objs.size := Heap.lt_size ho
    have neI : l ≠ (s.heap.push (newX w)).objs.size := by rw [sz]; exact Nat.ne_of_lt (Nat.lt_succ_of_lt lS)
    have outF : s.heap.objs.size ∉ [(s.heap.push (newX w)).objs.size, l] := by
      rw [sz]
      simp only [List.mem_cons, List.not_mem_nil, or_false, not_or]
      exact ⟨Nat.ne_of_lt (Nat.lt_succ_self _), Nat.ne_of_gt lS⟩
    have val : ∀ (i : Nat) (v : Value), items[i]? = some v → ∃ x t, xs[i]? = some x ∧ v = .str x t := fun i v hv => by
      have q : items.toList[i]? = some v := by rw [Array.getElem?_toList]; exact hv
      exact strs_item are i v q
    refine gather_txts ((Walks.tuple free3 _ l neI items).toS) s.heap.objs.size outF xs lenI room val (fun s' c mv le S => ?_) items.size 0 _ (by omega) ⟨⟨_, Heap.get?_push_size _ rfl, rfl, rfl⟩, isL.push _⟩ (Moved.refl fun _ => rfl) ⟨0, Nat.le_refl _, setX_new (Heap.get?_push_of_some _ at_)⟩
    have kp : ∀ b o, s.heap.get? b = some o → s'.heap.get? b = some o := fun b o e => mv.heap b o (fun hb => by
      have lt := Heap.lt_size e
      simp only [List.mem_cons, List.not_mem_nil, or_false] at hb
      rw [sz] at hb
      rcases hb with rfl | rfl
      · exact Nat.lt_irrefl _ lt
      · exact Nat.lt_irrefl _ (Nat.lt_trans lt (Nat.lt_succ_self _))) (Heap.get?_push_of_some _ (Heap.get?_push_of_some _ e))
    obtain ⟨h', g2, d', tk', os'⟩ := s'
    obtain rfl : g2 = s.gens := mv.gens
    obtain rfl : d' = s.drawn := mv.drawn
    obtain rfl : os' = s.os := mv.os
    rw [lenI] at S le
    exact wpAny_pure (wpAny_pure ⟨rfl, h', tk', c, rfl, S, le, kp⟩)
  · rcases r with e | (v | _ | _ | _) <;> first | exact z.elim | exact z | skip
    obtain ⟨rfl, h', tk, c, rfl, S, le, kp⟩ := z
    repeat (any_goals (first | assumption | (wp_step)))
    exact fin h' tk c S le kp
end
/-- set(xs): a new set -/
def rSetOfT (K : PySem.W.Frag) (w : World) : List V → Hp → VK → Prop := fun vs H Q => ∃ (l : Addr) (xs : List Str), vs = [.ref l] ∧ SqT K H l (xs.map V.str) ∧ xs.length + 1 < scanBound ∧
  ∀ p c, H p = none → c ≤ xs.length → Q (.ref p) (upd H p (SetXO w p (fun y => decide (y ∈ xs)) c))
theorem cr_setOfT {X : Cx} (calm : X.calm = true) : CallR X (.type "set") (rSetOfT X.K X.w) := by
  intro pins s σ H vs us Q I r h
  obtain ⟨l, xs, rfl, hl, room, q⟩ := h
  rw [Vals.ref1 r]
  obtain ⟨its, rv, pl, hz⟩ := I.tuple hl
  refine call_setXT (P := X.prog) (I.ok.hd calm) (show s.heap.IsTuple l its.toArray from pl) (by simpa using vals_txts rv) room fun h' tk c S le kp => ?_
  have e : mT xs xs.length = fun y => decide (y ∈ xs) := by
    funext y
    unfold mT
    rw [List.take_length]
  rw [e] at S
  exact ⟨.ref s.heap.objs.size, _, I.laid (t' := tk) kp (Nat.le_refl _) (setXO_ok S), rfl, q _ c (I.hok.fresh (Nat.le_refl _)) le⟩
/-- the number of the members: as many as there are, if all are different, else fewer -/
def rLenX (w : World) : List V → Hp → VK → Prop := fun vs H Q => ∃ (a : Addr) (xs : List Str) (c : Nat), vs = [.ref a] ∧ H a = some (SetXO w a (fun y => decide (y ∈ xs)) c) ∧ ((xs.Nodup → c = xs.length) → (¬ xs.Nodup → c < xs.length) → Q (.int c) H)
theorem len_sub {α : Type} [DecidableEq α] : ∀ {ys xs : List α}, ys.Nodup → (∀ x, x ∈ ys → x ∈ xs) → ys.length ≤ xs.length
  | [], _, _, _ => Nat.zero_le _
  | y :: ys, xs, nd, sub => by
    obtain ⟨n1, n2⟩ := List.nodup_cons.mp nd
    have my := sub y List.mem_cons_self
    have p := List.perm_cons_erase my
    have z := len_sub (ys := ys) (xs := xs.erase y) n2 fun x hx => (List.mem_erase_of_ne (fun e : x = y => n1 (by rw [← e]; exact hx))).mpr (sub x (List.mem_cons_of_mem _ hx))
    rw [p.length_eq, List.length_cons, List.length_cons]
    omega
theorem nodup_of {α : Type} [DecidableEq α] : ∀ {ys xs : List α}, ys.Nodup → (∀ x, x ∈ ys → x ∈ xs) → xs.length ≤ ys.length → xs.Nodup
  | [], xs, _, _, le => by
    have : xs = [] := List.eq_nil_of_length_eq_zero (Nat.le_zero.mp le)
    subst this
    exact List.Pairwise.nil
  | y :: ys, xs, nd, sub, le => by
    obtain ⟨n1, n2⟩ := List.nodup_cons.mp nd
    have my := sub y List.mem_cons_self
    have p := List.perm_cons_erase my
    have pl := p.length_eq
    rw [List.length_cons] at pl le
    have sub' : ∀ x, x ∈ ys → x ∈ xs.erase y := fun x hx => (List.mem_erase_of_ne (fun e : x = y => n1 (by rw [← e]; exact hx))).mpr (sub x (List.mem_cons_of_mem _ hx))
    have z := nodup_of (ys := ys) (xs := xs.erase y) n2 sub' (by omega)
    refine p.nodup_iff.mpr (List.nodup_cons.mpr ⟨fun m => ?_, z⟩)
    have w := len_sub (ys := y :: ys) (xs := xs.erase y) nd fun x hx => by
      rcases List.mem_cons.mp hx with rfl | h
      · exact m
      · exact sub' x h
    rw [List.length_cons] at w
    omega
theorem call_lenX {X : Cx} : CallR X (.builtin "len") (rLenX X.w) := by
  intro pins s σ H vs us Q I r h
  obtain ⟨a, xs, c, rfl, ha, q⟩ := h
  rw [Vals.ref1 r]
  obtain ⟨ob, es, ep, tb, at_, ex, hd, good, once, mem, room, fit, size, ris, led⟩ := setXO_get I ha
  have m2 : ∀ x, x ∈ es.toList.map txtOf ↔ x ∈ xs := fun x => by
    rw [← mem x]
    exact decide_eq_true_iff
  have ln : (es.toList.map txtOf).length = c := by rw [List.length_map, Array.length_toList]; exact size
  refine call_len_set at_ ex hd fit (by have z : scanBound ≤ 2 ^ 62 := by decide
                                        omega) ?_
  rw [size]
  refine ⟨.int c, H, Inv.tok (Inv.tok I _) _, ⟨_, rfl⟩, q (fun nd => ?_) fun nn => ?_⟩
  · have p : (es.toList.map txtOf).Perm xs := (List.perm_ext_iff_of_nodup once nd).mpr m2
    rw [← ln, p.length_eq]
  · rcases Nat.lt_or_ge c xs.length with h | h
    · exact h
    · exact absurd (nodup_of once (fun x hx => (m2 x).mp hx) (by omega)) nn
end L2
/-! zip of a tuple and a list -/
namespace L2
open PySem PySem.Spec PyProof.Rows
/-- the tuple at a and the list at b, item by item, in new pairs -/
def ItzM (K : PySem.W.Frag) (a b : Addr) : It where
  go := fun i H => ∃ (us ws : List V), SqT K H a us ∧ SqL K H b ws ∧ i < us.length ∧ i < ws.length
  yld := fun i H v H' => ∃ T x y, v = .ref T ∧ H T = none ∧ H' = upd H T (.tup [x, y]) ∧ (∀ us, SqT K H a us → us[i]? = some x) ∧ ∀ ws, SqL K H b ws → ws[i]? = some y
  stop := fun i H => ∃ (us ws : List V), SqT K H a us ∧ SqL K H b ws ∧ i ≤ us.length ∧ i ≤ ws.length ∧ (i = us.length ∨ i = ws.length)
abbrev StM (z TI TO i1 i2 a b : Addr) : Nat → Heap → Prop := fun i h => IsZip h z TI TO .none ∧ PySem.IsTupOf2 h TI (.ref i1) (.ref i2) ∧ (∃ p q, PySem.IsTupOf2 h TO p q) ∧ h.IsTupleIter i1 a i ∧ h.IsListIter i2 b i
theorem turnM {P : Program} {w : World} {K : PySem.W.Frag} {elts : List Expr} {kk : Nat} {tpos : Pos} {a b z TI TO i1 i2 : Addr} (S : PySem.ZipSep2 z TI TO i1 i2 [i1, a] [i2, b]) (na : a ≠ i1) (nb : b ≠ i2) :
    Turn P w K (.Tuple elts kk tpos) (ItzM K a b) [z, TI, TO, i1, i2] z (StM z TI TO i1 i2 a b) where
  mem := by simp
  obj := by
    rintro i h ⟨g1, g2, ⟨p, q, g3⟩, ⟨o1, e1, _, d1⟩, ⟨o2, e2, _, d2⟩⟩ c hc
    simp only [List.mem_cons, List.not_mem_nil, or_false] at hc
    rcases hc with rfl | rfl | rfl | rfl | rfl
    · exact ⟨_, g1, by rintro _ ⟨⟩⟩
    · exact ⟨_, g2, by rintro _ ⟨⟩⟩
    · exact ⟨_, g3, by rintro _ ⟨⟩⟩
    · exact ⟨o1, e1, by rintro _ j; rw [d1] at j; cases j⟩
    · exact ⟨o2, e2, by rintro _ j; rw [d2] at j; cases j⟩
  keep := by
    rintro i h h2 ⟨g1, g2, ⟨p, q, g3⟩, g4, g5⟩ kp
    exact ⟨kp _ (by simp) _ g1, kp _ (by simp) _ g2, ⟨p, q, kp _ (by simp) _ g3⟩, g4.at (kp i1 (by simp)), g5.at (kp i2 (by simp))⟩
  item := by
    rintro X rfl rfl rfl calm i pins s σ H E I apart ⟨g1, g2, ⟨p, q, g3⟩, g4, g5⟩ ⟨us, ws, hu, hw, lu, lw⟩
    obtain ⟨ts, rt, pt, _⟩ := I.tuple hu
    obtain ⟨ls, rl, pl, _⟩ := I.list hw
    have free := I.ok.hd calm
    have zl : z < s.heap.objs.size := Heap.lt_size g1
    obtain ⟨x, hx⟩ : ∃ x, us[i]? = some x := ⟨us[i], by simp [lu]⟩
    obtain ⟨y, hy⟩ : ∃ y, ws[i]? = some y := ⟨ws[i], by simp [lw]⟩
    have len1 : ts.toArray.size = us.length := by simpa using rt.length.symm
    have len2 : ls.toArray.size = ws.length := by simpa using rl.length.symm
    refine PySem.wpAny_pyNext_zipD2_item S (Draws.tuple (A := X.A.in1) free i1 a na ts.toArray) (Draws.list (A := X.A.in1) free i2 b nb ls.toArray) g1 g2 g3 (i := i) ⟨g4, pt⟩ ⟨g5, pl.isList⟩ (by omega) (by omega) ?_
    rintro u v h1 tk eu ev j1 j2 ⟨j3, _⟩ ⟨j4, _⟩ j5 _ kp
    obtain ⟨u2, gu, ru⟩ := rt.get hx
    obtain ⟨v2, gv, rv⟩ := rl.get hy
    have qu : u2 = u := by simpa [gu] using eu
    have qv : v2 = v := by simpa [gv] using ev
    subst qu qv
    refine ⟨_, rfl, wpAny_letOwnedTupleGo_zip (s := { s with heap := h1, toks := tk }) j1 fun h2 j6 sb => ?_⟩
    have at_new : h2.get? s.heap.objs.size = some { cls := .type "tuple", data := .seq #[u2, v2] } := (sb.2 _ (Nat.ne_of_gt zl)).trans j5
    have fresh := I.hok.fresh (Nat.le_refl s.heap.objs.size)
    have J : Inv X pins σ (upd H s.heap.objs.size (.tup [x, y])) { s with heap := h2, toks := tk } := by
      refine I.turnedNew (ch := [z, TI, TO, i1, i2]) (fun c o hc e => ?_) apart (Nat.le_refl _) ⟨(by show 2 ≤ sizeLine; decide), [u2, v2], .cons ru (.cons rv .nil), ⟨_, at_new, rfl, _, rfl⟩⟩
      simp only [List.mem_cons, List.not_mem_nil, or_false, not_or] at hc
      exact (sb.2 c hc.1).trans (kp c o hc.1 hc.2.2.1 hc.2.2.2.1 hc.2.2.2.2 e)
    refine ⟨.ref s.heap.objs.size, _, J, rfl, ⟨_, x, y, rfl, fresh, rfl, fun l hl => by rw [I.tuple_inj hl hu]; exact hx, fun l hl => by rw [I.list_inj hl hw]; exact hy⟩, ⟨j6, ?_, ⟨u2, v2, ?_⟩, ?_, ?_⟩, fun c hc => ?_⟩
    · exact (sb.2 _ S.TIz).trans (kp _ _ S.TIz S.TITO S.TIi1 S.TIi2 g2)
    · exact (sb.2 _ S.TOz).trans j2
    · exact j3.at fun o e => (sb.2 _ S.zi1.symm).trans e
    · exact j4.at fun o e => (sb.2 _ S.zi2.symm).trans e
    · have lt : c < s.heap.objs.size := by
        simp only [List.mem_cons, List.not_mem_nil, or_false] at hc
        rcases hc with rfl | rfl | rfl | rfl | rfl
        · exact zl
        · exact Heap.lt_size g2
        · exact Heap.lt_size g3
        · obtain ⟨_, e, _⟩ := g4; exact Heap.lt_size e
        · obtain ⟨_, e, _⟩ := g5; exact Heap.lt_size e
      rw [upd_ne (Nat.ne_of_lt lt)]
      exact (apart c hc).1
  done := by
    rintro X rfl rfl rfl calm i pins s σ H E I apart ⟨g1, g2, ⟨p, q, g3⟩, g4, g5⟩ ⟨us, ws, hu, hw, lu, lw, fin⟩
    obtain ⟨ts, rt, pt, _⟩ := I.tuple hu
    obtain ⟨ls, rl, pl, _⟩ := I.list hw
    have free := I.ok.hd calm
    have len1 : ts.toArray.size = us.length := by simpa using rt.length.symm
    have len2 : ls.toArray.size = ws.length := by simpa using rl.length.symm
    refine PySem.wpAny_pyNext_zipD2_end S (Draws.tuple (A := X.A.in1) free i1 a na ts.toArray) (Draws.list (A := X.A.in1) free i2 b nb ls.toArray) g1 g2 g3 (i := i) ⟨g4, pt⟩ ⟨g5, pl.isList⟩ (by omega) (by omega) (by omega) fun h1 tk kp => ⟨rfl, ?_⟩
    refine I.turnedL (t' := tk) (ch := [z, TI, TO, i1, i2]) (fun c o hc e => ?_) apart
    simp only [List.mem_cons, List.not_mem_nil, or_false, not_or] at hc
    exact kp c o hc.1 hc.2.2.1 hc.2.2.2.1 hc.2.2.2.2 e
  self := fun A i s Q E st h => wpAny_pyIter_zip st.1 h
def iZipM (K : PySem.W.Frag) (ta : TA) : TI := fun σ H R => ta σ H fun vs H1 => ∃ a b us ws, vs = [.ref a, .ref b] ∧ SqT K H1 a us ∧ SqL K H1 b ws ∧ R (ItzM K a b) H1
theorem pi_zipM {X : Cx} {e e2 : Expr} {ta : TA} {p pos tpos : Pos} {elts : List Expr} {kk : Nat} (hg : Gl X "zip") (hm : X.mg "zip" = none) (ha : PA X [e, e2] ta) (hs : starEach [e, e2] X.env = (false, eval e X.env) :: starEach [e2] X.env := by rfl)
    (hpl : (backTo pos (starEach [e2] X.env)).any (·.1) = false := by rfl) : PI X (.Tuple elts kk tpos) (.Call (.Name "zip" p) [e, e2] [] pos) (iZipM X.K ta) := by
  refine ⟨fun pins s σ H R I h => Call_ (ld_blt I hg hm PyProof.Rows.boot_zip (PyProof.Rows.callWith_type1 (thn (ha.run pos pins s σ H _ I h) ?_) hs hpl))⟩
  rintro us s1 ⟨vs, H1, I1, r1, a, b, xs, ys, rfl, hu, hw, q⟩
  obtain ⟨u1, u2, rfl, r2, r3⟩ := vals2 r1
  cases (show u1 = Value.ref a from r2)
  cases (show u2 = Value.ref b from r3)
  obtain ⟨ts, rt, pt, _⟩ := I1.tuple hu
  obtain ⟨ls, rl, pl, _⟩ := I1.list hw
  have la : a < s1.heap.objs.size := by obtain ⟨_, e, _⟩ := id pt; exact Heap.lt_size e
  have lb : b < s1.heap.objs.size := pl.lt
  refine PySem.zip_begins2 (PySem.begins_tuple a ts.toArray) (PySem.begins_list b ls.toArray) pt pl.isList fun h1 g1 g2 g3 g4 g5 _ kp => wpAny_pyIter_zip g1 ?_
  refine ⟨_, _, _, _, H1, rfl, I1.kept (t' := s1.toks) kp, turnM (zip_sep2 (N := s1.heap.objs.size) (fp1 := [a]) (fp2 := [b]) (by simpa using la) (by simpa using lb)) (Nat.ne_of_lt la) (Nat.ne_of_lt (Nat.lt_succ_of_lt lb)), ⟨g1, g2, ⟨_, _, g3⟩, ⟨_, g4, rfl, rfl⟩, ⟨_, g5, rfl, rfl⟩⟩, fun c hc => ?_, q⟩
  have ge : s1.heap.objs.size ≤ c := by
    simp only [List.mem_cons, List.not_mem_nil, or_false] at hc
    rcases hc with rfl | rfl | rfl | rfl | rfl
    · exact Nat.le_add_right _ 4
    · exact Nat.le_add_right _ 2
    · exact Nat.le_add_right _ 3
    · exact Nat.le_refl _
    · exact Nat.le_add_right _ 1
  exact I1.fpOk ge (I1.hok.fresh ge)
theorem walk_zipM {K : PySem.W.Frag} {a b : Addr} {us ws : List V} (hl : us.length = ws.length) : Walk (ItzM K a b) us.length (fun H => SqT K H a us ∧ SqL K H b ws) (YPair (fun i => us[i]?) (fun i => ws[i]?)) := by
  refine ⟨fun i H hi q => ⟨us, ws, q.1, q.2, hi, by omega⟩, fun H q => ⟨us, ws, q.1, q.2, Nat.le_refl _, by omega, .inl rfl⟩, fun i H v H2 hi q y => ?_⟩
  obtain ⟨T, x, z, e1, e2, e3, e4, e5⟩ := y
  exact ⟨T, x, z, e1, e2, e3, e4 us q.1, e5 ws q.2⟩
end L2
/-! rules with K given by name, for the inside of a comprehension -/
namespace L2
open PySem PySem.Spec PyProof.Rows
section
variable {X : Cx}
theorem pi_tupK (K : PySem.W.Frag) {tg l : Expr} {tl : TE} (hl : PE X l tl) (h : X.K = K := by rfl) : PI X tg l (iTup K tl) := by
  subst h; exact pi_tup hl
theorem pi_listK (K : PySem.W.Frag) {tg l : Expr} {tl : TE} (hl : PE X l tl) (h : X.K = K := by rfl) : PI X tg l (iList K tl) := by
  subst h; exact pi_list hl
theorem ix_tupK (K : PySem.W.Frag) (h : X.K = K := by rfl) : IxR X (rIxT K) := by
  subst h; exact ix_tup
theorem ix_listK (K : PySem.W.Frag) (h : X.K = K := by rfl) : IxR X (rIxL K) := by
  subst h; exact ix_list
theorem op_inK (K : PySem.W.Frag) (h : X.K = K := by rfl) : OpR X (compareOp .In) (rIn K false) := by
  subst h; exact op_in_seq
theorem cr_isiK (K : PySem.W.Frag) (h : X.K = K := by rfl) : CallR X (.builtin "isinstance") (rIsi K) := by
  subst h; exact call_isi
theorem pe_fldK (K : PySem.W.Frag) {e : Expr} {ta : TE} {f : Str} {pos : Pos} (he : PE X e ta) (hb : attributeBase e f X.env (eval e X.env) = eval e X.env) (h : X.K = K := by rfl) : PE X (.Attribute e f pos) (tFld K ta f) := by
  subst h; exact pe_fld he hb
theorem pg_tupK (K : PySem.W.Frag) (n : Nat) {es : List Expr} {m : Nat} {t : TGs} {pos : Pos} (hc : X.calm = true) (q : PGs X es t) (h : X.K = K := by rfl) (hn : (assignEach es X.env).length = n := by rfl) (hst : (assignEach es X.env).findIdx? (·.1) = none := by rfl) : PG X (.Tuple es m pos) (gTup K n t) := by
  subst h; exact pg_tup hc q hn hst
end
end L2
namespace K08
open PySem PySem.Spec PyProof.Rows L2
/-- the table of the deeds -/
structure Tab (K : PySem.W.Frag) (w : World) (mg : Str → Option Value) : Prop where
  gl : ∃ u, mg "DEED_ITEMS" = some u ∧ RelV (.ref (He.ga K "DEED_ITEMS")) u
  kd : ∃ es n, KDict K w (He.ga K "DEED_ITEMS") es n
  at_ : ∀ x ks, deedItems.lookup x = some ks → ∃ a, PySem.W.nsIn K (He.ga K "DEED_ITEMS") x = some (some (.ref a)) ∧ ∀ H, SqT K H a (ks.map V.str)
  no : ∀ x, deedItems.lookup x = none → PySem.W.nsIn K (He.ga K "DEED_ITEMS") x = some none
section
variable {P : Program} {w : World} {K : PySem.W.Frag} {mg : Str → Option Value} {base : Heap}
abbrev s_is_deed : Stmt := (top 33)
def N_is_deed : List Str := ["value", "sort", "items", "kinds", "kind", "item"]
theorem sc_is_deed : FnScope N_is_deed ["value"] (defScope s_is_deed) := ⟨rfl, rfl, rfl, by decide +kernel, rfl, by decide +kernel, by decide +kernel⟩
abbrev s_is_item : Stmt := (top 34)
def N_is_item : List Str := ["kind", "item"]
theorem sc_is_item : FnScope N_is_item ["kind", "item"] (defScope s_is_item) := ⟨rfl, rfl, rfl, by decide +kernel, rfl, by decide +kernel, by decide +kernel⟩
abbrev s_is_deed_value : Stmt := (top 35)
def N_is_deed_value : List Str := ["value", "sign", "amount"]
theorem sc_is_deed_value : FnScope N_is_deed_value ["value"] (defScope s_is_deed_value) := ⟨rfl, rfl, rfl, by decide +kernel, rfl, by decide +kernel, by decide +kernel⟩
abbrev s_has_add : Stmt := (top 36)
def N_has_add : List Str := ["script", "row", "deed"]
theorem sc_has_add : FnScope N_has_add ["script"] (defScope s_has_add) := ⟨rfl, rfl, rfl, by decide +kernel, rfl, by decide +kernel, by decide +kernel⟩
abbrev s_is_row : Stmt := (top 37)
def N_is_row : List Str := ["value", "mode", "word", "work", "deeds"]
theorem sc_is_row : FnScope N_is_row ["value"] (defScope s_is_row) := ⟨rfl, rfl, rfl, by decide +kernel, rfl, by decide +kernel, by decide +kernel⟩
abbrev s_are_deeds : Stmt := (top 38)
def N_are_deeds : List Str := ["value", "deed"]
theorem sc_are_deeds : FnScope N_are_deeds ["value"] (defScope s_are_deeds) := ⟨rfl, rfl, rfl, by decide +kernel, rfl, by decide +kernel, by decide +kernel⟩
abbrev s_wrong_row : Stmt := (top 39)
def N_wrong_row : List Str := ["script", "seen", "index", "row"]
theorem sc_wrong_row : FnScope N_wrong_row ["script"] (defScope s_wrong_row) := ⟨rfl, rfl, rfl, by decide +kernel, rfl, by decide +kernel, by decide +kernel⟩
abbrev s_is_script : Stmt := (top 40)
def N_is_script : List Str := ["value"]
theorem sc_is_script : FnScope N_is_script ["value"] (defScope s_is_script) := ⟨rfl, rfl, rfl, by decide +kernel, rfl, by decide +kernel, by decide +kernel⟩
theorem tup_len {H : Hp} {v : V} {ds : List Dt} (h : Dd K H v (.tup ds)) : ∃ a xs, v = .ref a ∧ SqT K H a xs ∧ DdAll K H xs ds ∧ xs.length = ds.length := by
  cases h with
  | tup h t => exact ⟨_, _, rfl, h, t, t.len⟩
theorem dval_len : ∀ ds : List Dt, ds.length ≠ 2 → dvalD (.tup ds) = false
  | [], _ => rfl
  | [a], _ => by cases a <;> rfl
  | [a, b], h => absurd rfl h
  | a :: b :: c :: r, _ => by cases a <;> rfl
theorem ok_is_deed_value (F : Has K mg "_is_deed_value" s_is_deed_value) (T : Txt K mg) (F_is_sent_value : FnQ P w K mg base CX0 3 "is_sent_value" ["value"] (spChk K isVal)) : FnQ P w K mg base CX0 4 "_is_deed_value" ["value"] (spChk K dvalD) := by
  refine F.q sc_is_deed_value (fun _ _ _ _ _ _ us hl => match us, hl with | [_], _ => rfl) (fun vs H Q E h => by obtain ⟨v, d, rfl, _⟩ := h; rfl) (fun cdv A outer s H vs Q E hr h => ?_)
  obtain ⟨v, d, rfl, hd, k⟩ := h
  have gI : mg "isinstance" = none := T.fr _ (by simp [frees])
  have gL : mg "len" = none := T.fr _ (by simp [frees])
  refine ⟨_, PSs.nox (pss_cons (ps_if (pt_not (pt_val (pe_callB call_isi (by rfl) gI boot_isinstance (pa_cons (pv 0) (pa_cons (pe_bltn (v := .ty "tuple") (by rfl) (T.fr "tuple" (by simp [frees])) PyProof.Rows.boot_tuple rfl) pa_nil)))))
  (pss_one (ps_ret (pe_f F_is_sent_value hr pass0 (pa_cons (pv 0) pa_nil))))
  pss_nil)
  (pss_cons (ps_if (pt_cmpR op_ne (pe_callB call_len_seq (by rfl) gL boot_len (pa_cons (pv 0) pa_nil)) pe_int (by first | exact nomark _ | rfl))
  (pss_one (ps_ret pe_bl))
  pss_nil)
  (pss_cons (ps_asg (pv 0) (pg_tup rfl (pgs_cons (pg_name (i := 1) sc_is_deed_value.nd rfl (by first | exact .inl rfl | exact .inr rfl)) (pgs_cons (pg_name (i := 2) sc_is_deed_value.nd rfl (by first | exact .inl rfl | exact .inr rfl)) pgs_nil))))
  (pss_one (ps_ret (pe_and (pe_callB call_isi (by rfl) gI boot_isinstance (pa_cons (pv 1) (pa_cons (pe_bltn (v := .ty "str") (by rfl) (T.fr "str" (by simp [frees])) PyProof.Rows.boot_str rfl) pa_nil))) (pe_and (pe_cmpR op_eq (pv 1) pe_str (by first | exact nomark _ | rfl)) (pe_one (pe_f F_is_sent_value hr pass0 (pa_cons (pv 2) pa_nil)))))))))), ?_⟩
  refine ⟨_, rfl, _, _, _, _, _, rfl, .ty _, (hd).ty T.pk, T.pk.kit _ 3 (kd_lt _) (by decide), _, rfl, ?_⟩
  cases d with
  | tup ds =>
    obtain ⟨a, xs, rfl, hx, ha, hl⟩ := tup_len hd
    refine if_no rfl ⟨_, rfl, a, _, rfl, .inr hx, rfl, _, rfl, ?_⟩
    by_cases l2 : ds.length = 2
    case neg =>
      have z := k H (Same.refl H)
      rw [dval_len ds l2] at z
      exact if_yes (by rw [hl]; simp; omega) z
    match ds, hl, ha, l2 with
    | [s1, a1], hl, ha, _ =>
      obtain ⟨v1, v2, rfl, h1, h2⟩ := ha.two
      refine if_no rfl ?_
      refine ⟨_, rfl, a, _, rfl, hx, rfl, _, _, rfl, _, _, rfl, ?_⟩
      refine ⟨rfl, _, rfl, _, _, _, _, _, rfl, .ty _, (h1).ty T.pk, T.pk.kit _ 2 (kd_lt _) (by decide), _, rfl, ?_⟩
      cases s1 with
      | str x =>
        cases h1
        refine if_yes rfl ⟨_, rfl, rfl, _, rfl, ?_⟩
        by_cases c : x = "plus"
        · subst c
          exact if_yes (decide_eq_true rfl) ⟨_, rfl, v2, a1, rfl, h2, k⟩
        · have z := k H (Same.refl H)
          simp only [dvalD, decide_eq_false c, Bool.false_and] at z
          exact if_no (by simpa using c) z
      | _ => exact if_no rfl (k H (Same.refl H))
  | _ => exact if_yes rfl ⟨_, rfl, v, _, rfl, hd, k⟩
theorem acc2_rows (rows : List Dt) : acc2 (fun i => (rowDs (rows.getD i .non)).length) (fun i j => deedAdd ((rowDs (rows.getD i .non)).getD j .non)) rows.length = rows.flatMap fun r => (rowDs r).map deedAdd := by
  unfold acc2
  have e : ∀ r : Dt, (List.range (rowDs r).length).map (fun j => deedAdd ((rowDs r).getD j .non)) = (rowDs r).map deedAdd := fun r => by
    have z := congrArg (List.map deedAdd) (range_getD (rowDs r) .non)
    rw [List.map_map] at z
    exact z
  have z : (List.range rows.length).flatMap (fun i => (rowDs (rows.getD i .non)).map deedAdd) = rows.flatMap fun r => (rowDs r).map deedAdd := by
    have y := congrArg (List.flatMap fun r => (rowDs r).map deedAdd) (range_getD rows .non)
    rw [List.flatMap_map] at y
    exact y
  rw [← z]
  congr 1
  funext i
  exact e _
theorem hasAdd_flat (rows : List Dt) : hasAdd (.tup rows) = (rows.flatMap fun r => (rowDs r).map deedAdd).any id := by
  unfold hasAdd
  rw [List.any_flatMap]
  simp
theorem okRow_ds {r : Dt} (h : okRow r = true) : (rowDs r).length ≤ 8 ∧ (∀ d ∈ rowDs r, okDeed d = true) ∧ ∃ a b c, r = .tup [a, b, c, .tup (rowDs r)] := by
  unfold okRow at h
  split at h
  · simp only [Bool.and_eq_true, decide_eq_true_eq, List.all_eq_true] at h
    exact ⟨h.1, h.2, _, _, _, rfl⟩
  · cases h
theorem ok_has_add (F : Has K mg "_has_add" s_has_add) (T : Txt K mg) : FnQ P w K mg base CX0 1 "_has_add" ["script"] (fun vs H Q _ => ∃ v d, vs = [v] ∧ Dd K H v d ∧ okSc d = true ∧ ∀ H', Same H H' → Q (.bl (hasAdd d)) H') := by
  refine F.q sc_has_add (fun _ _ _ _ _ _ us hl => match us, hl with | [_], _ => rfl) (fun vs H Q E h => by obtain ⟨v, d, rfl, _⟩ := h; rfl) (fun cdv A outer s H vs Q E hr h => ?_)
  obtain ⟨v, d, rfl, hd, ok, k⟩ := h
  obtain ⟨rows, rfl⟩ : ∃ rows, d = .tup rows := by cases d <;> first | exact ⟨_, rfl⟩ | exact absurd ok (by simp [okSc])
  obtain ⟨a, xs, rfl, hx, ha, hl⟩ := tup_len hd
  have ok2 : rows.length ≤ 30 ∧ ∀ r ∈ rows, okRow r = true := by simpa [okSc] using ok
  obtain ⟨few, okr⟩ := ok2
  refine ⟨_, PSs.nox (pss_one (ps_ret (pe_callB (cr_any rfl) (by rfl) (T.fr "any" (by simp [frees])) boot_any (pa_cons (pe_lc2 (own := [("row", 1), ("deed", 2)]) (vs1 := [2]) (g := gName 1) (g1 := gName 2) (tt := tYes) (tt1 := tYes) rfl sc_has_add.nd (pi_tup (pv 0)) (blkOk_by (N := N_has_add) (sc := defScope s_has_add) (by decide +kernel)) (by decide) (fun _ _ _ _ _ => (pg_name (i := 1) sc_has_add.nd rfl (by first | exact .inl rfl | exact .inr rfl))) (fun _ _ _ _ _ => pts_nil) (fun _ _ _ _ _ => (pi_tupK K (pe_ix (ix_tupK K) (pv 1) pe_int (fun _ _ => rfl)))) (fun _ _ _ _ _ => (pg_name (i := 2) sc_has_add.nd rfl (by first | exact .inl rfl | exact .inr rfl))) (fun _ _ _ _ _ => pts_nil) (fun _ _ _ _ _ => (pe_cmpR op_eq (pe_ix (ix_tupK K) (pv 2) pe_int (fun _ _ => rfl)) pe_str (by first | exact nomark _ | rfl)))) pa_nil)))), ?_⟩
  refine ⟨_, rfl, a, rfl, ⟨_, hx⟩, comp2_bool walk_tup (m := fun i => (rowDs (rows.getD i .non)).length) (f := fun i j => deedAdd ((rowDs (rows.getD i .non)).getD j .non)) ?_ (fun H' s => s.sqT hx) (fun i H x H' y b o e => by rw [y.1]; exact e) ?_ ?_⟩
  · rw [hl, acc2_rows]
    have : ∀ l : List Dt, (∀ r ∈ l, okRow r = true) → (l.flatMap fun r => (rowDs r).map deedAdd).length ≤ 8 * l.length := by
      intro l
      induction l with
      | nil => intro _; exact Nat.le_refl _
      | cons r l ih =>
        intro h
        have z := (okRow_ds (h r (by simp))).1
        have y := ih fun q hq => h q (by simp [hq])
        simp only [List.flatMap_cons, List.length_append, List.length_map, List.length_cons]
        omega
    have z := this rows okr
    exact small1000 (by omega)
  · rintro i x H1 H2 C hi s1 ⟨rfl, ex⟩ c
    obtain ⟨r, er, hr2⟩ := ha.get ex
    have mr : r ∈ rows := List.mem_of_getElem? er
    obtain ⟨_, okd, a1, b1, c1, e1⟩ := okRow_ds (okr r mr)
    rw [e1] at hr2
    obtain ⟨p, ys, rfl, hp, hy, _⟩ := tup_len hr2
    obtain ⟨v1, v2, v3, v4, rfl, _, _, _, h4⟩ := hy.four
    obtain ⟨q, ws, rfl, hq, hw, lw⟩ := tup_len h4
    have eg : rows.getD i .non = r := by rw [List.getD_eq_getElem?_getD, er]; rfl
    refine ⟨rfl, _, rfl, p, _, _, _, rfl, rfl, s1.sqT hp, rfl, q, rfl, ⟨_, s1.sqT hq⟩, c _ _ _ (Same.refl _) ⟨fun H => SqT K H q ws, YAt ws, (by rw [eg, ← lw]; exact walk_tup), fun H' s => s.sqT hq, fun i H x H' y b o e => by rw [y.1]; exact e, ?_⟩⟩
    rintro j y H5 H6 R hj s5 ⟨rfl, ey⟩ fin
    obtain ⟨d, ed, hdd⟩ := hw.get ey
    have z := fin H6 (Same.refl _)
    have eg2 : (rowDs r).getD j .non = d := by rw [List.getD_eq_getElem?_getD, ed]; rfl
    rw [eg, eg2] at z
    have od := okd d (List.mem_of_getElem? ed)
    obtain ⟨x, rest, rfl⟩ : ∃ x rest, d = .tup (.str x :: rest) := by
      unfold okDeed at od
      split at od
      · exact ⟨_, _, rfl⟩
      · cases od
    obtain ⟨u, zs, rfl, hu, hz, _⟩ := tup_len hdd
    cases hz with
    | cons hx1 ht =>
      cases hx1
      refine ⟨rfl, _, rfl, u, _, _, .str x, rfl, rfl, s5.sqT hu, at_of (j := 0) rfl rfl, rfl, ?_⟩
      have eq : decide (V.str x = V.str "add") = decide (x = "add") := by simp
      rw [eq]
      exact z
  · intro p H' s1 n1 l1
    rw [hl, acc2_rows] at l1
    refine ⟨p, _, rfl, SqL.of l1, ?_⟩
    have z := k H' s1
    rw [hasAdd_flat] at z
    exact z
abbrev spItem (K : PySem.W.Frag) : Sp := fun vs H Q _ => ∃ x v d, vs = [.str x, v] ∧ Dd K H v d ∧ ∀ H', Same H H' → Q (.bl (itemD x d)) H'
theorem ok_is_item (F : Has K mg "_is_item" s_is_item) (T : Txt K mg) (F_is_sent_word : FnQ P w K mg base CX0 2 "is_sent_word" ["value"] (spChk K isSent)) (F_is_deed_value : FnQ P w K mg base CX0 4 "_is_deed_value" ["value"] (spChk K dvalD))
    (F_is_between : FnQ P w K mg base CX0 2 "is_between" ["value", "low", "high"] (spBtw K)) (F_is_given_reason : FnQ P w K mg base CX0 2 "is_given_reason" ["value"] (spChk K isGiven)) (F_is_word : FnQ P w K mg base CX0 1 "is_word" ["value"] (spChk K isWord))
    (F_has_add : FnQ P w K mg base CX0 1 "_has_add" ["script"] (fun vs H Q _ => ∃ v d, vs = [v] ∧ Dd K H v d ∧ okSc d = true ∧ ∀ H', Same H H' → Q (.bl (hasAdd d)) H')) :
    FnQ P w K mg base CX0 5 "_is_item" ["kind", "item"] (spItem K) := by
  refine F.q sc_is_item (fun _ _ _ _ _ _ us hl => match us, hl with | [_, _], _ => rfl) (fun vs H Q E h => by obtain ⟨x, v, d, rfl, _⟩ := h; rfl) (fun cdv A outer s H vs Q E hr h => ?_)
  obtain ⟨x, v, d, rfl, hd, k⟩ := h
  have gI : mg "isinstance" = none := T.fr _ (by simp [frees])
  refine ⟨_, PSs.nox (pss_cons (ps_if (pt_cmpR op_eq (pv 0) pe_str (by first | exact nomark _ | rfl))
  (pss_one (ps_ret (pe_f F_is_sent_word hr pass0 (pa_cons (pv 1) pa_nil))))
  pss_nil)
  (pss_cons (ps_if (pt_cmpR op_eq (pv 0) pe_str (by first | exact nomark _ | rfl))
  (pss_one (ps_ret (pe_f F_is_deed_value hr pass0 (pa_cons (pv 1) pa_nil))))
  pss_nil)
  (pss_cons (ps_if (pt_cmpR op_eq (pv 0) pe_str (by first | exact nomark _ | rfl))
  (pss_one (ps_ret (pe_f F_is_between hr pass0 (pa_cons (pv 1) (pa_cons pe_int (pa_cons (C8.pe_gc (by rfl) T.c_MOST_TICKS_LATER) pa_nil))))))
  pss_nil)
  (pss_cons (ps_if (pt_cmpR op_eq (pv 0) pe_str (by first | exact nomark _ | rfl))
  (pss_one (ps_ret (pe_callB call_isi (by rfl) gI boot_isinstance (pa_cons (pv 1) (pa_cons (pe_bltn (v := .ty "bool") (by rfl) (T.fr "bool" (by simp [frees])) PyProof.Rows.boot_bool rfl) pa_nil)))))
  pss_nil)
  (pss_cons (ps_if (pt_cmpR op_eq (pv 0) pe_str (by first | exact nomark _ | rfl))
  (pss_one (ps_ret (pe_f F_is_given_reason hr pass0 (pa_cons (pv 1) pa_nil))))
  pss_nil)
  (pss_cons (ps_if (pt_cmpR op_eq (pv 0) pe_str (by first | exact nomark _ | rfl))
  (pss_one (ps_ret (pe_and (pe_callB call_isi (by rfl) gI boot_isinstance (pa_cons (pv 1) (pa_cons (C8.pe_gc (by rfl) T.c_AnyWorker) pa_nil))) (pe_one (pe_not (pe_f F_has_add hr pass0 (pa_cons (pe_fld (pv 1) rfl) pa_nil)))))))
  pss_nil)
  (pss_one (ps_ret (pe_f F_is_word hr pass0 (pa_cons (pv 1) pa_nil)))))))))), ?_⟩
  have dec : ∀ y : Str, decide (V.str x = V.str y) = decide (x = y) := fun y => by simp
  have no : ∀ {y : Str}, ¬ x = y → decide (V.str x = V.str y) = false := fun c => by rw [dec]; exact decide_eq_false c
  by_cases c1 : x = "sent word"
  · subst c1
    exact ⟨_, rfl, rfl, _, rfl, if_yes rfl ⟨_, rfl, v, d, rfl, hd, k⟩⟩
  by_cases c2 : x = "value"
  · subst c2
    exact ⟨_, rfl, rfl, _, rfl, if_no rfl ⟨_, rfl, rfl, _, rfl, if_yes rfl ⟨_, rfl, v, d, rfl, hd, k⟩⟩⟩
  by_cases c3 : x = "ticks"
  · subst c3
    exact ⟨_, rfl, rfl, _, rfl, if_no rfl ⟨_, rfl, rfl, _, rfl, if_no rfl ⟨_, rfl, rfl, _, rfl, if_yes rfl ⟨_, rfl, v, d, _, _, rfl, hd, k⟩⟩⟩⟩
  by_cases c4 : x = "truth"
  · subst c4
    refine ⟨_, rfl, rfl, _, rfl, if_no rfl ⟨_, rfl, rfl, _, rfl, if_no rfl ⟨_, rfl, rfl, _, rfl, if_no rfl ⟨_, rfl, rfl, _, rfl, if_yes rfl ?_⟩⟩⟩⟩
    refine ⟨_, rfl, _, _, _, _, _, rfl, .ty _, (hd).ty T.pk, T.pk.kit _ 1 (kd_lt _) (by decide), ?_⟩
    cases d <;> exact k H (Same.refl H)
  by_cases c5 : x = "reason"
  · subst c5
    exact ⟨_, rfl, rfl, _, rfl, if_no rfl ⟨_, rfl, rfl, _, rfl, if_no rfl ⟨_, rfl, rfl, _, rfl, if_no rfl ⟨_, rfl, rfl, _, rfl, if_no rfl ⟨_, rfl, rfl, _, rfl, if_yes rfl ⟨_, rfl, v, d, rfl, hd, k⟩⟩⟩⟩⟩⟩
  by_cases c6 : x = "plan"
  · subst c6
    refine ⟨_, rfl, rfl, _, rfl, if_no rfl ⟨_, rfl, rfl, _, rfl, if_no rfl ⟨_, rfl, rfl, _, rfl, if_no rfl ⟨_, rfl, rfl, _, rfl, if_no rfl ⟨_, rfl, rfl, _, rfl, if_no rfl ⟨_, rfl, rfl, _, rfl, if_yes rfl ?_⟩⟩⟩⟩⟩⟩
    refine ⟨_, rfl, _, _, _, _, _, rfl, .own _, (hd).ty T.pk, T.pk.kit _ 4 (kd_lt _) (by decide), _, rfl, ?_⟩
    cases d with
    | wrk sc =>
      cases hd with
      | wrk h l t o =>
        refine if_yes rfl ⟨_, rfl, _, _, _, _, _, rfl, h, T.pk.wk.cl, T.na, l, _, sc, rfl, t, o, fun H' s => ⟨_, rfl, k H' s⟩⟩
    | _ => exact if_no rfl (k H (Same.refl H))
  have z : ∀ H', Same H H' → Q (.bl (isWord d)) H' := fun H' s => by
    have y := k H' s
    unfold itemD at y
    rw [if_neg c1, if_neg c2, if_neg c3, if_neg c4, if_neg c5, if_neg c6] at y
    exact y
  exact ⟨_, rfl, rfl, _, rfl, if_no (no c1) ⟨_, rfl, rfl, _, rfl, if_no (no c2) ⟨_, rfl, rfl, _, rfl, if_no (no c3) ⟨_, rfl, rfl, _, rfl, if_no (no c4) ⟨_, rfl, rfl, _, rfl, if_no (no c5) ⟨_, rfl, rfl, _, rfl, if_no (no c6) ⟨_, rfl, v, d, rfl, hd, z⟩⟩⟩⟩⟩⟩⟩
theorem items_all : ∀ (ks : List Str) (ds : List Dt), ks.length = ds.length → itemsD ks ds = ((List.range ks.length).map fun i => itemD (ks.getD i "") (ds.getD i .non)).all id
  | [], [], _ => rfl
  | k :: ks, d :: ds, h => by
    have ih := items_all ks ds (by simpa using h)
    rw [List.length_cons, List.range_succ_eq_map, List.map_cons, List.map_map, List.all_cons]
    show (itemD k d && itemsD ks ds) = _
    rw [ih]
    rfl
theorem items_len : ∀ (ks : List Str) (ds : List Dt), ks.length ≠ ds.length → itemsD ks ds = false
  | [], [], h => absurd rfl h
  | [], _ :: _, _ => rfl
  | _ :: _, [], _ => rfl
  | k :: ks, d :: ds, h => by
    show (itemD k d && itemsD ks ds) = _
    rw [items_len ks ds (fun e => h (by simp [e])), Bool.and_false]
theorem lookup_mem : ∀ {l : List (Str × List Str)} {x : Str} {ks : List Str}, l.lookup x = some ks → (x, ks) ∈ l
  | (y, zs) :: l, x, ks, h => by
    rw [List.lookup_cons] at h
    cases q : x == y with
    | true => rw [q] at h; cases h; rw [eq_of_beq q]; exact List.mem_cons_self
    | false => rw [q] at h; exact List.mem_cons_of_mem _ (lookup_mem h)
theorem items_few : ∀ p ∈ deedItems, p.2.length ≤ 3 := by decide +kernel
theorem ok_is_deed (F : Has K mg "is_deed" s_is_deed) (T : Txt K mg) (TD : Tab K w mg) (F_is_item : FnQ P w K mg base CX0 5 "_is_item" ["kind", "item"] (spItem K)) : FnQ P w K mg base CX0 6 "is_deed" ["value"] (spChk K deedD) := by
  refine F.q sc_is_deed (fun _ _ _ _ _ _ us hl => match us, hl with | [_], _ => rfl) (fun vs H Q E h => by obtain ⟨v, d, rfl, _⟩ := h; rfl) (fun cdv A outer s H vs Q E hr h => ?_)
  obtain ⟨v, d, rfl, hd, k⟩ := h
  have gI : mg "isinstance" = none := T.fr _ (by simp [frees])
  have gL : mg "len" = none := T.fr _ (by simp [frees])
  obtain ⟨es, n, DD⟩ := TD.kd
  refine ⟨_, PSs.nox (pss_cons (ps_if (pw_or (pt_not (pt_val (pe_callB call_isi (by rfl) gI boot_isinstance (pa_cons (pv 0) (pa_cons (pe_bltn (v := .ty "tuple") (by rfl) (T.fr "tuple" (by simp [frees])) PyProof.Rows.boot_tuple rfl) pa_nil))))) (pw_or1 (pt_cmpR op_eq (pe_callB call_len_seq (by rfl) gL boot_len (pa_cons (pv 0) pa_nil)) pe_int (by first | exact nomark _ | rfl)))).pt
  (pss_one (ps_ret pe_bl))
  pss_nil)
  (pss_cons (ps_asg (pv 0) (pg_rest (k := 1) rfl (pgs_cons (pg_name (i := 1) sc_is_deed.nd rfl (by first | exact .inl rfl | exact .inr rfl)) (pgs_rest (pg_name (i := 2) sc_is_deed.nd rfl (by first | exact .inl rfl | exact .inr rfl)) pgs_nil))))
  (pss_cons (ps_if (pw_or (pt_not (pt_val (pe_callB call_isi (by rfl) gI boot_isinstance (pa_cons (pv 1) (pa_cons (pe_bltn (v := .ty "str") (by rfl) (T.fr "str" (by simp [frees])) PyProof.Rows.boot_str rfl) pa_nil))))) (pw_or1 (pt_cmpR (op_notIn_kd DD) (pv 1) (C8.pe_gc (by rfl) TD.gl) (by first | exact nomark _ | rfl)))).pt
  (pss_one (ps_ret pe_bl))
  pss_nil)
  (pss_cons (ps_set (i := 3) sc_is_deed.nd rfl (by first | exact .inl rfl | exact .inr rfl) (pe_ix ix_kdict (C8.pe_gc (by rfl) TD.gl) (pv 1) (fun _ _ => rfl)))
  (pss_one (ps_ret (pe_and (pe_cmpR op_eq (pe_callB call_len_seq (by rfl) gL boot_len (pa_cons (pv 2) pa_nil)) (pe_callB call_len_seq (by rfl) gL boot_len (pa_cons (pv 3) pa_nil)) (by first | exact nomark _ | rfl)) (pe_one (pe_callB (cr_all rfl) (by rfl) (T.fr "all" (by simp [frees])) boot_all (pa_cons (pe_lc (own := [("kind", 4), ("item", 5)]) (tt := tYes) rfl sc_is_deed.nd (pi_zipM (by rfl) (T.fr "zip" (by simp [frees])) (pa_cons (pv 3) (pa_cons (pv 2) pa_nil))) (blkOk_by (N := N_is_deed) (sc := defScope s_is_deed) (by decide +kernel)) (fun _ _ _ _ _ => (pg_tupK K 2 rfl (pgs_cons (pg_name (i := 4) sc_is_deed.nd rfl (by first | exact .inl rfl | exact .inr rfl)) (pgs_cons (pg_name (i := 5) sc_is_deed.nd rfl (by first | exact .inl rfl | exact .inr rfl)) pgs_nil)))) (fun _ _ _ _ _ => pts_nil) (fun _ _ _ _ _ => (pe_f F_is_item hr pass0 (pa_cons (pv 4) (pa_cons (pv 5) pa_nil))))) pa_nil)))))))))), ?_⟩
  refine ⟨_, rfl, _, _, _, _, _, rfl, .ty _, (hd).ty T.pk, T.pk.kit _ 3 (kd_lt _) (by decide), _, rfl, ?_⟩
  cases d with
  | tup ds =>
    obtain ⟨a, xs, rfl, hx, ha, hl⟩ := tup_len hd
    refine if_no rfl ⟨_, rfl, a, _, rfl, .inr hx, rfl, _, rfl, ?_⟩
    cases ha with
    | nil => exact if_yes rfl (k H (Same.refl H))
    | @cons v0 vs d0 ds h0 ht =>
      refine if_no (decide_eq_false fun e => by injection e with e; simp at e; omega) ?_
      refine ⟨_, rfl, a, _, rfl, hx, Nat.succ_le_succ (Nat.zero_le _), fun p H1 s1 n1 l1 => ?_⟩
      refine ⟨_, _, rfl, _, _, rfl, rfl, _, rfl, _, _, _, _, _, rfl, .ty _, ((h0.same s1)).ty T.pk, T.pk.kit _ 2 (kd_lt _) (by decide), _, rfl, ?_⟩
      cases d0 with
      | str x =>
        cases h0
        refine if_no rfl ?_
        cases lk : deedItems.lookup x with
        | none =>
          have z := k H1 s1
          simp only [deedD, lk] at z
          exact ⟨_, rfl, x, _, rfl, rfl, TD.no x lk, _, rfl, if_yes rfl z⟩
        | some ks =>
          obtain ⟨b, hb, hk⟩ := TD.at_ x ks lk
          have few : ks.length ≤ 3 := items_few _ (lookup_mem lk)
          refine ⟨_, rfl, x, _, rfl, rfl, hb, _, rfl, if_no rfl ?_⟩
          refine ⟨_, rfl, _, x, .ref b, rfl, rfl, ⟨es, n, _, DD.at_, DD.lit, hb, rfl⟩, ?_⟩
          have z0 : ∀ H', Same H H' → Q (.bl (itemsD ks ds)) H' := fun H' s => by
            have z := k H' s
            simp only [deedD, lk] at z
            exact z
          have lds : vs.length = ds.length := ht.len
          refine ⟨_, rfl, p, _, rfl, .inl (SqL.of l1), _, rfl, b, _, rfl, .inr (hk H1), rfl, _, rfl, ?_⟩
          by_cases le : ks.length = ds.length
          · refine if_yes (decide_eq_true (by simp [le, lds])) ?_
            refine ⟨_, rfl, _, rfl, b, p, _, _, rfl, hk H1, SqL.of l1, comp_val (walk_zipM (by simp [le, lds])) (f := fun i => .bl (itemD (ks.getD i "") (ds.getD i .non))) ?_ (fun H' s => ⟨hk H', s.sqL (SqL.of l1)⟩) ?_ ?_ ?_⟩
            · exact small1000 (by simp; omega)
            · rintro i H4 v H5 ⟨T0, x0, y0, rfl, nT, rfl, _⟩
              exact Same.new nT
            · rintro i v H2 H3 R hi s2 ⟨T0, x0, y0, rfl, nT, rfl, e1, e2⟩ r
              obtain ⟨kk, ek, rfl⟩ : ∃ kk, ks[i]? = some kk ∧ x0 = .str kk := by
                have e1 : (ks.map V.str)[i]? = some x0 := e1
                rw [List.getElem?_map] at e1
                cases q : ks[i]? with
                | none => rw [q] at e1; cases e1
                | some kk => rw [q] at e1; exact ⟨kk, rfl, (Option.some.inj e1).symm⟩
              obtain ⟨di, ed, hdi⟩ := ht.get (show vs[i]? = some y0 from e2)
              have s3 : Same H (upd H2 T0 (.tup [.str kk, y0])) := fun b o e => Same.new nT _ _ (s2 _ _ (s1 _ _ e))
              refine ⟨T0, _, rfl, SqT.of upd_same, rfl, _, _, rfl, _, _, rfl, rfl, rfl, _, rfl, _, rfl, kk, y0, di, rfl, hdi.same s3, fun H' s => ?_⟩
              have z := r H' s
              simp only [List.getD_eq_getElem?_getD, ek, ed, Option.getD_some] at z
              exact z
            · intro q H2 s2 n2 l2
              have em : ((List.range (ks.map V.str).length).map fun i => V.bl (itemD (ks.getD i "") (ds.getD i .non))) = ((List.range ks.length).map fun i => itemD (ks.getD i "") (ds.getD i .non)).map V.bl := by
                rw [List.map_map, List.length_map]
                rfl
              rw [em] at l2
              refine ⟨q, _, rfl, SqL.of l2, ?_⟩
              rw [← items_all ks ds le]
              exact z0 H2 (s1.trans s2)
          · refine if_no (decide_eq_false fun e => le (by injection e with e; simp [lds] at e; omega)) ?_
            have z := z0 H1 s1
            rw [items_len ks ds le] at z
            exact z
      | _ => exact if_yes rfl (k H1 s1)
  | _ => exact if_yes rfl (if_yes rfl (k H (Same.refl H)))
end
end K08
namespace K08
open PySem PySem.Spec PyProof.Rows L2
section
variable {P : Program} {w : World} {K : PySem.W.Frag} {mg : Str → Option Value} {base : Heap}
theorem deeds_all (ds : List Dt) : ds.all deedD = ((List.range ds.length).map fun i => deedD (ds.getD i .non)).all id := by
  have e := congrArg (List.map deedD) (PyProof.Rows.range_getD ds .non)
  rw [List.map_map] at e
  have : ((List.range ds.length).map fun i => deedD (ds.getD i .non)) = ds.map deedD := e
  rw [this, List.all_map]
  rfl
theorem ok_are_deeds (F : Has K mg "_are_deeds" s_are_deeds) (T : Txt K mg) (F_is_deed : FnQ P w K mg base CX0 6 "is_deed" ["value"] (spChk K deedD)) : FnQ P w K mg base CX0 7 "_are_deeds" ["value"] (spChk K deedsD) := by
  refine F.q sc_are_deeds (fun _ _ _ _ _ _ us hl => match us, hl with | [_], _ => rfl) (fun vs H Q E h => by obtain ⟨v, d, rfl, _⟩ := h; rfl) (fun cdv A outer s H vs Q E hr h => ?_)
  obtain ⟨v, d, rfl, hd, k⟩ := h
  have gI : mg "isinstance" = none := T.fr _ (by simp [frees])
  have gL : mg "len" = none := T.fr _ (by simp [frees])
  refine ⟨_, PSs.nox (pss_one (ps_ret (pe_and (pe_callB call_isi (by rfl) gI boot_isinstance (pa_cons (pv 0) (pa_cons (pe_bltn (v := .ty "tuple") (by rfl) (T.fr "tuple" (by simp [frees])) PyProof.Rows.boot_tuple rfl) pa_nil))) (pe_and (pe_cmpR op_le (pe_callB call_len_seq (by rfl) gL boot_len (pa_cons (pv 0) pa_nil)) (C8.pe_gc (by rfl) T.c_MOST_DEEDS) (by first | exact nomark _ | rfl)) (pe_one (pe_callB (cr_all rfl) (by rfl) (T.fr "all" (by simp [frees])) boot_all (pa_cons (pe_lc (own := [("deed", 1)]) (tt := tYes) rfl sc_are_deeds.nd (pi_tup (pv 0)) (blkOk_by (N := N_are_deeds) (sc := defScope s_are_deeds) (by decide +kernel)) (fun _ _ _ _ _ => (pg_name (i := 1) sc_are_deeds.nd rfl (by first | exact .inl rfl | exact .inr rfl))) (fun _ _ _ _ _ => pts_nil) (fun _ _ _ _ _ => (pe_f F_is_deed hr pass0 (pa_cons (pv 1) pa_nil)))) pa_nil))))))), ?_⟩
  refine ⟨_, rfl, _, _, _, _, _, rfl, .ty _, (hd).ty T.pk, T.pk.kit _ 3 (kd_lt _) (by decide), _, rfl, ?_⟩
  cases d with
  | tup ds =>
    obtain ⟨a, xs, rfl, hx, ha, hl⟩ := tup_len hd
    refine if_yes rfl ⟨_, rfl, a, _, rfl, .inr hx, _, _, rfl, rfl, _, rfl, ?_⟩
    by_cases c : ds.length ≤ 8
    · refine if_yes (decide_eq_true (by rw [hl]; omega)) ?_
      refine ⟨_, rfl, a, rfl, ⟨_, hx⟩, comp_val walk_tup (f := fun i => .bl (deedD (ds.getD i .non))) ?_ (fun H' s => s.sqT hx) (fun i H x H' y b o e => by rw [y.1]; exact e) ?_ ?_⟩
      · exact small1000 (by omega)
      · rintro i v H1 H2 R hi s1 ⟨rfl, ex⟩ r
        obtain ⟨d, ed, hdd⟩ := ha.get ex
        refine ⟨rfl, _, rfl, v, d, rfl, hdd.same s1, fun H' s => ?_⟩
        have z := r H' s
        simp only [List.getD_eq_getElem?_getD, ed, Option.getD_some] at z
        exact z
      · intro q H2 s2 n2 l2
        have em : ((List.range xs.length).map fun i => V.bl (deedD (ds.getD i .non))) = ((List.range ds.length).map fun i => deedD (ds.getD i .non)).map V.bl := by
          rw [List.map_map, hl]
          rfl
        rw [em] at l2
        refine ⟨q, _, rfl, SqL.of l2, ?_⟩
        have z := k H2 s2
        simp only [deedsD, decide_eq_true c, Bool.true_and] at z
        rw [deeds_all] at z
        exact z
    · refine if_no (decide_eq_false (by rw [hl]; omega)) ?_
      have z := k H (Same.refl H)
      simp only [deedsD, decide_eq_false c, Bool.false_and] at z
      exact z
  | _ => exact if_no rfl (k H (Same.refl H))
theorem row_len : ∀ ds : List Dt, ds.length ≠ 4 → rowD (.tup ds) = false
  | [], _ => rfl
  | [_], _ => rfl
  | [_, _], _ => rfl
  | [_, _, _], _ => rfl
  | [_, _, _, _], h => absurd rfl h
  | _ :: _ :: _ :: _ :: _ :: _, _ => rfl
theorem ok_is_row (F : Has K mg "_is_row" s_is_row) (T : Txt K mg) (F_is_word : FnQ P w K mg base CX0 1 "is_word" ["value"] (spChk K isWord)) (F_is_between : FnQ P w K mg base CX0 2 "is_between" ["value", "low", "high"] (spBtw K))
    (F_are_deeds : FnQ P w K mg base CX0 7 "_are_deeds" ["value"] (spChk K deedsD)) : FnQ P w K mg base CX0 8 "_is_row" ["value"] (spChk K rowD) := by
  refine F.q sc_is_row (fun _ _ _ _ _ _ us hl => match us, hl with | [_], _ => rfl) (fun vs H Q E h => by obtain ⟨v, d, rfl, _⟩ := h; rfl) (fun cdv A outer s H vs Q E hr h => ?_)
  obtain ⟨v, d, rfl, hd, k⟩ := h
  have gI : mg "isinstance" = none := T.fr _ (by simp [frees])
  have gL : mg "len" = none := T.fr _ (by simp [frees])
  refine ⟨_, PSs.nox (pss_cons (ps_if (pw_or (pt_not (pt_val (pe_callB call_isi (by rfl) gI boot_isinstance (pa_cons (pv 0) (pa_cons (pe_bltn (v := .ty "tuple") (by rfl) (T.fr "tuple" (by simp [frees])) PyProof.Rows.boot_tuple rfl) pa_nil))))) (pw_or1 (pt_cmpR op_ne (pe_callB call_len_seq (by rfl) gL boot_len (pa_cons (pv 0) pa_nil)) pe_int (by first | exact nomark _ | rfl)))).pt
  (pss_one (ps_ret pe_bl))
  pss_nil)
  (pss_cons (ps_asg (pv 0) (pg_tup rfl (pgs_cons (pg_name (i := 1) sc_is_row.nd rfl (by first | exact .inl rfl | exact .inr rfl)) (pgs_cons (pg_name (i := 2) sc_is_row.nd rfl (by first | exact .inl rfl | exact .inr rfl)) (pgs_cons (pg_name (i := 3) sc_is_row.nd rfl (by first | exact .inl rfl | exact .inr rfl)) (pgs_cons (pg_name (i := 4) sc_is_row.nd rfl (by first | exact .inl rfl | exact .inr rfl)) pgs_nil))))))
  (pss_one (ps_ret (pe_and (pe_f F_is_word hr pass0 (pa_cons (pv 1) pa_nil)) (pe_and (pe_f F_is_word hr pass0 (pa_cons (pv 2) pa_nil)) (pe_and (pe_f F_is_between hr pass0 (pa_cons (pv 3) (pa_cons pe_int (pa_cons (C8.pe_gc (by rfl) T.c_MOST_WORK) pa_nil)))) (pe_one (pe_f F_are_deeds hr pass0 (pa_cons (pv 4) pa_nil)))))))))), ?_⟩
  refine ⟨_, rfl, _, _, _, _, _, rfl, .ty _, (hd).ty T.pk, T.pk.kit _ 3 (kd_lt _) (by decide), _, rfl, ?_⟩
  cases d with
  | tup ds =>
    obtain ⟨a, xs, rfl, hx, ha, hl⟩ := tup_len hd
    refine if_no rfl ⟨_, rfl, a, _, rfl, .inr hx, rfl, _, rfl, ?_⟩
    by_cases l4 : ds.length = 4
    case neg =>
      have z := k H (Same.refl H)
      rw [row_len ds l4] at z
      exact if_yes (by rw [hl]; simp; omega) z
    match ds, hl, ha, l4 with
    | [d1, d2, d3, d4], hl, ha, _ =>
      obtain ⟨v1, v2, v3, v4, rfl, h1, h2, h3, h4⟩ := ha.four
      refine if_no rfl ?_
      refine ⟨_, rfl, a, _, rfl, hx, rfl, _, _, rfl, _, _, rfl, _, _, rfl, _, _, rfl, rfl, ?_⟩
      refine ⟨_, rfl, v1, d1, rfl, h1, fun H1 s1 => ⟨_, rfl, ?_⟩⟩
      have k1 : ∀ H', Same H1 H' → Q (.bl (rowD (.tup [d1, d2, d3, d4]))) H' := fun H' s => k H' (s1.trans s)
      cases c1 : isWord d1 with
      | false =>
        have z := k1 H1 (Same.refl H1)
        simp only [rowD, c1, Bool.false_and] at z
        exact if_no rfl z
      | true =>
        refine if_yes rfl ⟨_, rfl, v2, d2, rfl, h2.same s1, fun H2 s2 => ⟨_, rfl, ?_⟩⟩
        cases c2 : isWord d2 with
        | false =>
          have z := k1 H2 s2
          simp only [rowD, c1, c2, Bool.and_false, Bool.false_and] at z
          exact if_no rfl z
        | true =>
          refine if_yes rfl ⟨_, rfl, v3, d3, _, _, rfl, h3.same (s1.trans s2), fun H3 s3 => ⟨_, rfl, ?_⟩⟩
          cases c3 : isBtw 1 1000 d3 with
          | false =>
            have z := k1 H3 (s2.trans s3)
            simp only [rowD, c1, c2, c3, Bool.and_false, Bool.false_and] at z
            exact if_no rfl z
          | true =>
            refine if_yes rfl ⟨_, rfl, v4, d4, rfl, h4.same (s1.trans (s2.trans s3)), fun H4 s4 => ?_⟩
            have z := k1 H4 (s2.trans (s3.trans s4))
            simp only [rowD, c1, c2, c3, Bool.true_and] at z
            exact z
  | _ => exact if_yes rfl (k H (Same.refl H))
end
end K08
/-! enumerate of a tuple -/
namespace L2
open PySem PySem.Spec PyProof.Rows
abbrev tIt (a : Addr) : Obj := { cls := .type "tuple_iterator", data := .fields #[.ref a, .int 0 0] }
abbrev eIt (p : Addr) : Obj := { cls := .type "enumerate", data := .fields #[.none, .bool false, .ref p, rawInt 0, .none, .none] }
set_option maxHeartbeats 2000000 in
theorem enumTup_new (a : Addr) (ts : Array Value) :
    Meets (Builtin.«enumerate.__new__» ⟨[.type "enumerate", .ref a], []⟩) (fun _ R s => s.heap.IsTuple a ts ∧ R (.ok (.ret (.ref (s.heap.push (tIt a)).objs.size))) { s with heap := (s.heap.push (tIt a)).push (eIt s.heap.objs.size) }) :=
  .of_wp fun prog w A R s h => by
    obtain ⟨hp, g, dr, tk, os⟩ := s
    obtain ⟨ht, h⟩ := h
    have isEnum := PySem.sub_enumerate
    have begun : ∀ {A2 : Around} {E : Value → Shared → Prop} {Q : Value → Shared → Prop}, Q (.ref hp.objs.size) ⟨hp.push (tIt a), g, dr, tk, os⟩ → wpAny (model prog w) A2 (pyIter (.ref a)) Q E ⟨hp, g, dr, tk, os⟩ :=
      fun q => (begins_tuple a ts).iter prog w _ _ ⟨hp, g, dr, tk, os⟩ _ ht q
    wp_walk using begun
    refine wpAny_stack_any fun _ => wpAny_pure ?_
    split
    · rename_i cc _ _ _ _ _
      cases (cc == Value.type "enumerate") <;> (wp_walk using begun; exact ⟨_, rfl, h⟩)
    · wp_walk using begun
      exact ⟨_, rfl, h⟩
section
variable {prog : Program} {w : World} {A : Around} {E : Value → Shared → Prop} {s : Shared}
theorem enumTup_call {a : Addr} {ts : Array Value} {Q : Value → Shared → Prop} (ht : s.heap.IsTuple a ts)
    (h : ∀ h2, IsEnum h2 (s.heap.objs.size + 1) s.heap.objs.size 0 .none → h2.IsTupleIter s.heap.objs.size a 0 → (∀ b o, s.heap.get? b = some o → h2.get? b = some o) → Q (.ref (s.heap.objs.size + 1)) { s with heap := h2 }) :
    wpAny (model prog w) A (call (.type "enumerate") [.ref a]) Q E s := by
  refine callType_new F.called_enumerate (by decide) (F.typeCall_enumerate_1 _) (F.newCall_enumerate_1 _) (fun ob => F.args_object_init_2 ob _) F.entry_enumerate_new (enumTup_new a ts) ⟨ht, ?_⟩
  have sz : (s.heap.push (tIt a)).objs.size = s.heap.objs.size + 1 := Heap.size_push ..
  show _ ∧ _
  rw [sz]
  have top : ((s.heap.push (tIt a)).push (eIt s.heap.objs.size)).get? (s.heap.objs.size + 1) = some (eIt s.heap.objs.size) := by
    rw [← sz]
    exact Heap.get?_push_size _ rfl
  exact ⟨⟨_, top, rfl⟩, h _ top ⟨_, Heap.get?_push_of_some _ (Heap.get?_push_size _ rfl), rfl, rfl⟩ fun b o e => Heap.get?_push_of_some _ (Heap.get?_push_of_some _ e)⟩
end
/-- the places and the items of the tuple at a, in new pairs -/
def IteT (K : PySem.W.Frag) (a : Addr) : It where
  go := fun i H => ∃ us : List V, SqT K H a us ∧ i < us.length
  yld := fun i H v H' => ∃ T x, v = .ref T ∧ H T = none ∧ H' = upd H T (.tup [.int (i : Nat), x]) ∧ ∀ us, SqT K H a us → us[i]? = some x
  stop := fun i H => ∃ us : List V, SqT K H a us ∧ i = us.length
theorem turnET {P : Program} {w : World} {K : PySem.W.Frag} {elts : List Expr} {kk : Nat} {tpos : Pos} {a e it : Addr} (ne : e ≠ it) (na : a ≠ it) (nea : e ≠ a) :
    Turn P w K (.Tuple elts kk tpos) (IteT K a) [e, it] e (fun i h => (∃ old, IsEnum h e it ((i : Nat) : Int) old) ∧ h.IsTupleIter it a i) where
  mem := by simp
  obj := by
    rintro i h ⟨⟨old, g1⟩, ⟨o2, e2, _, d2⟩⟩ c hc
    simp only [List.mem_cons, List.not_mem_nil, or_false] at hc
    rcases hc with rfl | rfl
    · exact ⟨_, g1, by rintro _ ⟨⟩⟩
    · exact ⟨o2, e2, by rintro _ j; rw [d2] at j; cases j⟩
  keep := by
    rintro i h h2 ⟨⟨old, g1⟩, g2⟩ kp
    exact ⟨⟨old, kp _ (by simp) _ g1⟩, g2.at (kp it (by simp))⟩
  item := by
    rintro X rfl rfl rfl calm i pins s σ H E I apart ⟨⟨old, g1⟩, g2⟩ ⟨us, hu, lu⟩
    obtain ⟨ts, rt, pt, _⟩ := I.tuple hu
    have free := I.ok.hd calm
    have el : e < s.heap.objs.size := Heap.lt_size g1
    obtain ⟨x, hx⟩ : ∃ x, us[i]? = some x := ⟨us[i], by simp [lu]⟩
    have len1 : ts.toArray.size = us.length := by simpa using rt.length.symm
    refine wpAny_pyNext_enum_itemD (Draws.tuple (A := X.A.in1) free it a na ts.toArray) g1 (i := i) ⟨g2, pt⟩ (by omega) ne (by simp [ne, nea]) ?_
    rintro u h1 tk eu j1 ⟨j2, _⟩ j3 _ kp
    obtain ⟨u2, gu, ru⟩ := rt.get hx
    have qu : u2 = u := by simpa [gu] using eu
    subst qu
    refine ⟨_, rfl, wpAny_letOwnedTupleGo_enum (s := { s with heap := h1, toks := tk + 1 }) j1 fun h2 j4 sb => ?_⟩
    have at_new : h2.get? s.heap.objs.size = some { cls := .type "tuple", data := .seq #[.int i tk, u2] } := (sb.2 _ (Nat.ne_of_gt el)).trans j3
    have fresh := I.hok.fresh (Nat.le_refl s.heap.objs.size)
    have J : Inv X pins σ (upd H s.heap.objs.size (.tup [.int (i : Nat), x])) { s with heap := h2, toks := tk + 1 } := by
      refine I.turnedNew (ch := [e, it]) (fun c o hc q => ?_) apart (Nat.le_refl _) ⟨(by show 2 ≤ sizeLine; decide), [.int i tk, u2], .cons ⟨tk, rfl⟩ (.cons ru .nil), ⟨_, at_new, rfl, _, rfl⟩⟩
      simp only [List.mem_cons, List.not_mem_nil, or_false, not_or] at hc
      exact (sb.2 c hc.1).trans (kp c o hc.1 hc.2 q)
    refine ⟨.ref s.heap.objs.size, _, J, rfl, ⟨_, x, rfl, fresh, rfl, fun l hl => by rw [I.tuple_inj hl hu]; exact hx⟩, ⟨⟨_, by simpa using j4⟩, j2.at fun o q => (sb.2 _ ne.symm).trans q⟩, fun c hc => ?_⟩
    have lt : c < s.heap.objs.size := by
      simp only [List.mem_cons, List.not_mem_nil, or_false] at hc
      rcases hc with rfl | rfl
      · exact el
      · obtain ⟨_, q, _⟩ := g2; exact Heap.lt_size q
    rw [upd_ne (Nat.ne_of_lt lt)]
    exact (apart c hc).1
  done := by
    rintro X rfl rfl rfl calm i pins s σ H E I apart ⟨⟨old, g1⟩, g2⟩ ⟨us, hu, fin⟩
    obtain ⟨ts, rt, pt, _⟩ := I.tuple hu
    have free := I.ok.hd calm
    have len1 : ts.toArray.size = us.length := by simpa using rt.length.symm
    have at_end : i = ts.toArray.size := by omega
    refine wpAny_pyNext_enum_endD (Draws.tuple (A := X.A.in1) free it a na ts.toArray) g1 ⟨by rw [← at_end]; exact g2, pt⟩ fun h1 kp => ⟨rfl, ?_⟩
    refine I.turnedL (t' := s.toks) (ch := [e, it]) (fun c o hc q => ?_) apart
    simp only [List.mem_cons, List.not_mem_nil, or_false, not_or] at hc
    exact kp c o hc.2 q
  self := fun A i s Q E ⟨⟨_, g1⟩, _⟩ h => wpAny_pyIter_enum g1 h
def iEnumT (K : PySem.W.Frag) (ta : TA) : TI := fun σ H R => ta σ H fun vs H1 => ∃ a us, vs = [.ref a] ∧ SqT K H1 a us ∧ R (IteT K a) H1
theorem pi_enumT {X : Cx} {e : Expr} {ta : TA} {p pos tpos : Pos} {elts : List Expr} {kk : Nat} (hg : Gl X "enumerate") (hm : X.mg "enumerate" = none) (ha : PA X [e] ta) (hs : starEach [e] X.env = [(false, eval e X.env)] := by rfl) :
    PI X (.Tuple elts kk tpos) (.Call (.Name "enumerate" p) [e] [] pos) (iEnumT X.K ta) := by
  refine ⟨fun pins s σ H R I h => Call_ (ld_blt I hg hm boot_enumerate (PyProof.Rows.callWith_type1 (thn (ha.run pos pins s σ H _ I h) ?_) hs rfl))⟩
  rintro us s1 ⟨vs, H1, I1, r1, a, xs, rfl, hu, q⟩
  obtain ⟨u1, rfl, r2⟩ := vals1 r1
  cases (show u1 = Value.ref a from r2)
  obtain ⟨ts, rt, pt, _⟩ := I1.tuple hu
  have la : a < s1.heap.objs.size := by obtain ⟨_, z, _⟩ := id pt; exact Heap.lt_size z
  refine enumTup_call pt fun h2 g1 g2 kp => wpAny_pyIter_enum g1 ?_
  refine ⟨_, _, _, _, H1, rfl, I1.kept (t' := s1.toks) kp, turnET (Nat.succ_ne_self _) (Nat.ne_of_lt la) (Nat.ne_of_gt (Nat.lt_succ_of_lt la)), ⟨⟨_, g1⟩, g2⟩, fun c hc => ?_, q⟩
  have ge : s1.heap.objs.size ≤ c := by
    simp only [List.mem_cons, List.not_mem_nil, or_false] at hc
    rcases hc with rfl | rfl
    · exact Nat.le_add_right _ 1
    · exact Nat.le_refl _
  exact I1.fpOk ge (I1.hok.fresh ge)
theorem walk_enumT {K : PySem.W.Frag} {a : Addr} {us : List V} : Walk (IteT K a) us.length (fun H => SqT K H a us) (YPair (fun i => some (.int (i : Nat))) (fun i => us[i]?)) := by
  refine ⟨fun i H hi q => ⟨us, q, hi⟩, fun H q => ⟨us, q, rfl⟩, fun i H v H2 hi q y => ?_⟩
  obtain ⟨T, x, e1, e2, e3, e4⟩ := y
  exact ⟨T, .int (i : Nat), x, e1, e2, e3, rfl, e4 us q⟩
end L2
/-! raise C(e): an own class whose __init__ stores its one argument -/
namespace L2
open PySem PySem.Spec PyProof.Rows
section
variable {X : Cx} {C fI : Addr} {f : Str} {B newId initId : String} {bmB : List Value}
/-- raise C(e): the error's own dict holds the field -/
def tRx (f : Str) (C : Addr) (te : TE) : St → Hp → XK → Prop := fun σ H Q => te σ H fun v H1 => ∀ d H', Same H1 H' → H1 d = none → H' d = some (.xd [(f, v)]) → Q (.ref C) (some d) H'
theorem pmk_xc {x : Str} {a : Expr} {te : TE} {p pos : Pos} {k : Nat} (FB : ExcBaseFacts B newId initId bmB) (SF : StoreFacts B bmB "object.__setattr__" "object") (T : XCl X.K C newId bmB) (J : XIn X.K C fI f) (N : FName f) (hty : PySem.W.typeIn X.K (.ref C) = some (.type "type"))
    (hr : Room k X.A) (hk : 1 ≤ k) (hm : X.mg x = some (.ref C)) (he : PE X a te) (hg : Gl X x := by rfl) (hdb : (x == ("__debug__" : Str)) = false := by decide)
    (hst : starEach (a :: []) X.env = (false, eval a X.env) :: starEach [] X.env := by rfl) (hpl : (backTo pos (starEach [] X.env)).any (·.1) = false := by rfl) : PMk X (.Call (.Name x p) [a] [] pos) (tRx f C te) := by
  intro pins s σ H Q I h
  refine wpAny_Call_Name_kw (ld_glob I hg hm ?_ hdb)
  have one : PA X [a] (fun σ H Q => te σ H fun v H1 => Q [v] H1) := pa_cons he pa_nil hst
  refine PySem.W.callWith_K (h₀ := X.base) I.ok.mod.kin T.kp (thn (one.run pos pins s σ H (fun vs H1 => ∃ v, vs = [v] ∧ ∀ d H', Same H1 H' → H1 d = none → H' d = some (.xd [(f, v)]) → Q (.ref C) (some d) H') I ?_) fun us s1 hh => ?_) hst hpl
  · have same : (fun (v : V) (H1 : Hp) => ∃ u, [v] = [u] ∧ ∀ d H', Same H1 H' → H1 d = none → H' d = some (.xd [(f, u)]) → Q (.ref C) (some d) H') = fun v H1 => ∀ d H', Same H1 H' → H1 d = none → H' d = some (.xd [(f, v)]) → Q (.ref C) (some d) H' := by
      funext v H1
      simp
    show te σ H _
    rw [same]
    exact h
  · obtain ⟨vs, H1, I1, r1, v, rfl, q1⟩ := hh
    obtain ⟨u, rfl, ru⟩ := vals1 r1
    refine ⟨I1.kIn, ?_⟩
    show wpAny _ _ (call (.ref C) [u]) _ _ _
    have lim := I1.nolimit
    have rm : X.A.depth + 1 < recursionLimit := by have := hr.dp; omega
    obtain ⟨hp, g, dr, tk, os⟩ := s1
    refine wpAny_call (xmade FB SF T J N (v := u) I1.kIn lim rm (.inl rfl) fun h2 tk2 e d M => ?_)
    show MkP X pins σ Q (.ref e) ⟨h2, g, dr, tk2, os⟩
    obtain ⟨tp, ox⟩ := M.obj
    obtain ⟨G2, g1, g2⟩ := restrict h2 fun b => decide (b ≠ e)
    have gk : ∀ b, b ≠ e → G2.get? b = h2.get? b := fun b hb => g1 b (decide_eq_true hb)
    have ge : G2.get? e = none := g2 e (by simp)
    have old : ∀ b o, hp.get? b = some o → G2.get? b = some o := fun b o q => (gk b (Nat.ne_of_lt (Nat.lt_of_lt_of_le (Heap.lt_size q) M.big))).trans (M.keep b o q)
    have nd : H1 d = none := I1.hok.fresh M.dbig
    have rel : ∀ z, RelO (([(f, v)] : List (Str × V)).lookup z) (if z = f then some u else none) := relO_put (fs := []) (mA := fun _ => none) ru fun z => True.intro
    have ob : ObjOk X.prog X.w (upd H1 d (.xd [(f, v)])) G2 d (.xd [(f, v)]) := ⟨_, M.ns.at (fun o q => (gk d M.ne.symm).trans q), rel⟩
    have I2 : Inv X pins σ (upd H1 d (.xd [(f, v)])) ⟨G2, g, dr, tk2, os⟩ := I1.laid (t' := tk2) old M.dbig ob
    refine ⟨e, _, _, ⟨G2, g, dr, tk2, os⟩, _, .ref C, some d, rfl, I2, fun b o q => ?_, ge, ox, ⟨rfl, rfl⟩, rfl, rfl, ?_, rfl, I1.bare, raises_own T.xb hty, q1 d _ (Same.new nd) nd upd_same⟩
    · by_cases hb : b = e
      · subst hb
        have q2 : G2.get? b = some o := q
        rw [ge] at q2; cases q2
      · exact (gk b hb).symm.trans q
    · rw [upd_ne M.ne]
      exact I1.hok.fresh M.big
end
section
variable {X : Cx} {CX : CXT} {k j : Nat} {ps : List Str} {sp : Sp} {E : St → XK} {x : Str} {p pos : Pos} {e : Expr} {es : List Expr} {t : TA}
/-- f(e, ..) of a def that may raise, where the raising is taken -/
theorem pe_fS (F : FnQ X.prog X.w X.K X.mg X.base CX j x ps sp) (hr : Room k X.A) (hx : ∀ σ, PassesAt CX X σ (E σ)) (ha : PA X (e :: es) t) (hg : Gl X x := by rfl) (hj : j ≤ k := by decide) (hdb : (x == ("__debug__" : Str)) = false := by decide)
    (hst : starEach (e :: es) X.env = (false, eval e X.env) :: starEach es X.env := by rfl) (hpl : (backTo pos (starEach es X.env)).any (·.1) = false := by rfl) : PE X (.Call (.Name x p) (e :: es) [] pos) (tCallS sp E t) := by
  obtain ⟨fd, G, b, _⟩ := F.fn
  exact pe_callS G (hr.mono hj) hg F.gl F.kp b hx ha hdb hst hpl
end
end L2
namespace K08
open PySem PySem.Spec PyProof.Rows L2
def veB : List Value := [.type "ValueError", .type "Exception", .type "BaseException", .type "object"]
/-- an own error with one field -/
structure Err (K : PySem.W.Frag) (mg : Str → Option Value) (x f : Str) : Prop where
  gl : mg x = some (.ref (He.ga K x))
  cl : XCl K (He.ga K x) "ValueError.__new__" veB
  xi : XIn K (He.ga K x) (He.ma K (He.ga K x) "__init__") f
  ty : PySem.W.typeIn K (.ref (He.ga K x)) = some (.type "type")
theorem fn_index : FName "index" := ⟨fun _ _ _ _ _ _ _ _ _ _ _ _ => rfl, fun _ _ _ _ _ _ _ _ _ _ _ _ => rfl, rfl, rfl, rfl, by decide, by decide +kernel⟩
theorem fn_setting : FName "setting" := ⟨fun _ _ _ _ _ _ _ _ _ _ _ _ => rfl, fun _ _ _ _ _ _ _ _ _ _ _ _ => rfl, rfl, rfl, rfl, by decide, by decide +kernel⟩
def optI : Option Nat → V
  | none => .non | some i => .int (i : Nat)
abbrev spWrong (K : PySem.W.Frag) : Sp := fun vs H Q E => ∃ v d, vs = [v] ∧ Dd K H v d ∧ (∀ rows, d = .tup rows → ∀ H', Same H H' → Q (optI (wrongAt [] 0 rows)) H') ∧
  ((∀ rows, d ≠ .tup rows) → ∀ e H', Same H H' → H e = none → H' e = some (.xd [("index", .non)]) → E (.ref (He.ga K "BadScript")) (some e) H')
section
variable {P : Program} {w : World} {K : PySem.W.Frag} {mg : Str → Option Value} {base : Heap}
/-- the keys met so far -/
structure Seen (kvs : List (List Key × V)) (seen : List (Str × Str)) (i : Nat) : Prop where
  has : ∀ m x : Str, (valV kvs [.inr m, .inr x]).isSome = decide ((m, x) ∈ seen)
  few : kvs.length ≤ i
theorem Seen.put {kvs : List (List Key × V)} {seen : List (Str × Str)} {i : Nat} (S : Seen kvs seen i) (m x : Str) (v : V) : Seen (putK kvs [.inr m, .inr x] v) ((m, x) :: seen) (i + 1) := by
  refine ⟨fun m2 x2 => ?_, ?_⟩
  · rw [valV_put]
    by_cases c : (m2, x2) = (m, x)
    · cases c
      rw [if_pos rfl]
      simp
    · have c2 : ¬ ([.inr m2, .inr x2] : List Key) = [.inr m, .inr x] := fun e => c (by
        injection e with e1 e2
        injection e2 with e2 _
        injection e1 with e1
        injection e2 with e2
        rw [e1, e2])
      rw [if_neg c2, S.has]
      simp [c]
  · have h := S.few
    unfold putK
    split
    · simpa using Nat.le_succ_of_le h
    · simp; omega
theorem row_form {r : Dt} (h : rowD r = true) : ∃ m x k ds, r = .tup [.str m, .str x, k, ds] ∧ wordS m = true ∧ wordS x = true := by
  unfold rowD at h
  split at h
  · rename_i m x k ds
    simp only [Bool.and_eq_true] at h
    obtain ⟨⟨⟨h1, h2⟩, _⟩, _⟩ := h
    cases m with
    | str m => cases x with
      | str x => exact ⟨m, x, k, ds, rfl, h1, h2⟩
      | _ => cases h2
    | _ => cases h1
  · cases h
theorem ok_wrong_row (F : Has K mg "wrong_row" s_wrong_row) (T : Txt K mg) (TE : Err K mg "BadScript" "index") (F_is_row : FnQ P w K mg base CX0 8 "_is_row" ["value"] (spChk K rowD)) : FnQ P w K mg base (L2.CX P w) 9 "wrong_row" ["script"] (spWrong K) := by
  refine F.q sc_wrong_row (fun _ _ _ _ _ _ us hl => match us, hl with | [_], _ => rfl) (fun vs H Q E h => by obtain ⟨v, d, rfl, _⟩ := h; rfl) (fun cdv A outer s H vs Q E hr h => ?_)
  obtain ⟨v, d, rfl, hd, k, ke⟩ := h
  have gI : mg "isinstance" = none := T.fr _ (by simp [frees])
  refine ⟨_, (pss_cons (ps_if (pt_not (pt_val (pe_callB call_isi (by rfl) gI boot_isinstance (pa_cons (pv 0) (pa_cons (pe_bltn (v := .ty "tuple") (by rfl) (T.fr "tuple" (by simp [frees])) PyProof.Rows.boot_tuple rfl) pa_nil)))))
  (pss_one (ps_raise rfl (takes_of rfl rfl rfl rfl) (pmk_xc PySem.F.excBase_ValueError PySem.F.store_ValueError TE.cl TE.xi fn_index TE.ty hr (by decide) TE.gl pe_non)))
  pss_nil)
  (PSs.nox (pss_cons (ps_set (i := 1) sc_wrong_row.nd rfl (by first | exact .inl rfl | exact .inr rfl) pe_dnewT)
  (pss_cons (ps_for PassesOwn.never rfl (pi_enumT (by rfl) (T.fr "enumerate" (by simp [frees])) (pa_cons (pv 0) pa_nil)) (pg_tup rfl (pgs_cons (pg_name (i := 2) sc_wrong_row.nd rfl (by first | exact .inl rfl | exact .inr rfl)) (pgs_cons (pg_name (i := 3) sc_wrong_row.nd rfl (by first | exact .inl rfl | exact .inr rfl)) pgs_nil)))
  (pss_cons (ps_if (pw_or (pt_cmpR op_eq (pv 2) (C8.pe_gc (by rfl) T.c_MOST_ROWS) (by first | exact nomark _ | rfl)) (pw_or (pt_not (pt_val (pe_f F_is_row hr pass0 (pa_cons (pv 3) pa_nil)))) (pw_or1 (pt_cmp (pc_din (hu_of hr) (pe_tupM (pa_cons (pe_ix ix_tup (pv 3) pe_int (fun _ _ => rfl)) (pa_cons (pe_ix ix_tup (pv 3) pe_int (fun _ _ => rfl)) pa_nil))) (pv 1)))))).pt
  (pss_one (ps_ret (pv 2)))
  pss_nil)
  (pss_one (ps_dput (hu_of hr) (pv 1) (pe_tupM (pa_cons (pe_ix ix_tup (pv 3) pe_int (fun _ _ => rfl)) (pa_cons (pe_ix ix_tup (pv 3) pe_int (fun _ _ => rfl)) pa_nil))) pe_bl rfl))))
  (pss_one (ps_ret pe_non)))))), ?_⟩
  refine ⟨_, rfl, _, _, _, _, _, rfl, .ty _, (hd).ty T.pk, T.pk.kit _ 3 (kd_lt _) (by decide), _, rfl, ?_⟩
  cases d with
  | tup rows =>
    refine if_no rfl ?_
    obtain ⟨a, xs, rfl, hx, ha, hl⟩ := tup_len hd
    intro D hD
    have s0 : Same H (upd H D (.dT [])) := Same.new hD
    refine ⟨_, rfl, a, xs, rfl, s0.sqT hx, for_it walk_enumT (fun i σ H' => (∃ vi vr, σ = [some (.ref a), some (.ref D), vi, vr]) ∧ Same H H' ∧ ∃ kvs seen, H' D = some (.dT kvs) ∧ Seen kvs seen i ∧ wrongAt seen i (rows.drop i) = wrongAt [] 0 rows ∧ i ≤ 30)
      ⟨⟨none, none, rfl⟩, s0, [], [], upd_same, ⟨fun _ _ => rfl, Nat.le_refl _⟩, rfl, by decide⟩ (fun i σ H' _ h => h.2.1.sqT hx) ?_ ?_⟩
    · rintro i v σ H1 H2 hi ⟨⟨vi, vr, rfl⟩, s1, kvs, seen, d1, S, W, i30⟩ ⟨tp, x0, y, rfl, nT, rfl, e1, e2⟩
      cases e1
      obtain ⟨r, er, hr1⟩ := ha.get (show xs[i]? = some y from e2)
      have li : i < rows.length := by rw [← hl]; exact hi
      have dr : rows.drop i = r :: rows.drop (i + 1) := by
        rw [List.drop_eq_getElem_cons li]
        congr 1
        rw [List.getElem?_eq_getElem li] at er
        exact Option.some.inj er
      rw [dr] at W
      have s2 : Same H (upd H1 tp (.tup [.int (i : Nat), y])) := s1.trans (Same.new nT)
      have d2 : (upd H1 tp (.tup [.int (i : Nat), y])) D = some (.dT kvs) := Same.new nT _ _ d1
      generalize hH2 : upd H1 tp (.tup [.int (i : Nat), y]) = H2 at s2 d2
      have at_tp : H2 tp = some (.tup [.int (i : Nat), y]) := by rw [← hH2]; exact upd_same
      refine ⟨tp, _, rfl, SqT.of at_tp, rfl, _, _, rfl, _, _, rfl, rfl, ?_⟩
      refine ⟨_, rfl, rfl, _, rfl, ?_⟩
      by_cases c1 : i = 30
      · subst c1
        refine if_yes (decide_eq_true rfl) (if_yes rfl ⟨_, rfl, ?_⟩)
        have z := k rows rfl H2 s2
        rw [← W] at z
        exact z
      · refine if_no (decide_eq_false fun e => c1 (by injection e with e; omega)) ?_
        refine ⟨_, rfl, y, r, rfl, hr1.same s2, fun H3 s3 => ⟨_, rfl, ?_⟩⟩
        have s03 := s2.trans s3
        cases c2 : rowD r with
        | false =>
          refine if_yes rfl (if_yes rfl ⟨_, rfl, ?_⟩)
          have z := k rows rfl H3 s03
          rw [← W] at z
          unfold wrongAt at z
          rw [if_neg c1, if_pos c2] at z
          exact z
        | true =>
          refine if_no rfl ?_
          obtain ⟨m, x, kk, ds, rfl, wm, wx⟩ := row_form c2
          obtain ⟨q, ys, rfl, hq, hy, _⟩ := tup_len hr1
          obtain ⟨v1, v2, v3, v4, rfl, h1, h2, _, _⟩ := hy.four
          cases h1
          cases h2
          have two : (2 : Nat) ≤ sizeLine := by decide
          refine ⟨_, rfl, q, _, _, .str m, rfl, rfl, s03.sqT hq, at_of (j := 0) rfl rfl, _, rfl, q, _, _, .str x, rfl, rfl, s03.sqT hq, at_of (j := 1) rfl rfl, two, fun t H4 s4 n4 l4 => ?_⟩
          have d4 : H4 D = some (.dT kvs) := s4 _ _ (s3 _ _ d2)
          refine ⟨_, rfl, D, _, rfl, DGet.t (k := [.inr m, .inr x]) d4 l4, _, rfl, ?_⟩
          have s04 := s03.trans s4
          rw [S.has]
          by_cases c3 : (m, x) ∈ seen
          · refine if_yes (decide_eq_true c3) ⟨_, rfl, ?_⟩
            have z := k rows rfl H4 s04
            rw [← W] at z
            unfold wrongAt at z
            rw [if_neg c1, if_neg (by rw [c2]; exact Bool.noConfusion), if_pos (show keyD (.tup [.str m, .str x, kk, ds]) ∈ seen from c3)] at z
            exact z
          · refine if_no (decide_eq_false c3) ?_
            refine ⟨_, rfl, _, rfl, q, _, _, .str m, rfl, rfl, s04.sqT hq, at_of (j := 0) rfl rfl, _, rfl, q, _, _, .str x, rfl, rfl, s04.sqT hq, at_of (j := 1) rfl rfl, two, fun t2 H5 s5 n5 l5 => ?_⟩
            have d5 := s5 _ _ d4
            have S2 := S.put m x (.bl true)
            refine ⟨D, _, rfl, DPut.t (k := [.inr m, .inr x]) d5 l5 (small1000 (by have := S.few; omega)), ⟨_, _, rfl⟩, fun b o e => ?_, _, (m, x) :: seen, upd_same, S2, ?_, by omega⟩
            · rw [upd_ne (ne_of_none e hD)]
              exact s5 _ _ (s04 _ _ e)
            · rw [← W]
              show _ = wrongAt seen i (_ :: _)
              conv => rhs; unfold wrongAt
              rw [if_neg c1, if_neg (by rw [c2]; exact Bool.noConfusion), if_neg (show ¬ keyD (.tup [.str m, .str x, kk, ds]) ∈ seen from c3)]
              rfl
    · rintro σ H' ⟨⟨vi, vr, rfl⟩, s1, kvs, seen, d1, S, W, i30⟩
      have z := k rows rfl H' s1
      rw [← W, hl, List.drop_length] at z
      exact z
  | _ => exact if_yes rfl (fun e H' s n x => ke (fun _ => by simp) e H' s n x)
end
end K08
namespace K08
open PySem PySem.Spec PyProof.Rows L2
section
variable {P : Program} {w : World} {K : PySem.W.Frag} {mg : Str → Option Value} {base : Heap}
abbrev s_check_settings : Stmt := (top 57)
def N_check_settings : List Str := ["checks", "setting", "is_right"]
theorem sc_check_settings : FnScope N_check_settings ["checks"] (defScope s_check_settings) := ⟨rfl, rfl, rfl, by decide +kernel, rfl, by decide +kernel, by decide +kernel⟩
abbrev s_is_deadline : Stmt := (top 56)
def N_is_deadline : List Str := ["value"]
theorem sc_is_deadline : FnScope N_is_deadline ["value"] (defScope s_is_deadline) := ⟨rfl, rfl, rfl, by decide +kernel, rfl, by decide +kernel, by decide +kernel⟩
abbrev s_WorkerPlan___init__ : Stmt := (inClass (top 53) 0)
def N_WorkerPlan___init__ : List Str := ["self", "name", "restart", "opening", "closing", "deadline", "refused", "script"]
theorem sc_WorkerPlan___init__ : FnScope N_WorkerPlan___init__ ["self", "name", "restart", "opening", "closing", "deadline", "refused", "script"] (defScope s_WorkerPlan___init__) := ⟨rfl, rfl, rfl, by decide +kernel, rfl, by decide +kernel, by decide +kernel⟩
theorem ok_is_script (F : Has K mg "is_script" s_is_script) (T : Txt K mg) (F_wrong_row : FnQ P w K mg base (L2.CX P w) 9 "wrong_row" ["script"] (spWrong K)) : FnQ P w K mg base CX0 10 "is_script" ["value"] (spChk K scriptD) := by
  refine F.q sc_is_script (fun _ _ _ _ _ _ us hl => match us, hl with | [_], _ => rfl) (fun vs H Q E h => by obtain ⟨v, d, rfl, _⟩ := h; rfl) (fun cdv A outer s H vs Q E hr h => ?_)
  obtain ⟨v, d, rfl, hd, k⟩ := h
  have gI : mg "isinstance" = none := T.fr _ (by simp [frees])
  refine ⟨_, PSs.nox (pss_one (ps_ret (pe_and (pe_callB call_isi (by rfl) gI boot_isinstance (pa_cons (pv 0) (pa_cons (pe_bltn (v := .ty "tuple") (by rfl) (T.fr "tuple" (by simp [frees])) PyProof.Rows.boot_tuple rfl) pa_nil))) (pe_one (pe_cmpR op_isN (pe_f F_wrong_row hr passL (pa_cons (pv 0) pa_nil)) pe_non (by first | exact nomark _ | rfl)))))), ?_⟩
  refine ⟨_, rfl, _, _, _, _, _, rfl, .ty _, (hd).ty T.pk, T.pk.kit _ 3 (kd_lt _) (by decide), _, rfl, ?_⟩
  cases d with
  | tup rows =>
    refine if_yes rfl ⟨_, rfl, v, _, rfl, hd, fun rows2 e H' s => ?_, fun n => absurd rfl (n rows)⟩
    cases e
    refine ⟨rfl, ?_⟩
    have z := k H' s
    have e : decide (optI (wrongAt [] 0 rows) = .non) = scriptD (.tup rows) := by
      unfold scriptD
      cases q : wrongAt [] 0 rows <;> simp [optI, q]
    rw [e]
    exact z
  | _ => exact if_no rfl (k H (Same.refl H))
def deadD : Dt → Bool
  | .non => true | d => isBtw 0 1000000000 d
theorem ok_is_deadline (F : Has K mg "_is_deadline" s_is_deadline) (T : Txt K mg) (F_is_between : FnQ P w K mg base CX0 2 "is_between" ["value", "low", "high"] (spBtw K)) : FnQ P w K mg base CX0 3 "_is_deadline" ["value"] (spChk K deadD) := by
  refine F.q sc_is_deadline (fun _ _ _ _ _ _ us hl => match us, hl with | [_], _ => rfl) (fun vs H Q E h => by obtain ⟨v, d, rfl, _⟩ := h; rfl) (fun cdv A outer s H vs Q E hr h => ?_)
  obtain ⟨v, d, rfl, hd, k⟩ := h
  refine ⟨_, PSs.nox (pss_one (ps_ret (pe_or (pe_cmpR op_isN (pv 0) pe_non (by first | exact nomark _ | rfl)) (pe_one (pe_f F_is_between hr pass0 (pa_cons (pv 0) (pa_cons pe_int (pa_cons (C8.pe_gc (by rfl) T.c_MOST_TICKS) pa_nil)))))))), ?_⟩
  refine ⟨_, rfl, rfl, _, rfl, ?_⟩
  cases hd with
  | non => exact if_yes rfl (k H (Same.refl H))
  | bl b => exact if_no rfl ⟨_, rfl, _, .bl b, _, _, rfl, .bl b, k⟩
  | int i => exact if_no rfl ⟨_, rfl, _, .int i, _, _, rfl, .int i, k⟩
  | str x h => exact if_no rfl ⟨_, rfl, _, .str x, _, _, rfl, .str x h, k⟩
  | lst h t => exact if_no rfl ⟨_, rfl, _, _, _, _, rfl, .lst h t, k⟩
  | tup h t => exact if_no rfl ⟨_, rfl, _, _, _, _, rfl, .tup h t, k⟩
  | dic h => exact if_no rfl ⟨_, rfl, _, .dic, _, _, rfl, .dic h, k⟩
  | wrk h l t o => exact if_no rfl ⟨_, rfl, _, _, _, _, rfl, .wrk h l t o, k⟩
  | sup h => exact if_no rfl ⟨_, rfl, _, .sup, _, _, rfl, .sup h, k⟩
/-- the first setting that is not right -/
def firstBad : List (Str × Bool) → Option Str
  | [] => none
  | (x, b) :: r => if b = true then firstBad r else some x
/-- pairs of a text and a truth -/
inductive Prs (K : PySem.W.Frag) (H : Hp) : List V → List (Str × Bool) → Prop
  | nil : Prs K H [] []
  | cons {t : Addr} {x : Str} {b : Bool} {vs : List V} {ps : List (Str × Bool)} : SqT K H t [.str x, .bl b] → Prs K H vs ps → Prs K H (.ref t :: vs) ((x, b) :: ps)
theorem Prs.same {H H' : Hp} (s : Same H H') {vs : List V} {ps : List (Str × Bool)} (h : Prs K H vs ps) : Prs K H' vs ps := by
  induction h with
  | nil => exact .nil
  | cons q _ ih => exact .cons (s.sqT q) ih
theorem Prs.get {H : Hp} {vs : List V} {ps : List (Str × Bool)} (h : Prs K H vs ps) : ∀ {i : Nat} {v : V}, vs[i]? = some v → ∃ t x b, v = .ref t ∧ ps[i]? = some (x, b) ∧ SqT K H t [.str x, .bl b] := by
  induction h with
  | nil => intro i v e; simp at e
  | cons q _ ih =>
    intro i v e
    cases i with
    | zero => simp at e; exact ⟨_, _, _, e.symm, rfl, q⟩
    | succ i => simpa using ih (by simpa using e)
theorem Prs.len {H : Hp} {vs : List V} {ps : List (Str × Bool)} (h : Prs K H vs ps) : vs.length = ps.length := by
  induction h with
  | nil => rfl
  | cons _ _ ih => simp [ih]
abbrev spSettings (K : PySem.W.Frag) : Sp := fun vs H Q E => ∃ p xs ps, vs = [.ref p] ∧ SqT K H p xs ∧ Prs K H xs ps ∧ (firstBad ps = none → ∀ H', Same H H' → Q .non H') ∧
  (∀ x, firstBad ps = some x → ∀ e H', Same H H' → H e = none → H' e = some (.xd [("setting", .str x)]) → E (.ref (He.ga K "BadSetting")) (some e) H')
theorem ok_check_settings (F : Has K mg "_check_settings" s_check_settings) (T : Txt K mg) (TE : Err K mg "BadSetting" "setting") : FnQ P w K mg base (L2.CX P w) 2 "_check_settings" ["checks"] (spSettings K) := by
  refine F.q sc_check_settings (fun _ _ _ _ _ _ us hl => match us, hl with | [_], _ => rfl) (fun vs H Q E h => by obtain ⟨p, xs, ps, rfl, _⟩ := h; rfl) (fun cdv A outer s H vs Q E hr h => ?_)
  obtain ⟨p, xs, ps, rfl, hp, hx, k, ke⟩ := h
  refine ⟨_, (pss_one (ps_for (passes_of rfl) rfl (pi_tup (pv 0)) (pg_tup rfl (pgs_cons (pg_name (i := 1) sc_check_settings.nd rfl (by first | exact .inl rfl | exact .inr rfl)) (pgs_cons (pg_name (i := 2) sc_check_settings.nd rfl (by first | exact .inl rfl | exact .inr rfl)) pgs_nil)))
  (pss_one (ps_if (pt_not (pt_val (pv 2)))
  (pss_one (ps_raise rfl (takes_of rfl rfl rfl rfl) (pmk_xc PySem.F.excBase_ValueError PySem.F.store_ValueError TE.cl TE.xi fn_setting TE.ty hr (by decide) TE.gl (pv 1))))
  pss_nil)))), ?_⟩
  refine ⟨_, rfl, p, rfl, ⟨_, hp⟩, for_it walk_tup (fun i σ H' => (∃ v1 v2, σ = [some (.ref p), v1, v2]) ∧ Same H H' ∧ firstBad (ps.drop i) = firstBad ps) ⟨⟨none, none, rfl⟩, Same.refl H, rfl⟩ (fun i σ H' _ h => h.2.1.sqT hp) ?_ ?_⟩
  · rintro i v σ H1 H2 hi ⟨⟨v1, v2, rfl⟩, s1, fb⟩ ⟨rfl, ex⟩
    obtain ⟨t, x, b, rfl, ep, ht⟩ := hx.get ex
    have li : i < ps.length := by rw [← hx.len]; exact hi
    have dr : ps.drop i = (x, b) :: ps.drop (i + 1) := by
      rw [List.drop_eq_getElem_cons li]
      congr 1
      rw [List.getElem?_eq_getElem li] at ep
      exact Option.some.inj ep
    rw [dr] at fb
    refine ⟨t, _, rfl, s1.sqT ht, rfl, _, _, rfl, _, _, rfl, rfl, _, rfl, _, rfl, ?_⟩
    cases b with
    | true =>
      refine if_no rfl ⟨⟨_, _, rfl⟩, s1, ?_⟩
      rw [← fb]
      rfl
    | false =>
      refine if_yes rfl ⟨_, rfl, fun e H' s n x2 => ke x ?_ e H' (s1.trans s) ?_ x2⟩
      · rw [← fb]
        rfl
      · cases q : H e with
        | none => rfl
        | some o => rw [s1 _ _ q] at n; cases n
  · rintro σ H' ⟨⟨v1, v2, rfl⟩, s1, fb⟩
    rw [hx.len, List.drop_length] at fb
    exact k fb.symm H' s1
def restarts : List Str := ["permanent", "transient", "temporary"]
def tickMax : Int := 1000000000
/-- what WorkerPlan asks of its seven settings -/
def wset (d1 d2 d3 d4 d5 d6 d7 : Dt) : List (Str × Bool) := [("name", isPlace d1), ("restart", isOne restarts d2), ("opening", isBtw 0 1000000000 d3), ("closing", isBtw 0 1000000000 d4), ("deadline", deadD d5), ("refused", isBtw 0 100 d6), ("script", scriptD d7)]
def wflds (v1 v2 v3 v4 v5 v6 v7 : V) : List (Str × V) := [("name", v1), ("restart", v2), ("opening", v3), ("closing", v4), ("deadline", v5), ("refused", v6), ("script", v7)]
abbrev wNames : List Str := ["name", "restart", "opening", "closing", "deadline", "refused", "script"]
abbrev spWInit (K : PySem.W.Frag) : Sp := fun vs H Q E => ∃ a dx v1 v2 v3 v4 v5 v6 v7 d1 d2 d3 d4 d5 d6 d7, vs = [.ref a, v1, v2, v3, v4, v5, v6, v7] ∧ H a = some (.ins (wkA K) dx []) ∧
  Dd K H v1 d1 ∧ Dd K H v2 d2 ∧ Dd K H v3 d3 ∧ Dd K H v4 d4 ∧ Dd K H v5 d5 ∧ Dd K H v6 d6 ∧ Dd K H v7 d7 ∧
  (firstBad (wset d1 d2 d3 d4 d5 d6 d7) = none → ∀ H', Same H H' → Q .non (upd H' a (.ins (wkA K) dx (wflds v1 v2 v3 v4 v5 v6 v7)))) ∧
  (∀ x, firstBad (wset d1 d2 d3 d4 d5 d6 d7) = some x → ∀ e H', Same H H' → H e = none → H' e = some (.xd [("setting", .str x)]) → E (.ref (He.ga K "BadSetting")) (some e) H')
/-- a method of a class, with its keyword-only defaults -/
structure HasM (K : PySem.W.Frag) (C m q : Str) (st : Stmt) (kws : List (Str × V)) : Prop where
  df : ∃ fd, FunD K m q (defArgs st) (defBody st) (defScope st) [] kws (He.ma K (He.ga K C) m) fd
/-- what is asked of the class WorkerPlan -/
structure Wk (K : PySem.W.Frag) (mg : Str → Option Value) : Prop where
  gl : mg "WorkerPlan" = some (.ref (wkA K))
  cl : Cls K (wkA K)
  na : ∀ f ∈ wNames, NoAttr K (wkA K) f
  mkr : Mk K (wkA K) (He.ma K (wkA K) "__init__")
theorem putF_le {f : Str} {v : V} : ∀ {fs : List (Str × V)} {n : Nat}, fs.length ≤ n → (putF f v fs).length ≤ n + 1
  | [], n, _ => by show 1 ≤ n + 1; omega
  | (g, x) :: r, n, h => by
    unfold putF
    split
    · exact Nat.le_succ_of_le h
    · have z : r.length ≤ n - 1 := by simp at h; omega
      have y := putF_le (f := f) (v := v) z
      simp only [List.length_cons] at h ⊢
      omega
theorem wflds_put (v1 v2 v3 v4 v5 v6 v7 : V) : putF "script" v7 (putF "refused" v6 (putF "deadline" v5 (putF "closing" v4 (putF "opening" v3 (putF "restart" v2 (putF "name" v1 [])))))) = wflds v1 v2 v3 v4 v5 v6 v7 := by
  have q01 : ¬ (("name" : Str) = "restart") := by decide +kernel
  have q02 : ¬ (("name" : Str) = "opening") := by decide +kernel
  have q03 : ¬ (("name" : Str) = "closing") := by decide +kernel
  have q04 : ¬ (("name" : Str) = "deadline") := by decide +kernel
  have q05 : ¬ (("name" : Str) = "refused") := by decide +kernel
  have q06 : ¬ (("name" : Str) = "script") := by decide +kernel
  have q12 : ¬ (("restart" : Str) = "opening") := by decide +kernel
  have q13 : ¬ (("restart" : Str) = "closing") := by decide +kernel
  have q14 : ¬ (("restart" : Str) = "deadline") := by decide +kernel
  have q15 : ¬ (("restart" : Str) = "refused") := by decide +kernel
  have q16 : ¬ (("restart" : Str) = "script") := by decide +kernel
  have q23 : ¬ (("opening" : Str) = "closing") := by decide +kernel
  have q24 : ¬ (("opening" : Str) = "deadline") := by decide +kernel
  have q25 : ¬ (("opening" : Str) = "refused") := by decide +kernel
  have q26 : ¬ (("opening" : Str) = "script") := by decide +kernel
  have q34 : ¬ (("closing" : Str) = "deadline") := by decide +kernel
  have q35 : ¬ (("closing" : Str) = "refused") := by decide +kernel
  have q36 : ¬ (("closing" : Str) = "script") := by decide +kernel
  have q45 : ¬ (("deadline" : Str) = "refused") := by decide +kernel
  have q46 : ¬ (("deadline" : Str) = "script") := by decide +kernel
  have q56 : ¬ (("refused" : Str) = "script") := by decide +kernel
  simp [putF, wflds, q01, q02, q03, q04, q05, q06, q12, q13, q14, q15, q16, q23, q24, q25, q26, q34, q35, q36, q45, q46, q56]
theorem ok_winit {kws : List (Str × V)} {fd : FuncData} (F : FunD K "__init__" "WorkerPlan.__init__" (defArgs s_WorkerPlan___init__) (defBody s_WorkerPlan___init__) (defScope s_WorkerPlan___init__) [] kws (He.ma K (wkA K) "__init__") fd) (T : Txt K mg) (W : Wk K mg)
    (F_check_settings : FnQ P w K mg base (L2.CX P w) 2 "_check_settings" ["checks"] (spSettings K)) (F_is_place_name : FnQ P w K mg base CX0 2 "is_place_name" ["value"] (spChk K isPlace)) (F_is_one_of : FnQ P w K mg base CX0 1 "is_one_of" ["value", "words"] (spOne K))
    (F_is_between : FnQ P w K mg base CX0 2 "is_between" ["value", "low", "high"] (spBtw K)) (F_is_deadline : FnQ P w K mg base CX0 3 "_is_deadline" ["value"] (spChk K deadD)) (F_is_script : FnQ P w K mg base CX0 10 "is_script" ["value"] (spChk K scriptD)) :
    FnOk P w K mg base (L2.CX P w) 11 (He.ma K (wkA K) "__init__") fd ["self", "name", "restart", "opening", "closing", "deadline", "refused", "script"] (spWInit K) := by
  refine F.ok sc_WorkerPlan___init__ (fun vs H Q E h => by obtain ⟨_, _, _, _, _, _, _, _, _, _, _, _, _, _, _, _, rfl, _⟩ := h; rfl) (fun cdv A outer s H vs Q E hr h => ?_)
  obtain ⟨a, dx, v1, v2, v3, v4, v5, v6, v7, d1, d2, d3, d4, d5, d6, d7, rfl, ha, h1, h2, h3, h4, h5, h6, h7, k, ke⟩ := h
  refine ⟨_, (pss_cons (ps_expr (pe_fS F_check_settings hr (fun σ => passAt (takes_of rfl rfl rfl rfl) σ) (pa_cons (pe_tupM (pa_cons (pe_tupM (pa_cons pe_str (pa_cons (pe_f F_is_place_name hr pass0 (pa_cons (pv 1) pa_nil)) pa_nil))) (pa_cons (pe_tupM (pa_cons pe_str (pa_cons (pe_f F_is_one_of hr pass0 (pa_cons (pv 2) (pa_cons (C8.pe_gc (by rfl) T.c_RESTARTS) pa_nil))) pa_nil))) (pa_cons (pe_tupM (pa_cons pe_str (pa_cons (pe_f F_is_between hr pass0 (pa_cons (pv 3) (pa_cons pe_int (pa_cons (C8.pe_gc (by rfl) T.c_MOST_TICKS) pa_nil)))) pa_nil))) (pa_cons (pe_tupM (pa_cons pe_str (pa_cons (pe_f F_is_between hr pass0 (pa_cons (pv 4) (pa_cons pe_int (pa_cons (C8.pe_gc (by rfl) T.c_MOST_TICKS) pa_nil)))) pa_nil))) (pa_cons (pe_tupM (pa_cons pe_str (pa_cons (pe_f F_is_deadline hr pass0 (pa_cons (pv 5) pa_nil)) pa_nil))) (pa_cons (pe_tupM (pa_cons pe_str (pa_cons (pe_f F_is_between hr pass0 (pa_cons (pv 6) (pa_cons pe_int (pa_cons (C8.pe_gc (by rfl) T.c_MOST_REFUSED) pa_nil)))) pa_nil))) (pa_cons (pe_tupM (pa_cons pe_str (pa_cons (pe_f F_is_script hr pass0 (pa_cons (pv 7) pa_nil)) pa_nil))) pa_nil)))))))) pa_nil)))
  (PSs.nox (pss_cons (ps_fld (pv 0) (pv 1) rfl)
  (pss_cons (ps_fld (pv 0) (pv 2) rfl)
  (pss_cons (ps_fld (pv 0) (pv 3) rfl)
  (pss_cons (ps_fld (pv 0) (pv 4) rfl)
  (pss_cons (ps_fld (pv 0) (pv 5) rfl)
  (pss_cons (ps_fld (pv 0) (pv 6) rfl)
  (pss_one (ps_fld (pv 0) (pv 7) rfl)))))))))), ?_⟩
  have two : (2 : Nat) ≤ sizeLine := by decide
  have seven : (7 : Nat) ≤ sizeLine := by decide
  have hw : ∀ H, SqT K H (He.ga K "RESTARTS") (restarts.map V.str) := T.tq ("RESTARTS", restarts) (by simp [cTups, restarts])
  refine ⟨_, rfl, v1, d1, rfl, h1, fun H1 s1 => ⟨two, fun t1 G1 r1 n1 l1 => ?_⟩⟩
  have S1 : Same H G1 := s1.trans r1
  refine ⟨_, rfl, v2, d2, _, restarts, rfl, h2.same S1, hw G1, fun H2 s2 => ⟨two, fun t2 G2 r2 n2 l2 => ?_⟩⟩
  have T2 : Same G1 G2 := s2.trans r2
  have S2 := S1.trans T2
  refine ⟨_, rfl, v3, d3, _, _, rfl, h3.same S2, fun H3 s3 => ⟨two, fun t3 G3 r3 n3 l3 => ?_⟩⟩
  have T3 : Same G2 G3 := s3.trans r3
  have S3 := S2.trans T3
  refine ⟨_, rfl, v4, d4, _, _, rfl, h4.same S3, fun H4 s4 => ⟨two, fun t4 G4 r4 n4 l4 => ?_⟩⟩
  have T4 : Same G3 G4 := s4.trans r4
  have S4 := S3.trans T4
  refine ⟨_, rfl, v5, d5, rfl, h5.same S4, fun H5 s5 => ⟨two, fun t5 G5 r5 n5 l5 => ?_⟩⟩
  have T5 : Same G4 G5 := s5.trans r5
  have S5 := S4.trans T5
  refine ⟨_, rfl, v6, d6, _, _, rfl, h6.same S5, fun H6 s6 => ⟨two, fun t6 G6 r6 n6 l6 => ?_⟩⟩
  have T6 : Same G5 G6 := s6.trans r6
  have S6 := S5.trans T6
  refine ⟨_, rfl, v7, d7, rfl, h7.same S6, fun H7 s7 => ⟨two, fun t7 G7 r7 n7 l7 => ?_⟩⟩
  have T7 : Same G6 G7 := s7.trans r7
  have S7 := S6.trans T7
  refine ⟨seven, fun p G8 r8 n8 l8 => ?_⟩
  have S8 : Same H G8 := S7.trans r8
  have m7 := r8 _ _ l7
  have m6 := r8 _ _ (T7 _ _ l6)
  have m5 := r8 _ _ (T7 _ _ (T6 _ _ l5))
  have m4 := r8 _ _ (T7 _ _ (T6 _ _ (T5 _ _ l4)))
  have m3 := r8 _ _ (T7 _ _ (T6 _ _ (T5 _ _ (T4 _ _ l3))))
  have m2 := r8 _ _ (T7 _ _ (T6 _ _ (T5 _ _ (T4 _ _ (T3 _ _ l2)))))
  have m1 := r8 _ _ (T7 _ _ (T6 _ _ (T5 _ _ (T4 _ _ (T3 _ _ (T2 _ _ l1))))))
  refine ⟨p, _, wset d1 d2 d3 d4 d5 d6 d7, rfl, SqT.of l8, .cons (SqT.of m1) (.cons (SqT.of m2) (.cons (SqT.of m3) (.cons (SqT.of m4) (.cons (SqT.of m5) (.cons (SqT.of m6) (.cons (SqT.of m7) .nil)))))), fun fb H9 s9 => ?_, fun x fb e H' s n q => ke x fb e H' (S8.trans s) ?_ q⟩
  · have S9 := S8.trans s9
    have a9 := S9 _ _ ha
    have na : ∀ {f : Str}, f ∈ wNames → NoAttr K (wkA K) f := fun h => W.na _ h
    refine ⟨_, rfl, _, rfl, a, wkA K, dx, _, rfl, a9, W.cl, na (by simp), Nat.lt_of_le_of_lt (Nat.zero_le 0) (by decide), ?_⟩
    refine ⟨_, rfl, _, rfl, a, wkA K, dx, _, rfl, upd_same, W.cl, na (by simp), Nat.lt_of_le_of_lt (putF_le (Nat.zero_le 0)) (by decide), ?_⟩
    refine ⟨_, rfl, _, rfl, a, wkA K, dx, _, rfl, upd_same, W.cl, na (by simp), Nat.lt_of_le_of_lt (putF_le (putF_le (Nat.zero_le 0))) (by decide), ?_⟩
    refine ⟨_, rfl, _, rfl, a, wkA K, dx, _, rfl, upd_same, W.cl, na (by simp), Nat.lt_of_le_of_lt (putF_le (putF_le (putF_le (Nat.zero_le 0)))) (by decide), ?_⟩
    refine ⟨_, rfl, _, rfl, a, wkA K, dx, _, rfl, upd_same, W.cl, na (by simp), Nat.lt_of_le_of_lt (putF_le (putF_le (putF_le (putF_le (Nat.zero_le 0))))) (by decide), ?_⟩
    refine ⟨_, rfl, _, rfl, a, wkA K, dx, _, rfl, upd_same, W.cl, na (by simp), Nat.lt_of_le_of_lt (putF_le (putF_le (putF_le (putF_le (putF_le (Nat.zero_le 0)))))) (by decide), ?_⟩
    refine ⟨_, rfl, _, rfl, a, wkA K, dx, _, rfl, upd_same, W.cl, na (by simp), Nat.lt_of_le_of_lt (putF_le (putF_le (putF_le (putF_le (putF_le (putF_le (Nat.zero_le 0))))))) (by decide), ?_⟩
    have z := k fb H9 S9
    simp only [upd_upd]
    show Q .non (upd H9 a (.ins (wkA K) dx (putF "script" v7 (putF "refused" v6 (putF "deadline" v5 (putF "closing" v4 (putF "opening" v3 (putF "restart" v2 (putF "name" v1 [])))))))))
    rw [wflds_put]
    exact z
  · cases q : H e with
    | none => rfl
    | some o => rw [S8 _ _ q] at n; cases n
end
end K08
namespace K08
open PySem PySem.Spec PyProof.Rows L2
/-! ### the source of draws -/
def kC : Key := .inr "script"
def kA : Key := .inr "at"
def kL : Key := .inr "left"
def src (c : Addr) (n r : Int) : List (Key × V) := [(kC, .ref c), (kA, .int n), (kL, .int r)]
theorem nCA : ¬ kC = kA := by decide +kernel
theorem nCL : ¬ kC = kL := by decide +kernel
theorem nAL : ¬ kA = kL := by decide +kernel
theorem vC (c : Addr) (n r : Int) : valV (src c n r) kC = some (.ref c) := valV_pos rfl
theorem vA (c : Addr) (n r : Int) : valV (src c n r) kA = some (.int n) := (valV_neg nCA).trans (valV_pos rfl)
theorem vL (c : Addr) (n r : Int) : valV (src c n r) kL = some (.int r) := (valV_neg nCL).trans ((valV_neg nAL).trans (valV_pos rfl))
theorem pA (c : Addr) (n r z : Int) : putK (src c n r) kA (.int z) = src c z r := by
  unfold putK src
  simp [nCA, Ne.symm nAL]
theorem pL (c : Addr) (n r z : Int) : putK (src c n r) kL (.int z) = src c n z := by
  unfold putK src
  simp [nCL, nAL]
/-- a source stands at a: its cells at c; at most m draws were made -/
structure Src (K : PySem.W.Frag) (H : Hp) (a c : Addr) (ns : List Int) (m : Int) : Prop where
  dc : ∃ n r, H a = some (.dK (src c n r)) ∧ 0 ≤ n ∧ n ≤ m ∧ 0 ≤ r
  cs : ScrL K H c (ns.map V.int)
  few : ns.length ≤ 63
/-- the heap stays but for the source -/
def But (a : Addr) (H H' : Hp) : Prop := ∀ b o, H b = some o → b ≠ a → H' b = some o
theorem But.refl (a : Addr) (H : Hp) : But a H H := fun _ _ e _ => e
theorem But.trans {a : Addr} {H H1 H2 : Hp} (s : But a H H1) (t : But a H1 H2) : But a H H2 := fun b o e n => t b o (s b o e n) n
theorem But.same {a : Addr} {H H1 H2 : Hp} (s : But a H H1) (t : Same H1 H2) : But a H H2 := fun b o e n => t b o (s b o e n)
theorem But.upd {a : Addr} {H0 H : Hp} (h : But a H0 H) (o : HO) : But a H0 (upd H a o) := fun b u e ne => by rw [upd_ne ne]; exact h b u e ne
def spBegun (K : PySem.W.Frag) : Sp := fun vs H Q _ => ∃ (c : Addr) (ns : List Int), vs = [.ref c] ∧ ScrL K H c (ns.map V.int) ∧ ns.length ≤ 63 ∧ ∀ p H', Same H H' → Src K H' p c ns 0 → H p = none → Q (.ref p) H'
def spNext (K : PySem.W.Frag) : Sp := fun vs H Q _ => ∃ (a c : Addr) (ns : List Int) (m b : Int), vs = [.ref a, .int b] ∧ Src K H a c ns m ∧ m ≤ 1000000 ∧ 0 < b ∧ b < 1000000 ∧
  ∀ (j : Nat) H', (j : Int) < b → Src K H' a c ns (m + 1) → But a H H' → Q (.int j) H'
def spOf (K : PySem.W.Frag) : Sp := fun vs H Q _ => ∃ (a c l : Addr) (ns : List Int) (m : Int) (xs : List V), vs = [.ref a, .ref l] ∧ Src K H a c ns m ∧ m ≤ 1000000 ∧ H l = some (.lst xs) ∧ l ≠ a ∧ 0 < xs.length ∧ xs.length ≤ 1000 ∧
  ∀ (j : Nat) v H', xs[j]? = some v → Src K H' a c ns (m + 1) → But a H H' → Q v H'
section
variable {P : Program} {w : World} {K : PySem.W.Frag} {mg : Str → Option Value} {base : Heap}
abbrev s_law_begun : Stmt := (top 95)
def N_law_begun : List Str := ["cells"]
theorem sc_law_begun : FnScope N_law_begun ["cells"] (defScope s_law_begun) := ⟨rfl, rfl, rfl, by decide +kernel, rfl, by decide +kernel, by decide +kernel⟩
abbrev s_law_next : Stmt := (top 96)
def N_law_next : List Str := ["m", "total", "found", "k", "cell", "mixed"]
theorem sc_law_next : FnScope N_law_next ["m", "total"] (defScope s_law_next) := ⟨rfl, rfl, rfl, by decide +kernel, rfl, by decide +kernel, by decide +kernel⟩
abbrev s_law_of : Stmt := (top 97)
def N_law_of : List Str := ["m", "items"]
theorem sc_law_of : FnScope N_law_of ["m", "items"] (defScope s_law_of) := ⟨rfl, rfl, rfl, by decide +kernel, rfl, by decide +kernel, by decide +kernel⟩
theorem ok_begun (F : Has K mg "_law_begun" s_law_begun) : FnQ P w K mg base CX0 1 "_law_begun" ["cells"] (spBegun K) := by
  refine F.q sc_law_begun (fun _ _ _ _ _ _ us hl => match us, hl with | [_], _ => rfl) (fun vs H Q E h => by obtain ⟨c, ns, rfl, _⟩ := h; rfl) (fun cdv A outer s H vs Q E hr h => ?_)
  obtain ⟨c, ns, rfl, hs, hl, k⟩ := h
  refine ⟨_, PSs.nox (pss_one (ps_ret (pe_disp (pps_cons pe_str (pv 0) (pps_cons pe_str pe_int (pps_cons pe_str pe_int pps_nil))) rfl rfl (by simp) (by decide)))), ?_⟩
  intro p hp
  refine ⟨_, rfl, upd_same, [(kC, V.ref c), (kA, V.int 0), (kL, V.int 0)], rfl, (by show 3 ≤ 15; decide), ?_⟩
  have em : mergeK [] [(kC, V.ref c), (kA, V.int 0), (kL, V.int 0)] = src c 0 0 := by
    unfold mergeK src
    simp [putK, nCA, nCL, nAL]
  rw [em, upd_upd]
  have s1 : Same H (upd H p (.dK (src c 0 0))) := Same.new hp
  exact k p _ s1 ⟨⟨0, 0, upd_same, by decide, by decide, by decide⟩, hs.same s1, hl⟩ hp
theorem getC {H : Hp} {a c : Addr} {n r : Int} (h : H a = some (.dK (src c n r))) : DGet H a (.str "script") (some (.ref c)) := by
  have z := DGet.k (k := kC) h
  rw [vC] at z; exact z
theorem getA {H : Hp} {a c : Addr} {n r : Int} (h : H a = some (.dK (src c n r))) : DGet H a (.str "at") (some (.int n)) := by
  have z := DGet.k (k := kA) h
  rw [vA] at z; exact z
theorem getL {H : Hp} {a c : Addr} {n r : Int} (h : H a = some (.dK (src c n r))) : DGet H a (.str "left") (some (.int r)) := by
  have z := DGet.k (k := kL) h
  rw [vL] at z; exact z
theorem few3 (c : Addr) (n r : Int) : (src c n r).length < sizeLine := small1000 (by show 3 ≤ 1000; decide)
theorem putA {H : Hp} {a c : Addr} {n r z : Int} (h : H a = some (.dK (src c n r))) : DPut H a (.str "at") (.int z) (upd H a (.dK (src c z r))) := by
  have y := DPut.k (k := kA) (v := .int z) h (few3 c n r)
  rw [pA] at y; exact y
theorem putL {H : Hp} {a c : Addr} {n r z : Int} (h : H a = some (.dK (src c n r))) : DPut H a (.str "left") (.int z) (upd H a (.dK (src c n z))) := by
  have y := DPut.k (k := kL) (v := .int z) h (few3 c n r)
  rw [pL] at y; exact y
theorem ok_of (F : Has K mg "_law_of" s_law_of) (T : Txt K mg) (F_law_next : FnQ P w K mg base CX0 1 "_law_next" ["m", "total"] (spNext K)) : FnQ P w K mg base CX0 2 "_law_of" ["m", "items"] (spOf K) := by
  refine F.q sc_law_of (fun _ _ _ _ _ _ us hl => match us, hl with | [_, _], _ => rfl) (fun vs H Q E h => by obtain ⟨a, c, l, ns, m, xs, rfl, _⟩ := h; rfl) (fun cdv A outer s H vs Q E hr h => ?_)
  obtain ⟨a, c, l, ns, m, xs, rfl, S, hm, hx, nla, lp, lf, k⟩ := h
  have gL : mg "len" = none := T.fr _ (by simp [frees])
  refine ⟨_, PSs.nox (pss_one (ps_ret (pe_ix ix_list (pv 1) (pe_f F_law_next hr pass0 (pa_cons (pv 0) (pa_cons (pe_callB call_len_seq (by rfl) gL boot_len (pa_cons (pv 1) pa_nil)) pa_nil))) (fun _ _ => rfl)))), ?_⟩
  refine ⟨_, rfl, _, rfl, _, rfl, l, xs, rfl, .inl (SqL.of hx), a, c, ns, m, xs.length, rfl, S, hm, by omega, by omega, fun j H' hj S' but => ?_⟩
  have lt : j < xs.length := by omega
  have e : xs[j]? = some xs[j] := List.getElem?_eq_getElem lt
  exact ⟨l, xs, _, _, rfl, rfl, SqL.of (but l _ hx nla), atI_nat e, k j _ H' e S' but⟩
theorem dp_ints {H : Hp} : ∀ ns : List Int, DpAll K H (ns.map V.int) (ns.map PyData.int)
  | [] => .nil
  | n :: ns => .cons (.int n) (dp_ints ns)
theorem lay_ints : ∀ ns : List Int, PyData.canLayAll0 (ns.map PyData.int) = true
  | [] => rfl
  | n :: ns => by
    show (PyData.canLay0 (.int n) && PyData.canLayAll0 (ns.map PyData.int)) = true
    rw [lay_ints ns]; rfl
theorem depth_ints : ∀ ns : List Int, PyData.depthAll (ns.map PyData.int) = 0
  | [] => rfl
  | n :: ns => by
    show max (PyData.depth (.int n)) (PyData.depthAll (ns.map PyData.int)) = 0
    rw [depth_ints ns]; rfl
theorem shaped_ints (ns : List Int) : SeqAt.shaped (.list (ns.map PyData.int)) = true := by
  unfold SeqAt.shaped
  have h1 : PyData.canLay0 (.list (ns.map PyData.int)) = true := lay_ints ns
  have h2 : PyData.depth (.list (ns.map PyData.int)) ≤ 64 := by
    show PyData.depthAll (ns.map PyData.int) + 1 ≤ 64
    rw [depth_ints]; decide
  rw [h1, decide_eq_true h2]; rfl
theorem eqv_nil : ∀ ns : List Int, (!PyData.eqv (.list (ns.map PyData.int)) (.list [])) = decide (ns ≠ [])
  | [] => by decide +kernel
  | n :: ns => by
    have : PyData.eqv (.list ((n :: ns).map PyData.int)) (.list []) = false := rfl
    rw [this]
    simp
theorem ok_next (F : Has K mg "_law_next" s_law_next) (T : Txt K mg) : FnQ P w K mg base CX0 1 "_law_next" ["m", "total"] (spNext K) := by
  refine F.q sc_law_next (fun _ _ _ _ _ _ us hl => match us, hl with | [_, _], _ => rfl) (fun vs H Q E h => by obtain ⟨a, c, ns, m, b, rfl, _⟩ := h; rfl) (fun cdv A outer s H vs Q E hr h => ?_)
  obtain ⟨a, c, ns, m, b, rfl, S, hm, b0, b1, kk⟩ := h
  have gL : mg "len" = none := T.fr _ (by simp [frees])
  obtain ⟨⟨n, r, hd, n0, n1, r0⟩, hc, few⟩ := S
  refine ⟨_, PSs.nox (pss_cons (ps_if (pt_cmpR op_gt (pe_dget (hu_of hr) (pv 0) pe_str (fun _ _ => rfl)) pe_int (by first | exact nomark _ | rfl))
  (pss_cons (ps_set (i := 2) sc_law_next.nd rfl (by first | exact .inl rfl | exact .inr rfl) (pe_op op_mod (pe_callTy call_int1 (by rfl) (T.fr "int" (by simp [frees])) PyProof.Rows.boot_int (pa_cons (pe_dget (hu_of hr) (pv 0) pe_str (fun _ _ => rfl)) pa_nil)) (pv 1)))
  (pss_cons (ps_dput (hu_of hr) (pv 0) pe_str (pe_op op_fdiv (pe_dget (hu_of hr) (pv 0) pe_str (fun _ _ => rfl)) (pv 1)) rfl)
  (pss_one (ps_ret (pv 2)))))
  pss_nil)
  (pss_cons (ps_set (i := 3) sc_law_next.nd rfl (by first | exact .inl rfl | exact .inr rfl) (pe_dget (hu_of hr) (pv 0) pe_str (fun _ _ => rfl)))
  (pss_cons (ps_dput (hu_of hr) (pv 0) pe_str (pe_op op_add (pv 3) pe_int) rfl)
  (C8.pss_cut (ps_set (i := 4) sc_law_next.nd rfl (by first | exact .inl rfl | exact .inr rfl) (pe_ifExp (pt_cmpR (op_neD hr.units) (pe_dget (hu_of hr) (pv 0) pe_str (fun _ _ => rfl)) (pe_lstM pa_nil) (by first | exact nomark _ | rfl)) (pe_ix ix_list (pe_dget (hu_of hr) (pv 0) pe_str (fun _ _ => rfl)) (pe_op op_mod (pe_callTy call_int1 (by rfl) (T.fr "int" (by simp [frees])) PyProof.Rows.boot_int (pa_cons (pv 3) pa_nil)) (pe_callB call_len_seq (by rfl) gL boot_len (pa_cons (pe_dget (hu_of hr) (pv 0) pe_str (fun _ _ => rfl)) pa_nil))) (fun _ _ => rfl)) pe_int))
  (pss_cons (ps_if (pw_and (pt_cmpR op_ge (pv 4) (pe_op op_pow pe_int pe_int) (by first | exact nomark _ | rfl)) (pw_and1 (pt_cmpR op_lt (pv 3) (pe_callB call_len_seq (by rfl) gL boot_len (pa_cons (pe_dget (hu_of hr) (pv 0) pe_str (fun _ _ => rfl)) pa_nil)) (by first | exact nomark _ | rfl)))).pt
  (pss_cons (ps_dput (hu_of hr) (pv 0) pe_str (pe_op op_fdiv (pv 4) (pv 1)) rfl)
  (pss_one (ps_ret (pe_op op_mod (pe_callTy call_int1 (by rfl) (T.fr "int" (by simp [frees])) PyProof.Rows.boot_int (pa_cons (pv 4) pa_nil)) (pv 1)))))
  pss_nil)
  (pss_cons (ps_set (i := 5) sc_law_next.nd rfl (by first | exact .inl rfl | exact .inr rfl) (pe_op op_add (pe_op op_mul (pe_op op_mod (pe_callTy call_int1 (by rfl) (T.fr "int" (by simp [frees])) PyProof.Rows.boot_int (pa_cons (pv 4) pa_nil)) pe_int) pe_int) (pe_op op_mod (pe_callTy call_int1 (by rfl) (T.fr "int" (by simp [frees])) PyProof.Rows.boot_int (pa_cons (pe_op op_fdiv (pv 4) pe_int) pa_nil)) pe_int)))
  (pss_cons (ps_set (i := 5) sc_law_next.nd rfl (by first | exact .inl rfl | exact .inr rfl) (pe_op op_mod (pe_callTy call_int1 (by rfl) (T.fr "int" (by simp [frees])) PyProof.Rows.boot_int (pa_cons (pe_op op_add (pe_op op_add (pe_op op_add (pv 5) (pe_op op_mul (pe_op op_mul pe_int (pv 3)) (pv 3))) (pe_op op_mul pe_int (pv 3))) pe_int) pa_nil)) pe_int))
  (pss_cons (ps_set (i := 5) sc_law_next.nd rfl (by first | exact .inl rfl | exact .inr rfl) (pe_op op_mod (pe_callTy call_int1 (by rfl) (T.fr "int" (by simp [frees])) PyProof.Rows.boot_int (pa_cons (pe_op op_mul (pe_op op_mod (pe_callTy call_int1 (by rfl) (T.fr "int" (by simp [frees])) PyProof.Rows.boot_int (pa_cons (pe_op op_mul (pv 5) (pv 5)) pa_nil)) pe_int) pe_int) pa_nil)) pe_int))
  (pss_one (ps_ret (pe_op op_mod (pe_callTy call_int1 (by rfl) (T.fr "int" (by simp [frees])) PyProof.Rows.boot_int (pa_cons (pe_op op_fdiv (pv 5) pe_int) pa_nil)) (pv 1)))))))))))), ?_⟩
  have nac : ∀ {H' : Hp} {z : List (Key × V)}, ScrL K H c (ns.map V.int) → But a H H' → ScrL K H' c (ns.map V.int) := fun {H' z} q but => by
    rcases q with ⟨o, q⟩ | q
    · exact .inl ⟨o, but _ _ q (ne_of q hd fun e => nomatch e)⟩
    · exact .inr q
  have fin : ∀ {H' : Hp} {n2 r2 z : Int}, But a H H' → H' a = some (.dK (src c n2 r2)) → 0 ≤ n2 → n2 ≤ m + 1 → 0 ≤ r2 → 0 ≤ z → z < b → Q (.int z) H' := fun {H' n2 r2 z} but at_ a0 a1 a2 z0 z1 => by
    have q := kk z.toNat H' (by omega) ⟨⟨n2, r2, at_, a0, a1, a2⟩, nac (z := []) hc but, few⟩ but
    rwa [Int.toNat_of_nonneg z0] at q
  refine ⟨_, rfl, a, _, rfl, getL hd, _, _, rfl, rfl, _, rfl, ?_⟩
  by_cases c0 : 0 < r
  · refine if_yes (decide_eq_true c0) ?_
    refine ⟨_, rfl, a, _, rfl, getL hd, .inl ⟨_, rfl, ?_⟩⟩
    refine ⟨_, rfl, _, _, rfl, rfl, b0, ?_⟩
    refine ⟨_, rfl, a, _, rfl, getL hd, _, rfl, _, _, rfl, rfl, ⟨b0, by omega⟩, _, rfl, a, _, rfl, putL hd, _, rfl, ?_⟩
    exact fin ((But.refl a H).upd _) upd_same n0 (by omega) (Int.ediv_nonneg (by omega) (by omega)) (Int.emod_nonneg _ (by omega)) (Int.emod_lt_of_pos _ b0)
  · have er : r = 0 := by omega
    subst er
    refine if_no (decide_eq_false (by omega)) ?_
    refine ⟨_, rfl, a, _, rfl, getA hd, ?_⟩
    refine ⟨_, rfl, _, _, rfl, rfl, _, rfl, a, _, rfl, putA hd, ?_⟩
    generalize hH1 : upd H a (.dK (src c (n + 1) 0)) = H1
    have d1 : H1 a = some (.dK (src c (n + 1) 0)) := by rw [← hH1]; exact upd_same
    have t1 : But a H H1 := by rw [← hH1]; exact (But.refl a H).upd _
    have c1 : ScrL K H1 c (ns.map V.int) := nac (z := []) hc t1
    refine ⟨fun σ H' => ∃ z : Int, σ = [some (.ref a), some (.int b), none, some (.int n), some (.int z), none] ∧ But a H H' ∧ H' a = some (.dK (src c (n + 1) 0)), ?_, ?_⟩
    · refine ⟨_, rfl, a, _, rfl, getC d1, Nat.zero_le _, fun q H2 s2 n2 l2 => ⟨.list (ns.map .int), .list [], .lst (c1.same s2).seq (dp_ints ns), .lst (SqL.of l2) .nil, shaped_ints ns, by decide +kernel, _, rfl, ?_⟩⟩
      have t2 : But a H H2 := t1.same s2
      have d2 := s2 _ _ d1
      have c2 : ScrL K H2 c (ns.map V.int) := c1.same s2
      rw [eqv_nil]
      by_cases e0 : ns = []
      · refine if_no (decide_eq_false (by simp [e0])) ⟨0, rfl, t2, d2⟩
      · refine if_yes (decide_eq_true e0) ?_
        have lp : 0 < ns.length := List.length_pos_iff.mpr e0
        have lm : ((ns.map V.int).length : Int) = ns.length := by simp
        have i0 : 0 ≤ n % ((ns.map V.int).length : Int) := Int.emod_nonneg _ (by omega)
        have i1 : n % ((ns.map V.int).length : Int) < (ns.map V.int).length := Int.emod_lt_of_pos _ (by omega)
        obtain ⟨z, hz⟩ : ∃ z, (ns.map V.int)[(n % ((ns.map V.int).length : Int)).toNat]? = some (V.int z) := by
          have lt : (n % ((ns.map V.int).length : Int)).toNat < ns.length := by omega
          exact ⟨ns[(n % ((ns.map V.int).length : Int)).toNat], by rw [List.getElem?_map, List.getElem?_eq_getElem lt]; rfl⟩
        exact ⟨_, rfl, a, _, rfl, getC d2, _, rfl, .inl ⟨_, rfl, _, rfl, a, _, rfl, getC d2, c, _, rfl, .inl c2.seq, _, _, rfl, rfl, (by omega), c, _, _, _, rfl, rfl, c2.seq, at_of (Int.toNat_of_nonneg i0).symm hz, z, rfl, t2, d2⟩⟩
    · rintro σ H' ⟨z, rfl, t2, d2⟩
      have c2 : ScrL K H' c (ns.map V.int) := nac (z := []) hc t2
      refine ⟨_, rfl, _, _, rfl, rfl, ⟨by decide, by decide, by decide⟩, _, _, rfl, rfl, _, rfl, ?_⟩
      have p18 : (10 : Int) ^ (18 : Int).toNat = 1000000000000000000 := by decide
      have last : ∀ x : Int, 0 ≤ x % b ∧ x % b < b := fun x => ⟨Int.emod_nonneg _ (by omega), Int.emod_lt_of_pos _ b0⟩
      by_cases g1 : (10 : Int) ^ (18 : Int).toNat ≤ z
      · refine if_yes (decide_eq_true g1) ?_
        refine ⟨_, rfl, _, rfl, a, _, rfl, getC d2, c, _, rfl, .inl c2.seq, _, _, rfl, rfl, _, rfl, ?_⟩
        by_cases g2 : n < ((ns.map V.int).length : Int)
        · refine if_yes (decide_eq_true g2) ?_
          refine ⟨_, rfl, _, rfl, _, _, rfl, rfl, ⟨b0, by omega⟩, _, rfl, a, _, rfl, putL d2, ?_⟩
          refine ⟨_, rfl, .inl ⟨_, rfl, _, rfl, _, _, rfl, rfl, b0, ?_⟩⟩
          exact fin (t2.upd _) upd_same (by omega) (by omega) (Int.ediv_nonneg (by omega) (by omega)) (last z).1 (last z).2
        · refine if_no (decide_eq_false g2) ?_
          -- mixed
          refine ⟨_, rfl, .inl ⟨_, rfl, _, _, rfl, rfl, (by show (0 : Int) < _; decide), _, _, rfl, rfl, .inr ⟨by decide, by decide⟩, _, rfl, _, _, rfl, rfl, ⟨by decide, by decide⟩, .inl ⟨_, rfl, _, _, rfl, rfl, (by show (0 : Int) < _; decide), _, _, rfl, rfl, ?_⟩⟩⟩
          refine ⟨_, rfl, _, rfl, _, _, rfl, rfl, .inl ⟨by decide, by decide⟩, _, rfl, _, _, rfl, rfl, .inr ⟨by omega, by omega⟩, _, _, rfl, rfl, _, rfl, _, _, rfl, rfl, .inl ⟨by decide, by decide⟩, _, _, rfl, rfl, _, _, rfl, rfl, .inl ⟨_, rfl, _, _, rfl, rfl, (by show (0 : Int) < _; decide), ?_⟩⟩
          generalize hmx : (z % 1000003 * 48271 + z / 1000003 % 1000003 + 7919 * n * n + 104729 * n + 73) % 2147483647 = mx
          have m0 : 0 ≤ mx := by rw [← hmx]; exact Int.emod_nonneg _ (by decide)
          have m1 : mx < 2147483647 := by rw [← hmx]; exact Int.emod_lt_of_pos _ (by decide)
          refine ⟨_, rfl, _, rfl, _, _, rfl, rfl, .inl ⟨by omega, by omega⟩, .inl ⟨_, rfl, _, _, rfl, rfl, (by show (0 : Int) < _; decide), ?_⟩⟩
          generalize hmy : mx * mx % 2147483629 = my
          have y0 : 0 ≤ my := by rw [← hmy]; exact Int.emod_nonneg _ (by decide)
          have y1 : my < 2147483629 := by rw [← hmy]; exact Int.emod_lt_of_pos _ (by decide)
          refine ⟨_, _, rfl, rfl, .inl ⟨by omega, by omega⟩, .inl ⟨_, rfl, _, _, rfl, rfl, (by show (0 : Int) < _; decide), ?_⟩⟩
          refine ⟨_, rfl, _, _, rfl, rfl, ⟨by decide, by decide⟩, .inl ⟨_, rfl, _, rfl, _, _, rfl, rfl, b0, ?_⟩⟩
          exact fin t2 d2 (by omega) (by omega) (Int.le_refl 0) (last _).1 (last _).2
      · refine if_no (decide_eq_false g1) ?_
        -- mixed
        refine ⟨_, rfl, .inl ⟨_, rfl, _, _, rfl, rfl, (by show (0 : Int) < _; decide), _, _, rfl, rfl, .inr ⟨by decide, by decide⟩, _, rfl, _, _, rfl, rfl, ⟨by decide, by decide⟩, .inl ⟨_, rfl, _, _, rfl, rfl, (by show (0 : Int) < _; decide), _, _, rfl, rfl, ?_⟩⟩⟩
        refine ⟨_, rfl, _, rfl, _, _, rfl, rfl, .inl ⟨by decide, by decide⟩, _, rfl, _, _, rfl, rfl, .inr ⟨by omega, by omega⟩, _, _, rfl, rfl, _, rfl, _, _, rfl, rfl, .inl ⟨by decide, by decide⟩, _, _, rfl, rfl, _, _, rfl, rfl, .inl ⟨_, rfl, _, _, rfl, rfl, (by show (0 : Int) < _; decide), ?_⟩⟩
        generalize hmx : (z % 1000003 * 48271 + z / 1000003 % 1000003 + 7919 * n * n + 104729 * n + 73) % 2147483647 = mx
        have m0 : 0 ≤ mx := by rw [← hmx]; exact Int.emod_nonneg _ (by decide)
        have m1 : mx < 2147483647 := by rw [← hmx]; exact Int.emod_lt_of_pos _ (by decide)
        refine ⟨_, rfl, _, rfl, _, _, rfl, rfl, .inl ⟨by omega, by omega⟩, .inl ⟨_, rfl, _, _, rfl, rfl, (by show (0 : Int) < _; decide), ?_⟩⟩
        generalize hmy : mx * mx % 2147483629 = my
        have y0 : 0 ≤ my := by rw [← hmy]; exact Int.emod_nonneg _ (by decide)
        have y1 : my < 2147483629 := by rw [← hmy]; exact Int.emod_lt_of_pos _ (by decide)
        refine ⟨_, _, rfl, rfl, .inl ⟨by omega, by omega⟩, .inl ⟨_, rfl, _, _, rfl, rfl, (by show (0 : Int) < _; decide), ?_⟩⟩
        refine ⟨_, rfl, _, _, rfl, rfl, ⟨by decide, by decide⟩, .inl ⟨_, rfl, _, rfl, _, _, rfl, rfl, b0, ?_⟩⟩
        exact fin t2 d2 (by omega) (by omega) (Int.le_refl 0) (last _).1 (last _).2
end
end K08
namespace K08
open PySem PySem.Spec PyProof.Rows L2
section
variable {P : Program} {w : World} {K : PySem.W.Frag} {mg : Str → Option Value} {base : Heap}
/-- the defaults of WorkerPlan; dS: the address of the empty tuple among them -/
def wDef (dS : Addr) : List (Str × V) := [("restart", .str "permanent"), ("opening", .int 0), ("closing", .int 0), ("deadline", .non), ("refused", .int 0), ("script", .ref dS)]
abbrev wPs : List Str := ["self", "name", "restart", "opening", "closing", "deadline", "refused", "script"]
/-- WorkerPlan(name, script=..) -/
theorem wk_bindS {dS : Addr} {fd : FuncData} (F : FunD K "__init__" "WorkerPlan.__init__" (defArgs s_WorkerPlan___init__) (defBody s_WorkerPlan___init__) (defScope s_WorkerPlan___init__) [] (wDef dS) (He.ma K (wkA K) "__init__") fd) :
    ∃ mv : List Value, KBn K fd wPs 2 ["script"] (fun us ws => us ++ mv ++ ws) (fun vs zs => vs ++ [.str "permanent", .int 0, .int 0, .non, .int 0] ++ zs) := by
  refine F.kbinds0 2 ["script"] [("restart", .str "permanent"), ("opening", .int 0), ("closing", .int 0), ("deadline", .non), ("refused", .int 0)] (fun a b c => a ++ b ++ c) (by simp [wDef]) (by simp [wDef]) (fun r1 r2 r3 => (r1.append r2).append r3) ?_
  intro D doc pm an cdv ct us mv ws l1 l2 l3
  match us, mv, ws, l1, l2, l3 with
  | [_, _], [_, _, _, _, _], [_], _, _, _ => exact ⟨_, _, _, _, _, _, rfl, rfl, _, _, _, _, _, _, rfl, rfl, _, _, _, _, _, _, rfl, rfl, _, _, _, _, _, _, rfl, rfl, _, _, _, _, _, _, rfl, rfl, rfl⟩
end
end K08
/-! max(ns, default=d) of a list of whole numbers that may be empty -/
namespace MxD
open PySem PySem.Spec PyProof.Rows
def KW (d : Value) : List (Str × Value) := [("default", d)]
/-- what the loop keeps: nothing yet, or the greatest so far, twice -/
def Old (num : Nat → Int) (P : Nat → Value → Prop) (j : Nat) (old : List Value) : Prop := (j = 0 ∧ old = []) ∨ ∃ b v, b < j ∧ P b v ∧ old = [v, v] ∧ ∀ i, i < j → num i ≤ num b
section
variable {prog : Program} {w : World} {A : Around} {R : Result → Shared → Prop} {I S : Addr} {fp wr : List Addr} {n : Nat} {P : Nat → Value → Prop} {St : Nat → Heap → Prop} {num : Nat → Int} {d : Value}
theorem loop (W : Walks prog w A.in1 I fp wr n P St) (isI : ∀ i v, P i v → ∃ t, v = .int (num i) t) (off : S ∉ fp) : ∀ (k j : Nat) (s : Shared) (old : List Value) (c : Nat), n - j = k → j ≤ n → St j s.heap → Old num P j old →
    s.heap.get? S = some { cls := .type "list", data := .seq old.toArray c } →
    (∀ v h' tk, (n = 0 ∧ v = d) ∨ (∃ b, b < n ∧ P b v ∧ ∀ i, i < n → num i ≤ num b) → (∀ b o, b ∉ wr → b ≠ S → s.heap.get? b = some o → h'.get? b = some o) → R (.ok (.ret v)) { s with heap := h', toks := tk }) →
    codeAny (model prog w) A (.builtin "max.loop" ⟨[.ref I, .none, .ref S], KW d⟩) R s := by
  have offW : S ∉ wr := fun z => off (W.sub _ z)
  have nm : (toString "max" ++ toString ".loop" : String) = "max.loop" := by decide
  intro k
  induction k with
  | zero =>
    intro j s old c hk hj hst ho hS fin
    obtain rfl : j = n := by omega
    refine codeAny_builtin F.entry_max_loop ?_; rw [Around.under_plainId F.plain_max_loop _]; show wpAny _ A.in1 (seqItems? (.ref S) >>= _) _ _ s; refine wpAny_bind (wpAny_seqItems hS rfl ?_)
    show wpAny _ A.in1 (tryCatch (pyNext (.ref I)) _ >>= _) _ _ s; refine wpAny_bind (wpAny_tryCatch (W.done s _ _ hst fun h1 tk1 k1 => ?_))
    have hS1 := k1 S _ offW hS
    rcases ho with ⟨rfl, rfl⟩ | ⟨b, v, lt, pv, rfl, gr⟩
    · refine wpAny_bind (wpAny_rule ?_)
      exact wpAny_pure (fin d h1 tk1 (.inl ⟨rfl, rfl⟩) fun b o hb _ e => k1 b o hb e)
    · show wpAny _ A.in1 (updateSeq S (fun _ => #[]) >>= _) _ _ _
      refine wpAny_bind (wpAny_updateSeq hS1 rfl (wpAny_bind (wpAny_letGo (wpAny_pure ?_))))
      exact fin v _ tk1 (.inr ⟨b, lt, pv, gr⟩) fun b o hb hn e => (Heap.get?_update_other _ _ (Ne.symm hn)).trans (k1 b o hb e)
  | succ k ih =>
    intro j s old c hk hj hst ho hS fin
    have lt : j < n := by omega
    refine codeAny_builtin F.entry_max_loop ?_; rw [Around.under_plainId F.plain_max_loop _]; show wpAny _ A.in1 (seqItems? (.ref S) >>= _) _ _ s; refine wpAny_bind (wpAny_seqItems hS rfl ?_)
    show wpAny _ A.in1 (tryCatch (pyNext (.ref I)) _ >>= _) _ _ s; refine wpAny_bind (wpAny_tryCatch (W.item j s _ _ lt hst fun u h1 tk1 pu st1 k1 => ?_))
    have hS1 := k1 S _ offW hS
    have next : ∀ (h2 : Heap) (tk2 : Tok) (old2 : List Value) (c2 : Nat), Old num P (j + 1) old2 → h2.get? S = some { cls := .type "list", data := .seq old2.toArray c2 } → (∀ b o, b ≠ S → h1.get? b = some o → h2.get? b = some o) →
        codeAny (model prog w) A (.builtin "max.loop" ⟨[.ref I, .none, .ref S], KW d⟩) R { s with heap := h2, toks := tk2 } := fun h2 tk2 old2 c2 o2 e2 k2 =>
      ih (j + 1) _ old2 c2 (by omega) lt (W.frame _ _ _ st1 fun b hb o e => k2 b o (fun z => off (by rw [← z]; exact hb)) e) o2 e2 fun v h3 tk3 fv k3 => fin v h3 tk3 fv fun b o hb hn e => k3 b o hb hn (k2 b o hn (k1 b o hb e))
    rcases ho with ⟨rfl, rfl⟩ | ⟨b, v, lb, pv, rfl, gr⟩
    · show wpAny _ A.in1 (updateSeq S (fun _ => #[u, u]) >>= _) _ _ _
      refine wpAny_bind (wpAny_updateSeq hS1 rfl ?_)
      rw [nm]; refine wpAny_pure ⟨plainId_quiet F.plain_max_loop _, next _ _ [u, u] _ (.inr ⟨0, u, Nat.zero_lt_one, pu, rfl, fun i hi => ?_⟩) (Heap.get?_update_self _ hS1 rfl) fun b o hn e => (Heap.get?_update_other _ _ (Ne.symm hn)).trans e⟩
      obtain rfl : i = 0 := by omega
      exact Int.le_refl _
    · show wpAny _ A.in1 (tryCatch (holding [u, u] (richCompare .Gt u v >>= _)) _ >>= _) _ _ _
      refine wpAny_bind (wpAny_tryCatch (wpAny_holding (wpAny_bind (CmpOf.ints_gt num isI j b u v _ _ _ pu pv (wpAny_bind (wpAny_holding (wpAny_truthy_bool (wpAny_bind (wpAny_letGo (wpAny_pure ?_))))))))))
      by_cases g : num j > num b
      · simp only [decide_eq_true g, if_true]
        refine wpAny_bind (wpAny_updateSeq hS1 rfl (wpAny_bind (wpAny_letGo ?_)))
        rw [nm]; refine wpAny_pure ⟨plainId_quiet F.plain_max_loop _, next _ _ [u, u] _ (.inr ⟨j, u, Nat.lt_succ_self j, pu, rfl, fun i hi => ?_⟩) (Heap.get?_update_self _ hS1 rfl) fun b o hn e => (Heap.get?_update_other _ _ (Ne.symm hn)).trans e⟩
        rcases Nat.lt_or_eq_of_le (Nat.le_of_lt_succ hi) with z | rfl
        · have := gr i z; omega
        · exact Int.le_refl _
      · simp only [decide_eq_false g, Bool.false_eq_true, if_false]
        refine wpAny_bind (wpAny_letGo ?_)
        rw [nm]; refine wpAny_pure ⟨plainId_quiet F.plain_max_loop _, next h1 tk1 [v, v] c (.inr ⟨b, v, by omega, pv, rfl, fun i hi => ?_⟩) hS1 fun b o hn e => e⟩
        rcases Nat.lt_or_eq_of_le (Nat.le_of_lt_succ hi) with z | rfl
        · exact gr i z
        · omega
theorem args_ok (a d : Value) : argsOk "max" ⟨[a], KW d⟩ := by unfold argsOk; kernel_rfl
theorem entry {id : String} {b : Builtin} {args : List Value} {kw : List (Str × Value)} {E : Value → Shared → Prop} {s : Shared} {Q : Value → Shared → Prop} (hk : builtinKind id = none) (hp : plainId id = true) (hb : entryFor table id = some b) (ha : argsOk id ⟨args, kw⟩)
    (hc : wpAny (model prog w) A.in1 (b ⟨args, kw⟩) (fun fin s' => match fin with | .done f => (match (Except.ok f : Result) with | .ok (.ret v) => Q v s' | .ok _ => False | .error e => E e s') | .again c' => c'.quiet = true ∧ codeAny (model prog w) A c' (fun r s' => match r with | .ok (.ret v) => Q v s' | .ok _ => False | .error e => E e s') s') E s) :
    wpAny (model prog w) A (call (.builtin id) args kw) Q E s := by
  refine wpAny_call (codeAny_call_builtin hp hb ?_)
  simp only [checkBuiltinCall, hk]
  cases q : Manifest.signature? id with
  | none => exact wpAny_pure hc
  | some sig =>
    have z : Bind.checkArgs id sig ⟨args, kw⟩ = pure () := by simpa only [argsOk, q] using ha
    simp only [z]; exact wpAny_pure hc
variable {E : Value → Shared → Prop} {s : Shared} {l : Addr} {xs : Array (Int × Tok)} {Q : Value → Shared → Prop}
theorem call_ints (hh : A.handled = none) (hl : s.heap.IsList l (intItems xs))
    (h : ∀ v h' tk, (xs.size = 0 ∧ v = d) ∨ (∃ b, b < xs.size ∧ (intItems xs)[b]? = some v ∧ ∀ i, i < xs.size → numAt xs i ≤ numAt xs b) → (∀ b o, s.heap.get? b = some o → h'.get? b = some o) → Q v { s with heap := h', toks := tk }) :
    wpAny (model prog w) A (call (.builtin "max") [.ref l] (KW d)) Q E s := by
  have nm : (toString "max" ++ toString ".loop" : String) = "max.loop" := by decide
  have sz : (intItems xs).size = xs.size := by simp [intItems]
  refine entry F.kind_max F.plain_max F.entry_max (args_ok _ _) ?_
  show wpAny _ A.in1 (Builtin.Builtins.bindParams "max" ["key", "default"] 0 ⟨[], KW d⟩ >>= _) _ _ s
  refine wpAny_bind (wpAny_of_eq (show Builtin.Builtins.bindParams "max" ["key", "default"] 0 ⟨[], KW d⟩ = pure [none, some d] from by kernel_rfl) (wpAny_bind (wpAny_pure (wpAny_bind (iter_intList hl fun s₂ e st fits li => ?_)))))
  subst e
  refine wpAny_bind (wpAny_newObj_type ?_)
  have fresh : (s.heap.push { cls := .type "list_iterator", data := .fields #[.ref l, .int 0 0] }).objs.size ∉ [s.heap.objs.size, l] := fun z => Nat.lt_irrefl _ (fits _ z)
  have W := Walks.list (prog := prog) (w := w) (A := A.in1) hh s.heap.objs.size l li (intItems xs)
  rw [nm]; refine wpAny_pure ⟨plainId_quiet F.plain_max_loop _, loop (d := d) W (fun i v => intItems_at) fresh _ 0 _ [] 0 rfl (Nat.zero_le _) (W.frame _ _ _ st fun b _ o e => Heap.get?_push_of_some _ e) (.inl ⟨rfl, rfl⟩) (Heap.get?_push_size _ rfl) fun v h' tk fv k1 => ?_⟩
  rw [sz] at fv
  refine h v h' tk fv (old_kept fun b o hb e => k1 b o (fun z => hb z) (fun z => ?_) (Heap.get?_push_of_some _ e))
  exact absurd (z ▸ Heap.lt_size e) (Nat.lt_irrefl _)
end
end MxD
namespace L2
open PySem PySem.Spec PyProof.Rows
section
variable {X : Cx}
/-- the greatest of ns, or what default says -/
def rMaxDef (K : PySem.W.Frag) : List V → List V → Hp → VK → Prop := fun vs zs H Q => ∃ (a : Addr) (ns : List Int) (d : V), vs = [.ref a] ∧ zs = [d] ∧ SqL K H a (ns.map V.int) ∧ (ns = [] → Q d H) ∧ ∀ m, m ∈ ns → (∀ y, y ∈ ns → y ≤ m) → Q (.int m) H
theorem cr_maxDef (hc : X.calm = true) : CallRK X (.builtin "max") ["default"] (rMaxDef X.K) := by
  intro pins s σ H vs zs us ws Q I r rz h
  obtain ⟨a, ns, d, rfl, rfl, hs, q0, q1⟩ := h
  obtain ⟨its, rv, hl, _⟩ := I.list hs
  rw [Vals.ref1 r]
  obtain ⟨dv, rfl, rd⟩ := vals1 rz
  have hi := rv.ints
  obtain ⟨xs, e⟩ := hi.allInts.items
  have hn : numsOf (intItems xs).toList = ns := by rw [← e]; exact hi.numsOf
  rw [nums_intItems] at hn
  subst hn
  have hl2 := hl.isList
  rw [e] at hl2
  have ln : (xs.toList.map (·.1)).length = xs.size := by rw [List.length_map, Array.length_toList]
  refine MxD.call_ints (d := dv) (I.ok.hd hc) hl2 fun v h' tk fv hk => ?_
  rcases fv with ⟨z, rfl⟩ | ⟨b, lb, eb, gr⟩
  · exact ⟨d, H, I.kept hk, rd, q0 (List.length_eq_zero_iff.mp (ln.trans z))⟩
  · obtain ⟨t, rfl⟩ := intItems_at eb
    refine ⟨.int _, H, I.kept hk, ⟨_, rfl⟩, q1 _ ?_ fun y hy => ?_⟩
    · rw [numAt_eq]; exact PySem.getD_mem (by rw [ln]; exact lb)
    · obtain ⟨j, hj, rfl⟩ := mem_getD hy
      rw [ln] at hj
      rw [← numAt_eq]; exact gr j hj
end
end L2
/-! len(x), x an instance whose class has a def for it -/
namespace L2
open PySem PySem.Spec PyProof.Rows
section
variable {X : Cx} {CX : CXT} {n : Nat} {E : XK}
/-- len(x): the class's own def at g answers a number from 0 on -/
def rLenOwn (P : Program) (w : World) (K : PySem.W.Frag) (mg : Str → Option Value) (base : Heap) (CX : CXT) (n : Nat) (E : XK) : List V → Hp → VK → Prop := fun xs H Q => ∃ (a C dx g : Addr) (fs : List (Str × V)) (sp : Sp), xs = [.ref a] ∧ H a = some (.ins C dx fs) ∧
  PySem.W.findIn K (.ref C) "__len__" = some (some (.ref g)) ∧ PySem.W.typeIn K (.ref g) = some (.type "function") ∧ FnR P w K mg base CX n g sp ∧ sp [.ref a] H (fun z H' => ∃ i : Nat, z = .int i ∧ i ≤ 1000000 ∧ Q (.int i) H') E
theorem call_lenOwn (hr : Room (n + 1) X.A) (hx : Passes CX X E) : CallR X (.builtin "len") (rLenOwn X.prog X.w X.K X.mg X.base CX n E) := by
  intro pins s σ H xs us Q I r h
  obtain ⟨a, C, dx, g, fs, sp, rfl, e, hs, hf, F, q⟩ := h
  obtain ⟨u, rfl, ru⟩ := vals1 r
  obtain rfl : u = Value.ref a := ru
  obtain ⟨mA, I0, _⟩ := ins_get I.hok e
  obtain ⟨od, J, _⟩ := I0.look
  refine Calls.call_function_entry kind_len plain_len entry_len (args_len1 _) ?_
  unfold Builtin.«len»
  refine wpAny_bind (m := oneArg "len" _) (wpAny_pure ?_)
  refine wpAny_bind (m := callSpecial? (.ref a) (PySem.Str.ofString "__len__")) (PySem.W.special_fn I.kIn J hs hf (wpAny_mono (wpAny_call (SlX.run_at (us := [.ref a]) (ws := [.ref a]) F (Room.in1 hr) I.env0.in1 hx I (.cons rfl .nil) q)) (fun w' s' z => ?_) fun _ _ x => x))
  obtain ⟨z', H', I', rz, i, ei, le, qz⟩ := z
  subst ei
  obtain ⟨t, et⟩ := (show ∃ t, w' = Value.int i t from rz)
  cases et
  refine wpAny_bind (wpAny_holding (wpAny_pure ?_))
  refine wpAny_bind (wpAny_letGo ?_)
  show wpAny _ _ (if ((i : Nat) : Int) < 0 then _ else _) _ _ _
  rw [if_neg (by omega)]
  show wpAny _ _ (if ((i : Nat) : Int) ≥ 2 ^ 63 then _ else _) _ _ _
  rw [if_neg (by omega)]
  exact wpAny_bind (wpAny_mkInt (wpAny_pure ⟨_, rfl, .int i, H', I'.tok _, ⟨_, rfl⟩, qz⟩))
end
end L2
/-! trees of plans: how many, how deep -/
namespace L2
open PySem PySem.Spec PyProof.Rows
inductive Pn where
  | wrk | sup (cs : List Pn)
mutual
def Pn.size : Pn → Nat
  | .wrk => 1 | .sup cs => 1 + Pn.sizes cs
def Pn.sizes : List Pn → Nat
  | [] => 0 | c :: cs => c.size + Pn.sizes cs
end
mutual
def Pn.lv : Pn → Nat
  | .wrk => 1 | .sup cs => 1 + Pn.lvs cs
def Pn.lvs : List Pn → Nat
  | [] => 0 | c :: cs => max c.lv (Pn.lvs cs)
end
theorem Pn.lv_pos : ∀ t : Pn, 0 < t.lv
  | .wrk => by unfold Pn.lv; omega
  | .sup cs => by unfold Pn.lv; omega
theorem Pn.lvs_get : ∀ {cs : List Pn} {i : Nat} {c : Pn}, cs[i]? = some c → c.lv ≤ Pn.lvs cs
  | c0 :: cs, 0, c, e => by
    simp at e
    subst e
    unfold Pn.lvs
    omega
  | c0 :: cs, i + 1, c, e => by
    have z := Pn.lvs_get (cs := cs) (i := i) (c := c) (by simpa using e)
    unfold Pn.lvs
    omega
theorem Pn.sizes_take : ∀ {cs : List Pn} {i : Nat} {c : Pn}, cs[i]? = some c → Pn.sizes (cs.take (i + 1)) = Pn.sizes (cs.take i) + c.size
  | c0 :: cs, 0, c, e => by
    simp at e
    subst e
    simp [Pn.sizes]
  | c0 :: cs, i + 1, c, e => by
    have z := Pn.sizes_take (cs := cs) (i := i) (c := c) (by simpa using e)
    simp only [List.take_succ_cons, Pn.sizes]
    omega
theorem Pn.sizes_le (cs : List Pn) : ∀ i, Pn.sizes (cs.take i) ≤ Pn.sizes cs := by
  induction cs with
  | nil => intro i; simp [Pn.sizes]
  | cons c cs ih =>
    intro i
    cases i with
    | zero => simp [Pn.sizes]
    | succ i =>
      have := ih i
      simp only [List.take_succ_cons, Pn.sizes]
      omega
/-- the greatest of the levels, as max finds it -/
theorem Pn.lvs_max {cs : List Pn} {m : Int} (ne : cs ≠ []) (hm : m ∈ cs.map fun c => (c.lv : Int)) (gr : ∀ y, y ∈ cs.map (fun c => (c.lv : Int)) → y ≤ m) : m = (Pn.lvs cs : Int) := by
  have up : ∀ {cs : List Pn} {k : Nat}, (∀ c ∈ cs, c.lv ≤ k) → Pn.lvs cs ≤ k := by
    intro cs
    induction cs with
    | nil => intro k _; simp [Pn.lvs]
    | cons c cs ih =>
      intro k h
      have a := h c (List.mem_cons_self ..)
      have b := ih (k := k) fun x hx => h x (List.mem_cons_of_mem _ hx)
      unfold Pn.lvs
      omega
  obtain ⟨c, hc, rfl⟩ := List.mem_map.mp hm
  obtain ⟨i, hi, e⟩ := List.mem_iff_getElem.mp hc
  have z1 : c.lv ≤ Pn.lvs cs := Pn.lvs_get (i := i) (by rw [List.getElem?_eq_getElem hi, e])
  have z2 : Pn.lvs cs ≤ c.lv := up fun x hx => by
    have := gr _ (List.mem_map_of_mem (f := fun c : Pn => (c.lv : Int)) hx)
    omega
  have : c.lv = Pn.lvs cs := by omega
  rw [this]
mutual
/-- the value is a plan of this form -/
inductive Pt (K : PySem.W.Frag) (H : Hp) : V → Pn → Prop
  | wrk {a dx : Addr} {fs : List (Str × V)} : H a = some (.ins (wkA K) dx fs) → Pt K H (.ref a) .wrk
  | sup {a dx c : Addr} {fs : List (Str × V)} {xs : List V} {ts : List Pn} : H a = some (.ins (suA K) dx fs) → fs.lookup ("children" : Str) = some (.ref c) → SqT K H c xs → PtAll K H xs ts → Pt K H (.ref a) (.sup ts)
inductive PtAll (K : PySem.W.Frag) (H : Hp) : List V → List Pn → Prop
  | nil : PtAll K H [] []
  | cons {v : V} {vs : List V} {t : Pn} {ts : List Pn} : Pt K H v t → PtAll K H vs ts → PtAll K H (v :: vs) (t :: ts)
end
mutual
theorem Pt.same {K : PySem.W.Frag} {H H' : Hp} (s : Same H H') : ∀ {v : V} {t : Pn}, Pt K H v t → Pt K H' v t
  | _, _, .wrk h => .wrk (s _ _ h)
  | _, _, .sup h l q a => .sup (s _ _ h) l (s.sqT q) (PtAll.same s a)
theorem PtAll.same {K : PySem.W.Frag} {H H' : Hp} (s : Same H H') : ∀ {vs : List V} {ts : List Pn}, PtAll K H vs ts → PtAll K H' vs ts
  | _, _, .nil => .nil
  | _, _, .cons h t => .cons (Pt.same s h) (PtAll.same s t)
end
section
variable {K : PySem.W.Frag} {H : Hp} {v : V} {t : Pn}
theorem PtAll.len {vs : List V} {ts : List Pn} (h : PtAll K H vs ts) : vs.length = ts.length := by
  induction ts generalizing vs with
  | nil => cases h; rfl
  | cons t ts ih => cases h with
    | cons _ r => rw [List.length_cons, List.length_cons, ih r]
theorem PtAll.get {vs : List V} {ts : List Pn} (h : PtAll K H vs ts) : ∀ {i : Nat} {v : V}, vs[i]? = some v → ∃ t, ts[i]? = some t ∧ Pt K H v t := by
  induction ts generalizing vs with
  | nil => cases h; intro i v e; simp at e
  | cons t ts ih => cases h with
    | cons a r =>
      intro i v e
      cases i with
      | zero => simp at e; exact ⟨t, rfl, e ▸ a⟩
      | succ i => simpa using ih r (by simpa using e)
def kt : Pn → Nat
  | .wrk => 7 | .sup _ => 8
theorem kt_lt (t : Pn) : kt t < 9 := by cases t <;> simp [kt]
theorem Pt.ty (P : PKn K) (h : Pt K H v t) : TyX K H v (tyK K (kt t)) := by
  cases h with
  | wrk h => exact .base (.ins h P.wk.cl P.wk.ha P.wk.hn P.wk.htk P.wk.hm)
  | sup h _ _ _ => exact .base (.ins h P.su.cl P.su.ha P.su.hn P.su.htk P.su.hm)
theorem Pt.at (h : Pt K H v t) : ∃ a dx fs C, v = .ref a ∧ H a = some (.ins C dx fs) ∧ (C = wkA K ∨ C = suA K) := by
  cases h with
  | wrk h => exact ⟨_, _, _, _, rfl, h, .inl rfl⟩
  | sup h _ _ _ => exact ⟨_, _, _, _, rfl, h, .inr rfl⟩
end
theorem same_putN {H0 G : Hp} {l : Addr} {o : HO} (s : Same H0 G) (n : H0 l = none) : Same H0 (upd G l o) := fun b u e => by
  rw [upd_ne (ne_of_none e n)]
  exact s b u e
end L2
/-! plans_in, levels_of: for any tree of plans -/
namespace K08
open PySem PySem.Spec PyProof.Rows L2
section
variable {P : Program} {w : World} {K : PySem.W.Frag} {mg : Str → Option Value} {base : Heap}
abbrev s_plans_in : Stmt := (top 59)
def N_plans_in : List Str := ["plan", "found", "child"]
theorem sc_plans_in : FnScope N_plans_in ["plan"] (defScope s_plans_in) := ⟨rfl, rfl, rfl, by decide +kernel, rfl, by decide +kernel, by decide +kernel⟩
abbrev s_levels_of : Stmt := (top 65)
def N_levels_of : List Str := ["plan", "child"]
theorem sc_levels_of : FnScope N_levels_of ["plan"] (defScope s_levels_of) := ⟨rfl, rfl, rfl, by decide +kernel, rfl, by decide +kernel, by decide +kernel⟩
/-- a plan of at most n levels: its list -/
def spPlans (K : PySem.W.Frag) (n : Nat) : Sp := fun vs H Q _ => ∃ v t, vs = [v] ∧ Pt K H v t ∧ t.lv ≤ n ∧ t.size ≤ 100000 ∧ ∀ l xs H', Same H H' → H l = none → H' l = some (.lst xs) → xs.length = t.size → Q (.ref l) H'
theorem ok_plans_in (F : Has K mg "plans_in" s_plans_in) (T : Txt K mg) (na : NoAttr K (suA K) "children") (cl : Cls K (suA K)) : ∀ n, FnQ P w K mg base CX0 (n + 1) "plans_in" ["plan"] (spPlans K n) := by
  intro n
  induction n with
  | zero =>
    refine F.q sc_plans_in (fun _ _ _ _ _ _ us hl => match us, hl with | [_], _ => rfl) (fun vs H Q E h => by obtain ⟨_, _, rfl, _⟩ := h; rfl) (fun cdv A outer s H vs Q E hr h => ?_)
    obtain ⟨v, t, _, _, lv, _⟩ := h
    have := t.lv_pos
    omega
  | succ n F_plans_in =>
    refine F.q sc_plans_in (fun _ _ _ _ _ _ us hl => match us, hl with | [_], _ => rfl) (fun vs H Q E h => by obtain ⟨_, _, rfl, _⟩ := h; rfl) (fun cdv A outer s H vs Q E hr h => ?_)
    obtain ⟨v, t, rfl, hv, lv, sz, k⟩ := h
    have gI : mg "isinstance" = none := T.fr _ (by simp [frees])
    refine ⟨_, PSs.nox (pss_cons (ps_set (i := 1) sc_plans_in.nd rfl (by first | exact .inl rfl | exact .inr rfl) (pe_lstM (pa_cons (pv 0) pa_nil)))
  (pss_cons (ps_if (pt_val (pe_callB call_isi (by rfl) gI boot_isinstance (pa_cons (pv 0) (pa_cons (C8.pe_gc (by rfl) T.c_SupervisorPlan) pa_nil))))
  (pss_one (ps_for PassesOwn.never rfl (pi_tup (pe_fld (pv 0) rfl)) (pg_name (i := 2) sc_plans_in.nd rfl (by first | exact .inl rfl | exact .inr rfl))
  (pss_one (ps_expr (pe_bm PySem.F.plainAttrs_list PySem.F.slot_list_extend PySem.F.type_list_extend mt_extend (pv 1) (pa_cons (pe_f F_plans_in hr pass0 (pa_cons (pv 2) pa_nil) (hj := Nat.le_refl _)) pa_nil))))))
  pss_nil)
  (pss_one (ps_ret (pv 1))))), ?_⟩
    refine ⟨_, rfl, (by show 1 ≤ sizeLine; decide), fun l G1 s1 n1 e1 => ?_⟩
    refine ⟨_, rfl, _, _, _, _, _, rfl, .own _, (hv.same s1).ty T.pk, T.pk.kit _ 6 (kt_lt _) (by decide), _, rfl, ?_⟩
    cases hv with
    | wrk h =>
      exact if_no rfl ⟨_, rfl, k l _ G1 s1 n1 e1 (by simp [Pn.size])⟩
    | @sup a dx c fs xs ts h lk q ha =>
      refine if_yes rfl ?_
      refine ⟨_, rfl, a, suA K, dx, fs, .ref c, rfl, s1 _ _ h, cl, na, lk, c, rfl, ⟨_, s1.sqT q⟩, for_it walk_tup (fun i σ G => (∃ v2, σ = [some (.ref a), some (.ref l), v2]) ∧ Same H G ∧ ∃ acc, G l = some (.lst acc) ∧ acc.length = 1 + Pn.sizes (ts.take i)) ⟨⟨none, rfl⟩, s1, _, e1, by simp [Pn.sizes]⟩ (fun i σ G _ h => h.2.1.sqT q) ?_ ?_⟩
      · rintro i x σ G1 G2 hi ⟨⟨v2, rfl⟩, s2, acc, e2, l2⟩ ⟨rfl, ex⟩
        obtain ⟨tc, et, ht⟩ := ha.get ex
        have lc : tc.lv ≤ n := by
          have := Pn.lvs_get et
          unfold Pn.lv at lv
          omega
        have sk := Pn.sizes_take et
        have sl := Pn.sizes_le ts (i + 1)
        unfold Pn.size at sz
        refine ⟨_, rfl, .inl ⟨rfl, _, SqL.of e2⟩, _, rfl, x, tc, rfl, ht.same s2, lc, by omega, fun l2' ys G3 s3 n3 e3 ly => ?_⟩
        refine ⟨l, l2', acc, ys, rfl, rfl, s3 _ _ e2, e3, Nat.le_trans (show acc.length + ys.length ≤ 100000 by omega) (by decide), ?_⟩
        exact ⟨⟨_, rfl⟩, same_putN (s2.trans s3) n1, _, upd_same, by rw [List.length_append]; omega⟩
      · rintro σ G ⟨⟨v2, rfl⟩, s2, acc, e2, l2⟩
        refine ⟨_, rfl, k l acc G s2 n1 e2 ?_⟩
        rw [ha.len, List.take_length] at l2
        exact l2
/-- a plan of at most n levels: how many -/
def spLevels (K : PySem.W.Frag) (n : Nat) : Sp := fun vs H Q _ => ∃ v t, vs = [v] ∧ Pt K H v t ∧ t.lv ≤ n ∧ t.size ≤ 100000 ∧ ∀ H', Same H H' → Q (.int t.lv) H'
theorem ok_levels_of (F : Has K mg "levels_of" s_levels_of) (T : Txt K mg) (na : NoAttr K (suA K) "children") (cl : Cls K (suA K)) : ∀ n, FnQ P w K mg base CX0 (n + 1) "levels_of" ["plan"] (spLevels K n) := by
  intro n
  induction n with
  | zero =>
    refine F.q sc_levels_of (fun _ _ _ _ _ _ us hl => match us, hl with | [_], _ => rfl) (fun vs H Q E h => by obtain ⟨_, _, rfl, _⟩ := h; rfl) (fun cdv A outer s H vs Q E hr h => ?_)
    obtain ⟨v, t, _, _, lv, _⟩ := h
    have := t.lv_pos
    omega
  | succ n F_levels_of =>
    refine F.q sc_levels_of (fun _ _ _ _ _ _ us hl => match us, hl with | [_], _ => rfl) (fun vs H Q E h => by obtain ⟨_, _, rfl, _⟩ := h; rfl) (fun cdv A outer s H vs Q E hr h => ?_)
    obtain ⟨v, t, rfl, hv, lv, sz, k⟩ := h
    have gI : mg "isinstance" = none := T.fr _ (by simp [frees])
    refine ⟨_, PSs.nox (pss_cons (ps_if (pt_val (pe_callB call_isi (by rfl) gI boot_isinstance (pa_cons (pv 0) (pa_cons (C8.pe_gc (by rfl) T.c_WorkerPlan) pa_nil))))
  (pss_one (ps_ret pe_int))
  pss_nil)
  (pss_one (ps_ret (pe_op op_add pe_int (pe_callBK (cr_maxDef rfl) (by rfl) (T.fr "max" (by simp [frees])) PyProof.Rows.boot_max (pa_cons (pe_lc (own := [("child", 1)]) (tt := tYes) rfl sc_levels_of.nd (pi_tup (pe_fld (pv 0) rfl)) (blkOk_by (N := N_levels_of) (sc := defScope s_levels_of) (by decide +kernel)) (fun _ _ _ _ _ => (pg_name (i := 1) sc_levels_of.nd rfl (by first | exact .inl rfl | exact .inr rfl))) (fun _ _ _ _ _ => pts_nil) (fun _ _ _ _ _ => (pe_f F_levels_of hr pass0 (pa_cons (pv 1) pa_nil) (hj := Nat.le_refl _)))) pa_nil) (pk_cons pe_int pk_nil)))))), ?_⟩
    refine ⟨_, rfl, _, _, _, _, _, rfl, .own _, hv.ty T.pk, T.pk.kit _ 5 (kt_lt _) (by decide), _, rfl, ?_⟩
    cases hv with
    | wrk h => exact if_yes rfl (k H (Same.refl H))
    | @sup a dx c fs xs ts h lk q ha =>
      refine if_no rfl ?_
      have lx : xs.length ≤ 100000 := by
        have pos : ∀ cs : List Pn, cs.length ≤ Pn.sizes cs := by
          intro cs
          induction cs with
          | nil => simp [Pn.sizes]
          | cons c cs ih =>
            have : 0 < c.size := by cases c <;> (unfold Pn.size; omega)
            simp only [List.length_cons, Pn.sizes]
            omega
        have := pos ts
        have := ha.len
        unfold Pn.size at sz
        omega
      refine ⟨_, rfl, a, suA K, dx, fs, .ref c, rfl, h, cl, na, lk, c, rfl, ⟨_, q⟩, comp_val walk_tup (f := fun i => .int ((ts[i]?.map Pn.lv).getD 0)) (Nat.lt_of_le_of_lt lx (by decide)) (fun G s => s.sqT q) (fun i H x H' y b o e => by rw [y.1]; exact e) ?_ ?_⟩
      · rintro i x G1 G2 R hi s1 ⟨rfl, ex⟩ r
        obtain ⟨tc, et, ht⟩ := ha.get ex
        have lc : tc.lv ≤ n := by
          have := Pn.lvs_get et
          unfold Pn.lv at lv
          omega
        have sk := Pn.sizes_take et
        have sl := Pn.sizes_le ts (i + 1)
        unfold Pn.size at sz
        refine ⟨rfl, _, rfl, x, tc, rfl, ht.same s1, lc, by omega, fun G3 s3 => ?_⟩
        have z := r G3 s3
        simp only [et, Option.map_some, Option.getD_some] at z
        exact z
      · intro p G s1 n1 e1
        have em : (List.range xs.length).map (fun i => V.int ((ts[i]?.map Pn.lv).getD 0 : Nat)) = (ts.map fun c => (c.lv : Int)).map V.int := by
          rw [ha.len]
          refine List.ext_getElem? fun i => ?_
          by_cases c : i < ts.length
          · simp [List.getElem?_range c, List.getElem?_eq_getElem c]
          · simp [List.getElem?_eq_none (Nat.le_of_not_lt c), List.getElem?_eq_none (l := List.range ts.length) (by simpa using Nat.le_of_not_lt c)]
        rw [em] at e1
        refine ⟨p, _, .int 0, rfl, rfl, SqL.of e1, fun z => ?_, fun m hm gr => ?_⟩
        · have tz : ts = [] := List.map_eq_nil_iff.mp z
          subst tz
          exact ⟨_, _, rfl, rfl, k G s1⟩
        · have ne : ts ≠ [] := fun z => by rw [z] at hm; cases hm
          have z := Pn.lvs_max ne hm gr
          subst z
          exact ⟨_, _, rfl, rfl, by
            have y := k G s1
            unfold Pn.lv at y
            exact y⟩
end
end K08
/-! is_plan, len of a plan, _check_children -/
namespace K08
open PySem PySem.Spec PyProof.Rows L2
section
variable {K : PySem.W.Frag} {mg : Str → Option Value} (T : Txt K mg)
include T
theorem Txt.c_MOST_CHILDREN : ∃ u, mg "MOST_CHILDREN" = some u ∧ RelV (.int 12) u := T.ci ("MOST_CHILDREN", _) (by simp [cInts])
theorem Txt.c_MOST_LEVELS : ∃ u, mg "MOST_LEVELS" = some u ∧ RelV (.int 20) u := T.ci ("MOST_LEVELS", _) (by simp [cInts])
theorem Txt.c_MOST_PLANS : ∃ u, mg "MOST_PLANS" = some u ∧ RelV (.int 200) u := T.ci ("MOST_PLANS", _) (by simp [cInts])
theorem Txt.c_BadChild : ∃ u, mg "BadChild" = some u ∧ RelV (.ref (He.ga K "BadChild")) u := T.cc "BadChild" (by simp [clss])
end
/-- what may stand among the children -/
inductive Kid where
  | odd (d : Dt) | pn (t : Pn)
def isPn : Kid → Bool
  | .odd _ => false | .pn _ => true
def kk : Kid → Nat
  | .odd d => kd d | .pn t => kt t
inductive KidR (K : PySem.W.Frag) (H : Hp) : V → Kid → Prop
  | odd {v : V} {d : Dt} : Dd K H v d → kd d < 7 → KidR K H v (.odd d)
  | pn {v : V} {t : Pn} : Pt K H v t → t.lv ≤ 20 → t.size ≤ 100000 → KidR K H v (.pn t)
inductive KidAll (K : PySem.W.Frag) (H : Hp) : List V → List Kid → Prop
  | nil : KidAll K H [] []
  | cons {v : V} {vs : List V} {t : Kid} {ts : List Kid} : KidR K H v t → KidAll K H vs ts → KidAll K H (v :: vs) (t :: ts)
/-- the first that can't be a child; m: how many there are by now -/
def firstKid : Nat → Nat → List Kid → Option Nat
  | _, _, [] => none
  | i, m, k :: r => if i = 12 then some i else match k with
    | .odd _ => some i
    | .pn t => if m + t.size > 200 then some i else if t.lv + 1 > 20 then some i else firstKid (i + 1) (m + t.size) r
theorem firstKid_pn {i m : Nat} {t : Pn} {r : List Kid} : firstKid i m (.pn t :: r) = if i = 12 then some i else if m + t.size > 200 then some i else if t.lv + 1 > 20 then some i else firstKid (i + 1) (m + t.size) r := by rw [firstKid]
theorem kit_two {K : PySem.W.Frag} {t a b : Value} {x y : Bool} (h1 : PySem.W.kitOne K t a = some x) (h2 : PySem.W.kitOne K t b = some y) : PySem.W.kitAny K t [a, b] = some (x || (y || false)) := by
  unfold PySem.W.kitAny PySem.W.kitAny PySem.W.kitAny
  rw [h1, h2]
  cases x <;> cases y <;> rfl
theorem fnR_of {P : Program} {w : World} {K : PySem.W.Frag} {mg : Str → Option Value} {base : Heap} {CX : CXT} {k : Nat} {f : Addr} {fd : FuncData} {ps : List Str} {sp : Sp} (F : FnOk P w K mg base CX k f fd ps sp) (b : Binds K fd ps []) : FnR P w K mg base CX k f sp := by
  intro A outer s H us vs Q E hr e0 r h
  have kin : K.In s.heap := e0.mod.kin.keeps fun b o e => (e0.bs b o e).1
  have l : (us ++ []).length = ps.length := by rw [List.append_nil, ← r.length]; exact F.len _ _ _ _ h
  have z := b s us kin l
  rw [List.append_nil] at z
  exact F.run A outer s H ⟨us, []⟩ us vs Q E hr e0 z r h
section
variable {K : PySem.W.Frag} {H H' : Hp} {v : V} {k : Kid}
theorem KidR.same (s : Same H H') (h : KidR K H v k) : KidR K H' v k := by
  cases h with
  | odd h l => exact .odd (h.same s) l
  | pn h l z => exact .pn (h.same s) l z
theorem KidAll.same {vs : List V} {ks : List Kid} (s : Same H H') (h : KidAll K H vs ks) : KidAll K H' vs ks := by
  induction h with
  | nil => exact .nil
  | cons a _ ih => exact .cons (a.same s) ih
theorem KidAll.len {vs : List V} {ks : List Kid} (h : KidAll K H vs ks) : vs.length = ks.length := by
  induction h with
  | nil => rfl
  | cons _ _ ih => simp [ih]
theorem KidAll.get {vs : List V} {ks : List Kid} (h : KidAll K H vs ks) : ∀ {i : Nat} {v : V}, vs[i]? = some v → ∃ k, ks[i]? = some k ∧ KidR K H v k := by
  induction h with
  | nil => intro i v e; simp at e
  | cons a _ ih =>
    intro i v e
    cases i with
    | zero => simp at e; exact ⟨_, rfl, e ▸ a⟩
    | succ i => simpa using ih (by simpa using e)
theorem kk_lt (h : KidR K H v k) : kk k < 9 := by
  cases h with
  | odd _ l => exact Nat.lt_of_lt_of_le l (by decide)
  | pn _ _ _ => exact kt_lt _
theorem KidR.ty (P : PKn K) (h : KidR K H v k) : TyX K H v (tyK K (kk k)) := by
  cases h with
  | odd h _ => exact h.ty P
  | pn h _ _ => exact h.ty P
theorem isPn_tab (h : KidR K H v k) : (tabK (kk k) 5 || (tabK (kk k) 6 || false)) = isPn k := by
  cases h with
  | @odd d h l => cases d <;> first | rfl | exact absurd l (by simp [kd])
  | @pn t h _ _ => cases t <;> rfl
end
section
variable {P : Program} {w : World} {K : PySem.W.Frag} {mg : Str → Option Value} {base : Heap}
abbrev s_is_plan : Stmt := (top 55)
def N_is_plan : List Str := ["value"]
theorem sc_is_plan : FnScope N_is_plan ["value"] (defScope s_is_plan) := ⟨rfl, rfl, rfl, by decide +kernel, rfl, by decide +kernel, by decide +kernel⟩
abbrev s_WorkerPlan___len__ : Stmt := (inClass (top 53) 2)
def N_WorkerPlan___len__ : List Str := ["self"]
theorem sc_WorkerPlan___len__ : FnScope N_WorkerPlan___len__ ["self"] (defScope s_WorkerPlan___len__) := ⟨rfl, rfl, rfl, by decide +kernel, rfl, by decide +kernel, by decide +kernel⟩
abbrev s_SupervisorPlan___len__ : Stmt := (inClass (top 54) 2)
def N_SupervisorPlan___len__ : List Str := ["self"]
theorem sc_SupervisorPlan___len__ : FnScope N_SupervisorPlan___len__ ["self"] (defScope s_SupervisorPlan___len__) := ⟨rfl, rfl, rfl, by decide +kernel, rfl, by decide +kernel, by decide +kernel⟩
abbrev s_check_children : Stmt := (top 58)
def N_check_children : List Str := ["children", "many", "index", "child"]
theorem sc_check_children : FnScope N_check_children ["children"] (defScope s_check_children) := ⟨rfl, rfl, rfl, by decide +kernel, rfl, by decide +kernel, by decide +kernel⟩
abbrev spIsPlan (K : PySem.W.Frag) : Sp := fun vs H Q _ => ∃ v k, vs = [v] ∧ KidR K H v k ∧ ∀ H', Same H H' → Q (.bl (isPn k)) H'
theorem ok_is_plan (F : Has K mg "is_plan" s_is_plan) (T : Txt K mg) : FnQ P w K mg base CX0 1 "is_plan" ["value"] (spIsPlan K) := by
  refine F.q sc_is_plan (fun _ _ _ _ _ _ us hl => match us, hl with | [_], _ => rfl) (fun vs H Q E h => by obtain ⟨_, _, rfl, _⟩ := h; rfl) (fun cdv A outer s H vs Q E hr h => ?_)
  obtain ⟨v, k, rfl, hv, q⟩ := h
  have gI : mg "isinstance" = none := T.fr _ (by simp [frees])
  refine ⟨_, PSs.nox (pss_one (ps_ret (pe_callB call_isiT (by rfl) gI boot_isinstance (pa_cons (pv 0) (pa_cons (pe_tupM (pa_cons (C8.pe_gc (by rfl) T.c_WorkerPlan) (pa_cons (C8.pe_gc (by rfl) T.c_SupervisorPlan) pa_nil))) pa_nil))))), ?_⟩
  refine ⟨_, rfl, (by show 2 ≤ sizeLine; decide), fun tp G s1 n1 e1 => ⟨_, tp, _, _, _, _, rfl, e1, .cons (.own _) (.cons (.own _) .nil), (hv.same s1).ty T.pk, kit_two (T.pk.kit _ 5 (kk_lt hv) (by decide)) (T.pk.kit _ 6 (kk_lt hv) (by decide)), ?_⟩⟩
  rw [isPn_tab hv]
  exact q G s1
/-- how many plans are in it -/
abbrev spLen (K : PySem.W.Frag) : Sp := fun vs H Q _ => ∃ v t, vs = [v] ∧ Pt K H v t ∧ t.lv ≤ 20 ∧ t.size ≤ 100000 ∧ ∀ H', Same H H' → Q (.int (t.size : Nat)) H'
theorem ok_len_w {fd : FuncData} (F : FunD K "__len__" "WorkerPlan.__len__" (defArgs s_WorkerPlan___len__) (defBody s_WorkerPlan___len__) (defScope s_WorkerPlan___len__) [] [] (He.ma K (wkA K) "__len__") fd) (T : Txt K mg) (F_plans_in : FnQ P w K mg base CX0 21 "plans_in" ["plan"] (spPlans K 20)) :
    FnR P w K mg base CX0 22 (He.ma K (wkA K) "__len__") (spLen K) := by
  refine fnR_of (ps := ["self"]) (F.ok sc_WorkerPlan___len__ (fun vs H Q E h => by obtain ⟨_, _, rfl, _⟩ := h; rfl) (fun cdv A outer s H vs Q E hr h => ?_)) (FunD.bindsN F fun _ _ _ _ _ _ us hl => match us, hl with | [_], _ => rfl)
  obtain ⟨v, t, rfl, hv, lv, sz, k⟩ := h
  have gL : mg "len" = none := T.fr _ (by simp [frees])
  refine ⟨_, PSs.nox (pss_one (ps_ret (pe_callB call_len_seq (by rfl) gL boot_len (pa_cons (pe_f F_plans_in hr pass0 (pa_cons (pv 0) pa_nil)) pa_nil)))), ?_⟩
  refine ⟨_, rfl, v, t, rfl, hv, lv, sz, fun l xs G s1 n1 e1 lx => ⟨l, xs, rfl, .inl (SqL.of e1), ?_⟩⟩
  have z := k G s1
  rw [← lx] at z
  exact z
theorem ok_len_s {fd : FuncData} (F : FunD K "__len__" "SupervisorPlan.__len__" (defArgs s_SupervisorPlan___len__) (defBody s_SupervisorPlan___len__) (defScope s_SupervisorPlan___len__) [] [] (He.ma K (suA K) "__len__") fd) (T : Txt K mg) (F_plans_in : FnQ P w K mg base CX0 21 "plans_in" ["plan"] (spPlans K 20)) :
    FnR P w K mg base CX0 22 (He.ma K (suA K) "__len__") (spLen K) := by
  refine fnR_of (ps := ["self"]) (F.ok sc_SupervisorPlan___len__ (fun vs H Q E h => by obtain ⟨_, _, rfl, _⟩ := h; rfl) (fun cdv A outer s H vs Q E hr h => ?_)) (FunD.bindsN F fun _ _ _ _ _ _ us hl => match us, hl with | [_], _ => rfl)
  obtain ⟨v, t, rfl, hv, lv, sz, k⟩ := h
  have gL : mg "len" = none := T.fr _ (by simp [frees])
  refine ⟨_, PSs.nox (pss_one (ps_ret (pe_callB call_len_seq (by rfl) gL boot_len (pa_cons (pe_f F_plans_in hr pass0 (pa_cons (pv 0) pa_nil)) pa_nil)))), ?_⟩
  refine ⟨_, rfl, v, t, rfl, hv, lv, sz, fun l xs G s1 n1 e1 lx => ⟨l, xs, rfl, .inl (SqL.of e1), ?_⟩⟩
  have z := k G s1
  rw [← lx] at z
  exact z
/-- where the two classes have their __len__ -/
structure Lens (K : PySem.W.Frag) : Prop where
  w1 : PySem.W.findIn K (.ref (wkA K)) "__len__" = some (some (.ref (He.ma K (wkA K) "__len__")))
  w2 : PySem.W.typeIn K (.ref (He.ma K (wkA K) "__len__")) = some (.type "function")
  s1 : PySem.W.findIn K (.ref (suA K)) "__len__" = some (some (.ref (He.ma K (suA K) "__len__")))
  s2 : PySem.W.typeIn K (.ref (He.ma K (suA K) "__len__")) = some (.type "function")
theorem lens_at {H : Hp} {v : V} {t : Pn} {Q : VK} (L : Lens K) (FW : FnR P w K mg base CX0 22 (He.ma K (wkA K) "__len__") (spLen K)) (FS : FnR P w K mg base CX0 22 (He.ma K (suA K) "__len__") (spLen K)) (hv : Pt K H v t) (lv : t.lv ≤ 20) (sz : t.size ≤ 100000)
    (k : ∀ H', Same H H' → Q (.int (t.size : Nat)) H') : rLenOwn P w K mg base CX0 22 (fun _ _ _ => False) [v] H Q := by
  cases hv with
  | @wrk a dx fs h => exact ⟨a, wkA K, dx, _, fs, spLen K, rfl, h, L.w1, L.w2, FW, _, _, rfl, .wrk h, lv, sz, fun H' s => ⟨_, rfl, by omega, k H' s⟩⟩
  | @sup a dx c fs xs ts h l q ha => exact ⟨a, suA K, dx, _, fs, spLen K, rfl, h, L.s1, L.s2, FS, _, _, rfl, .sup h l q ha, lv, sz, fun H' s => ⟨_, rfl, by omega, k H' s⟩⟩
abbrev spKids (K : PySem.W.Frag) : Sp := fun vs H Q E => ∃ p xs ks, vs = [.ref p] ∧ SqT K H p xs ∧ KidAll K H xs ks ∧ (firstKid 0 1 ks = none → ∀ H', Same H H' → Q .non H') ∧
  (∀ i, firstKid 0 1 ks = some i → ∀ e H', Same H H' → H e = none → H' e = some (.xd [("index", .int (i : Nat))]) → E (.ref (He.ga K "BadChild")) (some e) H')
theorem ok_check_children (F : Has K mg "_check_children" s_check_children) (T : Txt K mg) (TC : Err K mg "BadChild" "index") (L : Lens K) (FW : FnR P w K mg base CX0 22 (He.ma K (wkA K) "__len__") (spLen K)) (FS : FnR P w K mg base CX0 22 (He.ma K (suA K) "__len__") (spLen K))
    (F_is_plan : FnQ P w K mg base CX0 1 "is_plan" ["value"] (spIsPlan K)) (F_levels_of : FnQ P w K mg base CX0 21 "levels_of" ["plan"] (spLevels K 20)) : FnQ P w K mg base (L2.CX P w) 24 "_check_children" ["children"] (spKids K) := by
  refine F.q sc_check_children (fun _ _ _ _ _ _ us hl => match us, hl with | [_], _ => rfl) (fun vs H Q E h => by obtain ⟨_, _, _, rfl, _⟩ := h; rfl) (fun cdv A outer s H vs Q E hr h => ?_)
  obtain ⟨p, xs, ks, rfl, hp, hx, k, ke⟩ := h
  have gL : mg "len" = none := T.fr _ (by simp [frees])
  refine ⟨_, (pss_cons (ps_set (i := 1) sc_check_children.nd rfl (by first | exact .inl rfl | exact .inr rfl) pe_int)
  (pss_one (ps_for (passes_of rfl) rfl (pi_enumT (by rfl) (T.fr "enumerate" (by simp [frees])) (pa_cons (pv 0) pa_nil)) (pg_tup rfl (pgs_cons (pg_name (i := 2) sc_check_children.nd rfl (by first | exact .inl rfl | exact .inr rfl)) (pgs_cons (pg_name (i := 3) sc_check_children.nd rfl (by first | exact .inl rfl | exact .inr rfl)) pgs_nil)))
  (pss_cons (ps_if (pw_or (pt_cmpR op_eq (pv 2) (C8.pe_gc (by rfl) T.c_MOST_CHILDREN) (by first | exact nomark _ | rfl)) (pw_or1 (pt_not (pt_val (pe_f F_is_plan hr pass0 (pa_cons (pv 3) pa_nil)))))).pt
  (pss_one (ps_raise rfl (takes_of rfl rfl rfl rfl) (pmk_xc PySem.F.excBase_ValueError PySem.F.store_ValueError TC.cl TC.xi fn_index TC.ty hr (by decide) TC.gl (pv 2))))
  pss_nil)
  (pss_cons (ps_aug (i := 1) sc_check_children.nd rfl (.inl rfl) (pe_callB (call_lenOwn (CX := CX0) (n := 22) (E := fun _ _ _ => False) (hr.mono (by decide)) pass0) (by rfl) gL boot_len (pa_cons (pv 3) pa_nil)) ip_add)
  (pss_one (ps_if (pw_or (pt_cmpR op_gt (pv 1) (C8.pe_gc (by rfl) T.c_MOST_PLANS) (by first | exact nomark _ | rfl)) (pw_or1 (pt_cmpR op_gt (pe_op op_add (pe_f F_levels_of hr pass0 (pa_cons (pv 3) pa_nil)) pe_int) (C8.pe_gc (by rfl) T.c_MOST_LEVELS) (by first | exact nomark _ | rfl)))).pt
  (pss_one (ps_raise rfl (takes_of rfl rfl rfl rfl) (pmk_xc PySem.F.excBase_ValueError PySem.F.store_ValueError TC.cl TC.xi fn_index TC.ty hr (by decide) TC.gl (pv 2))))
  pss_nil))))))), ?_⟩
  refine ⟨_, rfl, p, xs, rfl, hp, for_it walk_enumT (fun i σ G => (∃ (m : Nat) (v2 v3 : Option V), σ = [some (.ref p), some (.int (m : Nat)), v2, v3] ∧ firstKid i m (ks.drop i) = firstKid 0 1 ks) ∧ Same H G ∧ i ≤ 12) ⟨⟨1, none, none, rfl, rfl⟩, Same.refl H, by decide⟩ (fun i σ G _ h => h.2.1.sqT hp) ?_ ?_⟩
  · rintro i v σ H1 H2 hi ⟨⟨m, v2, v3, rfl, fk⟩, s1, i12⟩ ⟨tp, x0, y, rfl, nT, rfl, e1, e2⟩
    cases e1
    obtain ⟨kd0, ek, hk⟩ := hx.get (show xs[i]? = some y from e2)
    have li : i < ks.length := by rw [← hx.len]; exact hi
    have dr : ks.drop i = kd0 :: ks.drop (i + 1) := by
      rw [List.drop_eq_getElem_cons li]
      congr 1
      rw [List.getElem?_eq_getElem li] at ek
      exact Option.some.inj ek
    rw [dr] at fk
    have s2 : Same H (upd H1 tp (.tup [.int (i : Nat), y])) := s1.trans (Same.new nT)
    generalize hH2 : upd H1 tp (.tup [.int (i : Nat), y]) = H2 at s2
    have at_tp : H2 tp = some (.tup [.int (i : Nat), y]) := by rw [← hH2]; exact upd_same
    have none_of : ∀ {G : Hp} {e : Addr}, Same H G → G e = none → H e = none := fun {G e} s n => by
      cases q : H e with
      | none => rfl
      | some o => rw [s _ _ q] at n; cases n
    refine ⟨tp, _, rfl, SqT.of at_tp, rfl, _, _, rfl, _, _, rfl, rfl, ?_⟩
    refine ⟨_, rfl, rfl, _, rfl, ?_⟩
    by_cases c1 : i = 12
    · subst c1
      refine if_yes (decide_eq_true rfl) (if_yes rfl ⟨_, rfl, fun e G sg n x2 => ke 12 ?_ e G (s2.trans sg) (none_of s2 n) x2⟩)
      rw [← fk]
      unfold firstKid
      rw [if_pos rfl]
    · refine if_no (decide_eq_false fun e => c1 (by injection e with e; omega)) ?_
      refine ⟨_, rfl, y, kd0, rfl, hk.same s2, fun H3 s3 => ⟨_, rfl, ?_⟩⟩
      have s03 := s2.trans s3
      cases hk with
      | @odd d hd l =>
        refine if_yes rfl ⟨_, rfl, fun e G sg n x2 => ke i ?_ e G (s03.trans sg) (none_of s03 n) x2⟩
        rw [← fk]
        unfold firstKid
        rw [if_neg c1]
      | @pn t ht lv sz =>
        refine if_no rfl ?_
        refine ⟨_, rfl, _, rfl, ?_⟩
        dsimp only [tNil, cxOf]
        refine lens_at L FW FS (ht.same s03) lv sz fun H4 s4 => ⟨_, _, rfl, rfl, ?_⟩
        have s04 := s03.trans s4
        rw [firstKid_pn, if_neg c1] at fk
        refine ⟨_, rfl, _, _, rfl, rfl, _, rfl, ?_⟩
        by_cases c2 : m + t.size > 200
        · rw [if_pos c2] at fk
          exact if_yes (decide_eq_true (by show (200 : Int) < (m : Int) + (t.size : Int); omega)) (if_yes rfl ⟨_, rfl, fun e G sg n x2 => ke i fk.symm e G (s04.trans sg) (none_of s04 n) x2⟩)
        · rw [if_neg c2] at fk
          refine if_no (decide_eq_false (by show ¬ (200 : Int) < (m : Int) + (t.size : Int); omega)) ⟨_, rfl, y, t, rfl, ht.same s04, lv, sz, fun H5 s5 => ?_⟩
          refine ⟨_, _, rfl, rfl, _, _, rfl, rfl, _, rfl, ?_⟩
          by_cases c3 : t.lv + 1 > 20
          · rw [if_pos c3] at fk
            exact if_yes (decide_eq_true (by show (20 : Int) < (t.lv : Int) + 1; omega)) ⟨_, rfl, fun e G sg n x2 => ke i fk.symm e G ((s04.trans s5).trans sg) (none_of (s04.trans s5) n) x2⟩
          · rw [if_neg c3] at fk
            exact if_no (decide_eq_false (by show ¬ (20 : Int) < (t.lv : Int) + 1; omega)) ⟨⟨_, _, _, rfl, fk⟩, s04.trans s5, by omega⟩
  · rintro σ G ⟨⟨m, v2, v3, rfl, fk⟩, s1, _⟩
    rw [hx.len, List.drop_length] at fk
    exact k fk.symm G s1
end
end K08
/-! a text times a number; tuples of tuples -/
namespace L2
open PySem PySem.Spec PyProof.Rows
/-- x * n of a text -/
def rRepS : R2 := fun x y H Q => ∃ i n, x = .str i ∧ y = .int n ∧ MulOk i n ∧ Q (.str (Txt.mul i n)) H
theorem op_repS {X : Cx} : OpR X (binaryOp .Mult) rRepS := by
  intro pins s σ H x y v u Q I rx ry h
  obtain ⟨i, n, rfl, rfl, hz, q⟩ := h
  obtain ⟨t, rfl⟩ := rx
  obtain ⟨t', rfl⟩ := ry
  exact SB.mul hz fun t' tk => ⟨.str (Txt.mul i n), H, I.tok _, ⟨_, rfl⟩, q⟩
end L2
namespace K08
open PySem PySem.Spec PyProof.Rows L2
section
variable {P : Program} {w : World} {K : PySem.W.Frag} {mg : Str → Option Value} {base : Heap}
/-! ### right plans of the law's own, where no exception may leave -/
def ENo : XK := fun _ _ _ => False
theorem passNo {X : Cx} : Passes (L2.CX P w) X ENo := fun _ _ _ _ _ _ _ h => by
  obtain ⟨_, _, _, _, _, _, _, _, _, _, _, _, z⟩ := h
  exact z.elim
theorem wset_ok {d1 d7 : Dt} (h1 : isPlace d1 = true) (h7 : scriptD d7 = true) : firstBad (wset d1 (.str "permanent") (.int 0) (.int 0) .non (.int 0) d7) = none := by
  unfold wset
  rw [h1, h7]
  decide +kernel
theorem right_wk {H : Hp} {v1 v7 : V} {d1 d7 : Dt} {Q : Addr → Hp → Prop} (h1 : Dd K H v1 d1) (p1 : isPlace d1 = true) (h7 : Dd K H v7 d7) (p7 : scriptD d7 = true) (o7 : okSc d7 = true) (k : ∀ x H', Same H H' → H x = none → Dd K H' (.ref x) (.wrk d7) → Q x H') :
    ∀ x dx, H x = none → H dx = none → dx ≠ x → spWInit K [.ref x, v1, .str "permanent", .int 0, .int 0, .non, .int 0, v7] (upd (upd H dx (.own x)) x (.ins (wkA K) dx [])) (fun v H3 => v = .non ∧ Q x H3) ENo := by
  intro x dx nx nd ne
  have s0 : Same H (upd (upd H dx (.own x)) x (.ins (wkA K) dx [])) := (Same.new nd).trans (Same.new (by rw [upd_ne (Ne.symm ne)]; exact nx))
  refine ⟨x, dx, v1, _, _, _, _, _, v7, d1, .str "permanent", .int 0, .int 0, .non, .int 0, d7, rfl, upd_same, h1.same s0, .str _, .int _, .int _, .non, .int _, h7.same s0, fun _ H' s' => ⟨rfl, ?_⟩, fun y e => ?_⟩
  · have s2 : Same H (upd H' x (.ins (wkA K) dx (wflds v1 (.str "permanent") (.int 0) (.int 0) .non (.int 0) v7))) := fun b o e => by
      rw [upd_ne (ne_of_none e nx)]
      exact s' _ _ (s0 _ _ e)
    exact k x _ s2 nx (.wrk upd_same (by kernel_rfl) (h7.same s2) o7)
  · rw [wset_ok p1 p7] at e
    cases e
/-! ### data behind a draw -/
def IsSrc (H : Hp) (a : Addr) : Prop := ∃ c n r, H a = some (.dK (src c n r))
theorem Src.is {H : Hp} {a c : Addr} {ns : List Int} {m : Int} (S : Src K H a c ns m) : IsSrc H a := by
  obtain ⟨⟨n, r, e, _⟩, _, _⟩ := S
  exact ⟨c, n, r, e⟩
theorem Src.same {H H' : Hp} {a c : Addr} {ns : List Int} {m : Int} (S : Src K H a c ns m) (s : Same H H') : Src K H' a c ns m := by
  obtain ⟨⟨n, r, e, q⟩, cs, few⟩ := S
  exact ⟨⟨n, r, s _ _ e, q⟩, cs.same s, few⟩
theorem Src.more {H : Hp} {a c : Addr} {ns : List Int} {m m2 : Int} (S : Src K H a c ns m) (h : m ≤ m2) : Src K H a c ns m2 := by
  obtain ⟨⟨n, r, e, h1, h2, h3⟩, cs, few⟩ := S
  exact ⟨⟨n, r, e, h1, by omega, h3⟩, cs, few⟩
theorem IsSrc.ne {H : Hp} {a b : Addr} {o : HO} (S : IsSrc H a) (e : H b = some o) (h : ∀ c n r, o ≠ .dK (src c n r)) : b ≠ a := by
  rintro rfl
  obtain ⟨c, n, r, z⟩ := S
  rw [z] at e
  exact h c n r (Option.some.inj e).symm
theorem But.sqL {H H' : Hp} {a b : Addr} {xs : List V} (e : But a H H') (S : IsSrc H a) (h : SqL K H b xs) : SqL K H' b xs := by
  rcases h with (h | ⟨o, h⟩) | h
  · exact .inl (.inl (e _ _ h (S.ne h fun _ _ _ z => nomatch z)))
  · exact .inl (.inr ⟨o, e _ _ h (S.ne h fun _ _ _ z => nomatch z)⟩)
  · exact .inr h
theorem But.sqT {H H' : Hp} {a b : Addr} {xs : List V} (e : But a H H') (S : IsSrc H a) (h : SqT K H b xs) : SqT K H' b xs := by
  rcases h with (h | ⟨o, h⟩) | h
  · exact .inl (.inl (e _ _ h (S.ne h fun _ _ _ z => nomatch z)))
  · exact .inl (.inr ⟨o, e _ _ h (S.ne h fun _ _ _ z => nomatch z)⟩)
  · exact .inr h
mutual
theorem Dd_but {H H' : Hp} {a : Addr} (s : But a H H') (S : IsSrc H a) : ∀ {v : V} {d : Dt}, Dd K H v d → Dd K H' v d
  | _, _, .non => .non
  | _, _, .bl b => .bl b
  | _, _, .int i => .int i
  | _, _, .str x h => .str x h
  | _, _, .lst h t => .lst (s.sqL S h) (DdAll_but s S t)
  | _, _, .tup h t => .tup (s.sqT S h) (DdAll_but s S t)
  | _, _, .dic h => .dic (s _ _ h (S.ne h fun _ _ _ z => nomatch z))
  | _, _, .wrk h l t o => .wrk (s _ _ h (S.ne h fun _ _ _ z => nomatch z)) l (Dd_but s S t) o
  | _, _, .sup h => .sup (s _ _ h (S.ne h fun _ _ _ z => nomatch z))
theorem DdAll_but {H H' : Hp} {a : Addr} (s : But a H H') (S : IsSrc H a) : ∀ {vs : List V} {ds : List Dt}, DdAll K H vs ds → DdAll K H' vs ds
  | _, _, .nil => .nil
  | _, _, .cons h t => .cons (Dd_but s S h) (DdAll_but s S t)
end
theorem Dd_all3 {G5 G6 G7 G8 : Hp} {a : Addr} {vs : List V} {ds : List Dt} (x6 : Same G5 G6) (b7 : But a G6 G7) (S : IsSrc G6 a) (x8 : Same G7 G8) (D : DdAll K G5 vs ds) : DdAll K G8 vs ds := (DdAll_but b7 S (D.same x6)).same x8
theorem cat_new {H : Hp} {l b : Addr} {xs zs : List V} {Q : VK} (h1 : H l = some (.lst xs)) (h2 : H b = some (.lst zs)) (h3 : xs.length + zs.length ≤ sizeLine) (k : ∀ p G, Same H G → G p = some (.lst (xs ++ zs)) → Q (.ref p) G) : rCat (.ref l) (.ref b) H Q :=
  ⟨l, b, xs, zs, rfl, rfl, h1, h2, h3, fun p hp => k p _ (Same.new hp) upd_same⟩
theorem i_word (d : Dt) : itemD "word" d = isWord d := by
  unfold itemD
  rw [if_neg (by decide +kernel), if_neg (by decide +kernel), if_neg (by decide +kernel), if_neg (by decide +kernel), if_neg (by decide +kernel), if_neg (by decide +kernel)]
theorem i_sent (d : Dt) : itemD "sent word" d = isSent d := by
  unfold itemD
  rw [if_pos rfl]
theorem i_value (d : Dt) : itemD "value" d = dvalD d := by
  unfold itemD
  rw [if_neg (by decide +kernel), if_pos rfl]
theorem i_ticks (d : Dt) : itemD "ticks" d = isBtw 1 1000000000 d := by
  unfold itemD
  rw [if_neg (by decide +kernel), if_neg (by decide +kernel), if_pos rfl]
theorem i_truth (d : Dt) : itemD "truth" d = isBl d := by
  unfold itemD
  rw [if_neg (by decide +kernel), if_neg (by decide +kernel), if_neg (by decide +kernel), if_pos rfl]
theorem i_reason (d : Dt) : itemD "reason" d = isGiven d := by
  unfold itemD
  rw [if_neg (by decide +kernel), if_neg (by decide +kernel), if_neg (by decide +kernel), if_neg (by decide +kernel), if_pos rfl]
theorem i_plan (d : Dt) : itemD "plan" d = planD d := by
  unfold itemD
  rw [if_neg (by decide +kernel), if_neg (by decide +kernel), if_neg (by decide +kernel), if_neg (by decide +kernel), if_neg (by decide +kernel), if_pos rfl]
/-- a deed by its items -/
theorem deed_by {x : Str} {ks : List Str} {ds : List Dt} (h : deedItems.lookup x = some ks) (h2 : itemsD ks ds = true) : deedD (.tup (.str x :: ds)) = true ∧ okDeed (.tup (.str x :: ds)) = true := by
  refine ⟨?_, rfl⟩
  simp only [deedD, h]
  exact h2
def newSc : Dt := .tup [.tup [.str "first", .str "go", .int 1, .tup []]]
theorem newSc_ok : scriptD newSc = true ∧ okSc newSc = true ∧ planD (.wrk newSc) = true ∧ isPlace (.str "new") = true := by decide +kernel
mutual
/-- no list anywhere -/
def noLst : Dt → Bool
  | .lst _ => false
  | .tup ds => noLstAll ds
  | .wrk sc => noLst sc
  | _ => true
def noLstAll : List Dt → Bool
  | [] => true
  | d :: ds => noLst d && noLstAll ds
end
mutual
theorem Dd_butL {H H' : Hp} {a : Addr} {ys : List V} (s : But a H H') (S : H a = some (.lst ys)) : ∀ {v : V} {d : Dt}, Dd K H v d → noLst d = true → Dd K H' v d
  | _, _, .non, _ => .non
  | _, _, .bl b, _ => .bl b
  | _, _, .int i, _ => .int i
  | _, _, .str x h, _ => .str x h
  | _, _, .lst h t, n => by simp [noLst] at n
  | _, _, .tup h t, n => .tup (by
      rcases h with (h | ⟨o, h⟩) | h
      · exact .inl (.inl (s _ _ h (by rintro rfl; rw [S] at h; cases h)))
      · exact .inl (.inr ⟨o, s _ _ h (by rintro rfl; rw [S] at h; cases h)⟩)
      · exact .inr h) (DdAll_butL s S t (by simpa [noLst] using n))
  | _, _, .dic h, _ => .dic (s _ _ h (by rintro rfl; rw [S] at h; cases h))
  | _, _, .wrk h l t o, n => .wrk (s _ _ h (by rintro rfl; rw [S] at h; cases h)) l (Dd_butL s S t (by simpa [noLst] using n)) o
  | _, _, .sup h, _ => .sup (s _ _ h (by rintro rfl; rw [S] at h; cases h))
theorem DdAll_butL {H H' : Hp} {a : Addr} {ys : List V} (s : But a H H') (S : H a = some (.lst ys)) : ∀ {vs : List V} {ds : List Dt}, DdAll K H vs ds → noLstAll ds = true → DdAll K H' vs ds
  | _, _, .nil, _ => .nil
  | _, _, .cons h t, n => .cons (Dd_butL s S h (by simp [noLstAll] at n; exact n.1)) (DdAll_butL s S t (by simp [noLstAll] at n; exact n.2))
end
theorem mul20 : MulOk "x" 20 ∧ Txt.mul "x" 20 = "xxxxxxxxxxxxxxxxxxxx" := by
  refine ⟨⟨by decide, fun _ _ => by decide, fun _ _ => by decide +kernel⟩, by decide +kernel⟩
theorem pow12 : (10 : Int) ^ (12 : Int).toNat = 1000000000000 := by decide
theorem get5 {α : Type} {a b c d e v : α} {j : Nat} (h : [a, b, c, d, e][j]? = some v) : v = a ∨ v = b ∨ v = c ∨ v = d ∨ v = e := by
  rcases j with _ | _ | _ | _ | _ | j <;> simp at h <;> simp [h]
theorem get4 {α : Type} {a b c d v : α} {j : Nat} (h : [a, b, c, d][j]? = some v) : v = a ∨ v = b ∨ v = c ∨ v = d := by
  rcases j with _ | _ | _ | _ | j <;> simp at h <;> simp [h]
theorem get3 {α : Type} {a b c v : α} {j : Nat} (h : [a, b, c][j]? = some v) : v = a ∨ v = b ∨ v = c := by
  rcases j with _ | _ | _ | j <;> simp at h <;> simp [h]
theorem get2 {α : Type} {a b v : α} {j : Nat} (h : [a, b][j]? = some v) : v = a ∨ v = b := by
  rcases j with _ | _ | j <;> simp at h <;> simp [h]
/-! plans behind a draw, behind a change of a list -/
/-- what stands at a is no part of a plan -/
def NoPart (H : Hp) (a : Addr) : Prop := (∃ xs, H a = some (.dK xs)) ∨ ∃ xs, H a = some (.lst xs)
theorem NoPart.ins {H : Hp} {a b C dx : Addr} {fs : List (Str × V)} (N : NoPart H a) (e : H b = some (.ins C dx fs)) : b ≠ a := by
  rintro rfl
  rcases N with ⟨xs, z⟩ | ⟨xs, z⟩ <;> (rw [z] at e; cases e)
theorem NoPart.sqT {H H' : Hp} {a b : Addr} {xs : List V} (N : NoPart H a) (s : But a H H') (h : SqT K H b xs) : SqT K H' b xs := by
  have ne : ∀ {o : HO}, H b = some o → (∀ ys, o ≠ .dK ys) → (∀ ys, o ≠ .lst ys) → b ≠ a := fun {o} e n1 n2 => by
    rintro rfl
    rcases N with ⟨ys, z⟩ | ⟨ys, z⟩ <;> (rw [z] at e; cases e)
    · exact n1 _ rfl
    · exact n2 _ rfl
  rcases h with (h | ⟨o, h⟩) | h
  · exact .inl (.inl (s _ _ h (ne h (fun _ z => nomatch z) fun _ z => nomatch z)))
  · exact .inl (.inr ⟨o, s _ _ h (ne h (fun _ z => nomatch z) fun _ z => nomatch z)⟩)
  · exact .inr h
mutual
theorem Pt_but {H H' : Hp} {a : Addr} (s : But a H H') (N : NoPart H a) : ∀ {v : V} {t : Pn}, Pt K H v t → Pt K H' v t
  | _, _, .wrk h => .wrk (s _ _ h (N.ins h))
  | _, _, .sup h l q r => .sup (s _ _ h (N.ins h)) l (N.sqT s q) (PtAll_but s N r)
theorem PtAll_but {H H' : Hp} {a : Addr} (s : But a H H') (N : NoPart H a) : ∀ {vs : List V} {ts : List Pn}, PtAll K H vs ts → PtAll K H' vs ts
  | _, _, .nil => .nil
  | _, _, .cons h t => .cons (Pt_but s N h) (PtAll_but s N t)
end
theorem IsSrc.noPart {H : Hp} {a : Addr} (S : IsSrc H a) : NoPart H a := by
  obtain ⟨c, n, r, e⟩ := S
  exact .inl ⟨_, e⟩
end
end K08
/-! f(k = v, ..); rules for the inside of a comprehension -/
namespace L2
open PySem PySem.Spec PyProof.Rows
section
variable {P : Program} {w : World} {K : PySem.W.Frag} {mg : Str → Option Value} {base : Heap} {CX : CXT} {k : Nat} {x : Str} {ps : List Str} {sp : Sp} {st : Stmt}
/-- a def all of whose parameters are given by name -/
structure FnK (P : Program) (w : World) (K : PySem.W.Frag) (mg : Str → Option Value) (base : Heap) (CX : CXT) (k : Nat) (x : Str) (ps : List Str) (sp : Sp) : Prop where
  gl : mg x = some (.ref (He.ga K x))
  kp : PySem.W.keepIn K (.ref (He.ga K x)) = true
  fn : ∃ fd, FnOk P w K mg base CX k (He.ga K x) fd ps sp ∧ KBn K fd ps 0 ps (fun _ ws => ws) (fun _ zs => zs)
theorem Has.kw (Hs : Has K mg x st) (F : FnQ P w K mg base CX k x ps sp)
    (B : ∀ (kV doc pm : Value) (an : Option Addr) (cdv ct : Value) (us : List Value), us.length = ps.length → bindArgs (PySem.W.fnOf x x (defArgs st) (defBody st) (defScope st) .none kV doc pm an cdv ct) ⟨[], ps.zip us⟩ = pure (ps.zip us)) : FnK P w K mg base CX k x ps sp := by
  obtain ⟨fd2, F2⟩ := Hs.df
  obtain ⟨oc2, od2, osl2, lk2⟩ := lookD F2
  obtain ⟨fd, ok, _, oc, od, osl, lk⟩ := F.fn
  have same : fd2 = fd := by
    have z := lk2.symm.trans lk
    cases z
    rfl
  subst same
  refine ⟨F.gl, F.kp, fd2, ok, ?_⟩
  obtain ⟨oc, od, dV, kV, doc, pm, an, cdv, ct, osl, rfl, _, _, hD, _⟩ := F2.ex
  rcases hD with ⟨_, rfl⟩ | ⟨e, _⟩
  · exact ⟨fun s us ws X l1 l2 => by
      have : us = [] := List.length_eq_zero_iff.mp l1
      subst this
      exact BindsTo.of_eq (B kV doc pm an cdv ct ws l2), fun _ r => r⟩
  · exact absurd rfl e
end
section
variable {X : Cx} {CX : CXT} {k j : Nat} {ps : List Str} {sp : Sp} {E : XK} {x : Str} {p pos : Pos} {kws : List Keyword} {tk : TA}
def tKw (n : Nat) (sp : Sp) (E : XK) (tk : TA) : TE := fun σ H Q => tk σ H fun zs H1 => zs.length = n ∧ sp zs H1 Q E
theorem pe_fKw (F : FnK X.prog X.w X.K X.mg X.base CX j x ps sp) (hr : Room k X.A) (hx : Passes CX X E) (hkw : PK X kws tk) (hg : Gl X x := by rfl) (hj : j ≤ k := by decide) (hdb : (x == ("__debug__" : Str)) = false := by decide)
    (hall : (backToKw pos (keywordEach kws X.env)).all (·.1.isSome) = true := by rfl) (hks : (backToKw pos (keywordEach kws X.env)).filterMap (·.1) = ps := by rfl)
    (hpl : ((backTo pos (starEach [] X.env)).any (·.1) || (backToKw pos (keywordEach kws X.env)).any (·.1.isNone)) = false := by rfl) : PE X (.Call (.Name x p) [] kws pos) (tKw ps.length sp E tk) := by
  obtain ⟨fd, ok, hb⟩ := F.fn
  refine ⟨fun pins s σ H Q I h => wpAny_Call_Name_kw (ld_glob I hg F.gl ?_ hdb)⟩
  refine PySem.W.callWith_KW0 (h₀ := X.base) I.ok.mod.kin F.kp hall (thn (hkw.run pos pins s σ H _ I h) fun ws s2 ⟨zs, H2, I2, rz, l2, q2⟩ => ⟨I2.kIn, ?_⟩) hpl
  rw [hks]
  exact run_fnN (us := []) (vs := []) ok (hr.mono hj) hb hx I2 .nil rz rfl l2 q2
theorem op_eqDK (K : PySem.W.Frag) (hu : X.A.units + 64 < cLine) (h : X.K = K := by rfl) : OpR X (compareOp .Eq) (rEqD K) := by
  subst h; exact op_eqD hu
theorem op_neDK (K : PySem.W.Frag) (hu : X.A.units + 64 < cLine) (h : X.K = K := by rfl) : OpR X (compareOp .NotEq) (rNeD K) := by
  subst h; exact op_neD hu
theorem sl_tupK (K : PySem.W.Frag) (h : X.K = K := by rfl) : SlR X (rSlT K) := by
  subst h; exact sl_tup
end
end L2
/-! C(a, b, .., k = v, ..) where __init__ has *rest and takes the rest by name -/
namespace L2
open PySem PySem.Spec PyProof.Rows
abbrev SpK := List V → List V → Hp → VK → XK → Prop
/-- what a def promises of a call by place and by the names ks -/
def FnRK (P : Program) (w : World) (K : PySem.W.Frag) (mg : Str → Option Value) (base : Heap) (CX : CXT) (k : Nat) (f : Addr) (ks : List Str) (sp : SpK) : Prop :=
  ∀ (A : Around) (outer : List Env) (s : Shared) (H : Hp) (us ws : List Value) (vs zs : List V) (Q : VK) (E : XK), Room k A → Env0 P w K mg base A outer s H → Vals vs us → Vals zs ws → zs.length = ks.length → sp vs zs H Q E →
    codeAny (model P w) A (.call (.ref f) ⟨us, ks.zip ws⟩) (CR CX outer P w H s Q E) s
section
variable {P : Program} {w : World} {K : PySem.W.Frag} {mg : Str → Option Value} {base : Heap} {CX : CXT} {k : Nat} {f : Addr} {name qual : Str} {params : Arguments} {body : List Stmt} {scope : Scope} {dV kV doc pm cdv ct oc : Value} {an od : Option Addr} {osl : Array (Option Value)} {N ps ks : List Str} {sp : Sp}
/-- all of ks given by name, what is left over by place is a new tuple -/
theorem fn_starK {pv : Str} (lk : K.lookup f = some ⟨oc, od, .func (PySem.W.fnOf name qual params body scope dV kV doc pm an cdv ct), osl⟩) (hcd : PySem.W.codeIn K cdv qual = true) (S : FnScope N (ps ++ ks ++ [pv]) scope) (hCX : StX.CXUp CX)
    (hb : ∀ us rest ws : List Value, us.length = ps.length → ws.length = ks.length → bindArgs (PySem.W.fnOf name qual params body scope dV kV doc pm an cdv ct) ⟨us ++ rest, ks.zip ws⟩ = (newTuple rest >>= fun t => pure ((ps ++ ks).zip (us ++ ws) ++ [(pv, t)])))
    (hbody : ∀ (A : Around) (outer : List Env) (s : Shared) (H : Hp) (vs : List V) (Q : VK) (E : XK), Room k (A.deeper (envOfC qual scope s.heap.objs.size f cdv)) → sp vs H Q E →
      ∃ t, PSs (cxOf CX P w K mg base N qual scope f cdv A outer s H E) body t ∧ t { nx := fun _ H' => Q .non H', rt := Q } (start N vs) H) :
    FnRK P w K mg base CX (k + 1) f ks (fun vs zs H Q E => ∃ xs rest, vs = xs ++ rest ∧ xs.length = ps.length ∧ rest.length ≤ sizeLine ∧ ∀ p, H p = none → sp (xs ++ zs ++ [V.ref p]) (upd H p (.tup rest)) Q E) := by
  intro A outer s H us ws vs zs Q E hr e0 r rz lz hsp
  obtain ⟨xs, rest, ev, hl, hz, hq⟩ := hsp
  subst ev
  obtain ⟨u1, u2, eu, r1, r2⟩ := StX.vals_split r
  subst eu
  have hn : H s.heap.objs.size = none := e0.hok.fresh (Nat.le_refl _)
  have n1 : u1.length = ps.length := by rw [← r1.length]; exact hl
  have n2 : u2.length ≤ sizeLine := by rw [← r2.length]; exact hz
  have n3 : ws.length = ks.length := by rw [← rz.length]; exact lz
  refine StX.run_bnd lk hcd S hr e0 (G := fun ys H2 => ∃ p, H p = none ∧ ys = xs ++ zs ++ [V.ref p] ∧ H2 = upd H p (.tup rest)) (fun A' Ex Q' h => ?_) fun s2 H2 ys ⟨p, hp, ex, eH⟩ hr' => ?_
  · rw [hb u1 u2 ws n1 n3]
    refine wpAny_bind (wpAny_newTuple (wpAny_pure ?_) n2)
    have new : ObjOk P w (upd H s.heap.objs.size (.tup rest)) (s.heap.push ({ cls := .type "tuple", data := .seq u2.toArray } : Obj)) s.heap.objs.size (.tup rest) := ⟨hz, u2, r2, ⟨_, Heap.get?_push_size _ rfl, rfl, _, rfl⟩⟩
    have un := StX.un_laid (fs := frs outer) (s := s) (o := ({ cls := .type "tuple", data := .seq u2.toArray } : Obj)) (u := .tup rest) hn
    have z := h _ _ (xs ++ zs ++ [V.ref s.heap.objs.size]) (u1 ++ ws ++ [Value.ref s.heap.objs.size]) (StX.env0_laid e0 new) un rfl (fun e s' => hCX outer s H _ _ E e s' un (fun b o q => Heap.get?_push_of_some _ q) rfl) ((r1.append rz).append (.cons rfl .nil))
      (by simp only [List.length_append, hl, lz, List.length_cons, List.length_nil]) ⟨_, hn, rfl, rfl⟩
    rw [List.zip_append (by simp only [List.length_append, n1, n3])] at z
    exact z
  · subst ex eH
    exact hbody A outer s2 _ _ Q E hr' (hq p hp)
end
/-- C(e, .., k = v, ..): a new instance and its dict, then __init__ -/
def tMakeRK (C : Addr) (m : Nat) (sp : SpK) (E : XK) (t tk : TA) : TE := fun σ H Q => t σ H fun vs H1 => tk σ H1 fun zs H2 => zs.length = m ∧ ∀ x dx, H2 x = none → H2 dx = none → dx ≠ x → sp (.ref x :: vs) zs (upd (upd H2 dx (.own x)) x (.ins C dx [])) (fun v H3 => v = .non ∧ Q (.ref x) H3) E
section
variable {X : Cx} {CX : CXT} {k : Nat} {f C : Addr} {ks : List Str} {sp : SpK} {E : XK} {x : Str} {p pos : Pos} {e : Expr} {es : List Expr} {kws : List Keyword} {t tk : TA}
theorem run_makeRK {pins : List (Addr × Obj)} {σ : St} {H : Hp} {s : Shared} {Q : VK} {us ws : List Value} {vs zs : List V} (M : Mk X.K C f) (F : FnRK X.prog X.w X.K X.mg X.base CX k f ks sp) (hr : Room (k + 1) X.A) (hx : Passes CX X E) (I : Inv X pins σ H s) (r : Vals vs us) (rz : Vals zs ws) (l2 : zs.length = ks.length)
    (h : ∀ x dx, H x = none → H dx = none → dx ≠ x → sp (.ref x :: vs) zs (upd (upd H dx (.own x)) x (.ins C dx [])) (fun v H2 => v = .non ∧ Q (.ref x) H2) E) :
    wpAny (model X.prog X.w) X.A (call (.ref C) us (ks.zip ws)) (EP X pins σ Q) X.xe s := by
  have q0 := h (s.heap.objs.size + 1) s.heap.objs.size (I.hok.fresh (Nat.le_succ _)) (I.hok.fresh (Nat.le_refl _)) (Nat.ne_of_lt (Nat.lt_succ_self _))
  have J := Inv.made (C := C) I
  have r1 : Vals (V.ref (s.heap.objs.size + 1) :: vs) (Value.ref (s.heap.objs.size + 1) :: us) := .cons rfl r
  refine wpAny_call (make_map (f := f) I.kIn M.makes M.init (beq_iff_eq.mp M.fn) (codeAny_mono (F _ X.stack _ _ (Value.ref (s.heap.objs.size + 1) :: us) ws _ _ _ E (hr.make C us (ks.zip ws)) (J.env0.make C us (ks.zip ws)) r1 rz l2 q0) fun r s' q1 => ?_))
  cases r with
  | error e => exact hx pins σ _ _ e s' J q1
  | ok fl =>
    cases fl with
    | ret u =>
      obtain ⟨v, H', J2, rv, ev, q2⟩ := J.after q1
      subst ev
      exact ⟨rv, ⟨V.ref (s.heap.objs.size + 1), H', J2, rfl, q2⟩⟩
    | next => exact q1.elim
    | brk => exact q1.elim
    | cont => exact q1.elim
theorem pe_makeRK (M : Mk X.K C f) (F : FnRK X.prog X.w X.K X.mg X.base CX k f ks sp) (hr : Room (k + 1) X.A) (hg : Gl X x) (hm : X.mg x = some (.ref C)) (hx : Passes CX X E)
    (ha : PA X (e :: es) t) (hkw : PK X kws tk) (hall : (backToKw pos (keywordEach kws X.env)).all (·.1.isSome) = true := by rfl) (hks : (backToKw pos (keywordEach kws X.env)).filterMap (·.1) = ks := by rfl)
    (hdb : (x == ("__debug__" : Str)) = false := by decide) (he : starEach (e :: es) X.env = (false, eval e X.env) :: starEach es X.env := by rfl)
    (hpl : ((backTo pos (starEach (e :: es) X.env)).any (·.1) || (backToKw pos (keywordEach kws X.env)).any (·.1.isNone)) = false := by rfl) :
    PE X (.Call (.Name x p) (e :: es) kws pos) (tMakeRK C ks.length sp E t tk) := by
  refine ⟨fun pins s σ H Q I h => wpAny_Call_Name_kw (ld_glob I hg hm ?_ hdb)⟩
  refine PySem.W.callWith_KW (h₀ := X.base) I.ok.mod.kin M.kp hall (thn (ha.run pos pins s σ H _ I h) fun us s1 ⟨vs, H1, I1, r, q⟩ => thn (hkw.run pos pins s1 σ H1 _ I1 q) fun ws s2 ⟨zs, H2, I2, rz, l2, q2⟩ => ⟨I2.kIn, ?_⟩) hpl he
  rw [hks]
  exact run_makeRK M F hr hx I2 r rz l2 q2
end
end L2
/-! SupervisorPlan(name, *children, restart=.., strategy=.., most=.., span=.., deadline=..) -/
namespace K08
open PySem PySem.Spec PyProof.Rows L2
section
variable {P : Program} {w : World} {K : PySem.W.Frag} {mg : Str → Option Value} {base : Heap}
abbrev s_SupervisorPlan___init__ : Stmt := (inClass (top 54) 0)
def N_SupervisorPlan___init__ : List Str := ["self", "name", "restart", "strategy", "most", "span", "deadline", "children"]
theorem sc_SupervisorPlan___init__ : FnScope N_SupervisorPlan___init__ ["self", "name", "restart", "strategy", "most", "span", "deadline", "children"] (defScope s_SupervisorPlan___init__) := ⟨rfl, rfl, rfl, by decide +kernel, rfl, by decide +kernel, by decide +kernel⟩
def sset (d1 d2 d3 d4 d5 d6 : Dt) : List (Str × Bool) := [("name", isPlace d1), ("restart", isOne restarts d2), ("strategy", isOne ["one", "rest", "all"] d3), ("most", isBtw 0 20 d4), ("span", isBtw 1 1000000000 d5), ("deadline", deadD d6)]
def sflds (v1 c v2 v3 v4 v5 v6 : V) : List (Str × V) := [("name", v1), ("children", c), ("restart", v2), ("strategy", v3), ("most", v4), ("span", v5), ("deadline", v6)]
abbrev sNames : List Str := ["name", "children", "restart", "strategy", "most", "span", "deadline"]
/-- what is asked of the class SupervisorPlan -/
structure Su (K : PySem.W.Frag) (mg : Str → Option Value) : Prop where
  gl : mg "SupervisorPlan" = some (.ref (suA K))
  cl : Cls K (suA K)
  na : ∀ f ∈ sNames, NoAttr K (suA K) f
  mkr : Mk K (suA K) (He.ma K (suA K) "__init__")
theorem sflds_put (v1 c v2 v3 v4 v5 v6 : V) : putF "deadline" v6 (putF "span" v5 (putF "most" v4 (putF "strategy" v3 (putF "restart" v2 (putF "children" c (putF "name" v1 [])))))) = sflds v1 c v2 v3 v4 v5 v6 := by
  have q01 : ¬ (("name" : Str) = "children") := by decide +kernel
  have q02 : ¬ (("name" : Str) = "restart") := by decide +kernel
  have q03 : ¬ (("name" : Str) = "strategy") := by decide +kernel
  have q04 : ¬ (("name" : Str) = "most") := by decide +kernel
  have q05 : ¬ (("name" : Str) = "span") := by decide +kernel
  have q06 : ¬ (("name" : Str) = "deadline") := by decide +kernel
  have q12 : ¬ (("children" : Str) = "restart") := by decide +kernel
  have q13 : ¬ (("children" : Str) = "strategy") := by decide +kernel
  have q14 : ¬ (("children" : Str) = "most") := by decide +kernel
  have q15 : ¬ (("children" : Str) = "span") := by decide +kernel
  have q16 : ¬ (("children" : Str) = "deadline") := by decide +kernel
  have q23 : ¬ (("restart" : Str) = "strategy") := by decide +kernel
  have q24 : ¬ (("restart" : Str) = "most") := by decide +kernel
  have q25 : ¬ (("restart" : Str) = "span") := by decide +kernel
  have q26 : ¬ (("restart" : Str) = "deadline") := by decide +kernel
  have q34 : ¬ (("strategy" : Str) = "most") := by decide +kernel
  have q35 : ¬ (("strategy" : Str) = "span") := by decide +kernel
  have q36 : ¬ (("strategy" : Str) = "deadline") := by decide +kernel
  have q45 : ¬ (("most" : Str) = "span") := by decide +kernel
  have q46 : ¬ (("most" : Str) = "deadline") := by decide +kernel
  have q56 : ¬ (("span" : Str) = "deadline") := by decide +kernel
  simp [putF, sflds, q01, q02, q03, q04, q05, q06, q12, q13, q14, q15, q16, q23, q24, q25, q26, q34, q35, q36, q45, q46, q56]
/-- any settings, any children -/
abbrev spSInit (K : PySem.W.Frag) : Sp := fun vs H Q E => ∃ a dx v1 v2 v3 v4 v5 v6 d1 d2 d3 d4 d5 d6 p xs ks, vs = [.ref a, v1, v2, v3, v4, v5, v6, .ref p] ∧ H a = some (.ins (suA K) dx []) ∧
  Dd K H v1 d1 ∧ Dd K H v2 d2 ∧ Dd K H v3 d3 ∧ Dd K H v4 d4 ∧ Dd K H v5 d5 ∧ Dd K H v6 d6 ∧ SqT K H p xs ∧ KidAll K H xs ks ∧
  (firstBad (sset d1 d2 d3 d4 d5 d6) = none → firstKid 0 1 ks = none → ∀ H', Same H H' → Q .non (upd H' a (.ins (suA K) dx (sflds v1 (.ref p) v2 v3 v4 v5 v6)))) ∧
  (∀ x, firstBad (sset d1 d2 d3 d4 d5 d6) = some x → ∀ e H', Same H H' → H e = none → H' e = some (.xd [("setting", .str x)]) → E (.ref (He.ga K "BadSetting")) (some e) H') ∧
  (firstBad (sset d1 d2 d3 d4 d5 d6) = none → ∀ i, firstKid 0 1 ks = some i → ∀ e H', Same H H' → H e = none → H' e = some (.xd [("index", .int (i : Nat))]) → E (.ref (He.ga K "BadChild")) (some e) H')
theorem sup_body {A : Around} {outer : List Env} {s : Shared} {H : Hp} {vs : List V} {Q : VK} {E : XK} {f : Addr} {cdv : Value} (T : Txt K mg) (W : Su K mg) (hr : Room 24 (A.deeper (envOfC "SupervisorPlan.__init__" (defScope s_SupervisorPlan___init__) s.heap.objs.size f cdv)))
    (F_check_settings : FnQ P w K mg base (L2.CX P w) 2 "_check_settings" ["checks"] (spSettings K)) (F_is_place_name : FnQ P w K mg base CX0 2 "is_place_name" ["value"] (spChk K isPlace)) (F_is_one_of : FnQ P w K mg base CX0 1 "is_one_of" ["value", "words"] (spOne K))
    (F_is_between : FnQ P w K mg base CX0 2 "is_between" ["value", "low", "high"] (spBtw K)) (F_is_deadline : FnQ P w K mg base CX0 3 "_is_deadline" ["value"] (spChk K deadD)) (F_check_children : FnQ P w K mg base (L2.CX P w) 24 "_check_children" ["children"] (spKids K)) (h : spSInit K vs H Q E) :
    ∃ t, PSs (cxOf (L2.CX P w) P w K mg base N_SupervisorPlan___init__ "SupervisorPlan.__init__" (defScope s_SupervisorPlan___init__) f cdv A outer s H E) (defBody s_SupervisorPlan___init__) t ∧ t { nx := fun _ H' => Q .non H', rt := Q } (start N_SupervisorPlan___init__ vs) H := by
  obtain ⟨a, dx, v1, v2, v3, v4, v5, v6, d1, d2, d3, d4, d5, d6, p, xs, ks, rfl, ha, h1, h2, h3, h4, h5, h6, hp, hx, k, ke, kc⟩ := h
  refine ⟨_, (pss_cons (ps_expr (pe_fS F_check_settings hr (fun σ => passAt (takes_of rfl rfl rfl rfl) σ) (pa_cons (pe_tupM (pa_cons (pe_tupM (pa_cons pe_str (pa_cons (pe_f F_is_place_name hr pass0 (pa_cons (pv 1) pa_nil)) pa_nil))) (pa_cons (pe_tupM (pa_cons pe_str (pa_cons (pe_f F_is_one_of hr pass0 (pa_cons (pv 2) (pa_cons (C8.pe_gc (by rfl) T.c_RESTARTS) pa_nil))) pa_nil))) (pa_cons (pe_tupM (pa_cons pe_str (pa_cons (pe_f F_is_one_of hr pass0 (pa_cons (pv 3) (pa_cons (C8.pe_gc (by rfl) T.c_STRATEGIES) pa_nil))) pa_nil))) (pa_cons (pe_tupM (pa_cons pe_str (pa_cons (pe_f F_is_between hr pass0 (pa_cons (pv 4) (pa_cons pe_int (pa_cons (C8.pe_gc (by rfl) T.c_MOST_RESTARTS) pa_nil)))) pa_nil))) (pa_cons (pe_tupM (pa_cons pe_str (pa_cons (pe_f F_is_between hr pass0 (pa_cons (pv 5) (pa_cons pe_int (pa_cons (C8.pe_gc (by rfl) T.c_MOST_TICKS) pa_nil)))) pa_nil))) (pa_cons (pe_tupM (pa_cons pe_str (pa_cons (pe_f F_is_deadline hr pass0 (pa_cons (pv 6) pa_nil)) pa_nil))) pa_nil))))))) pa_nil)))
  (pss_cons (ps_expr (pe_fS F_check_children hr (fun σ => passAt (takes_of rfl rfl rfl rfl) σ) (pa_cons (pv 7) pa_nil)))
  (PSs.nox (pss_cons (ps_fld (pv 0) (pv 1) rfl)
  (pss_cons (ps_fld (pv 0) (pv 7) rfl)
  (pss_cons (ps_fld (pv 0) (pv 2) rfl)
  (pss_cons (ps_fld (pv 0) (pv 3) rfl)
  (pss_cons (ps_fld (pv 0) (pv 4) rfl)
  (pss_cons (ps_fld (pv 0) (pv 5) rfl)
  (pss_one (ps_fld (pv 0) (pv 6) rfl))))))))))), ?_⟩
  have two : (2 : Nat) ≤ sizeLine := by decide
  have hw : ∀ H, SqT K H (He.ga K "RESTARTS") (restarts.map V.str) := T.tq ("RESTARTS", restarts) (by simp [cTups, restarts])
  have hs : ∀ H, SqT K H (He.ga K "STRATEGIES") ((["one", "rest", "all"] : List Str).map V.str) := T.tq ("STRATEGIES", ["one", "rest", "all"]) (by simp [cTups])
  refine ⟨_, rfl, v1, d1, rfl, h1, fun H1 s1 => ⟨two, fun t1 G1 r1 n1 l1 => ?_⟩⟩
  have S1 : Same H G1 := s1.trans r1
  refine ⟨_, rfl, v2, d2, _, restarts, rfl, h2.same S1, hw G1, fun H2 s2 => ⟨two, fun t2 G2 r2 n2 l2 => ?_⟩⟩
  have T2 : Same G1 G2 := s2.trans r2
  have S2 := S1.trans T2
  refine ⟨_, rfl, v3, d3, _, ["one", "rest", "all"], rfl, h3.same S2, hs G2, fun H3 s3 => ⟨two, fun t3 G3 r3 n3 l3 => ?_⟩⟩
  have T3 : Same G2 G3 := s3.trans r3
  have S3 := S2.trans T3
  refine ⟨_, rfl, v4, d4, _, _, rfl, h4.same S3, fun H4 s4 => ⟨two, fun t4 G4 r4 n4 l4 => ?_⟩⟩
  have T4 : Same G3 G4 := s4.trans r4
  have S4 := S3.trans T4
  refine ⟨_, rfl, v5, d5, _, _, rfl, h5.same S4, fun H5 s5 => ⟨two, fun t5 G5 r5 n5 l5 => ?_⟩⟩
  have T5 : Same G4 G5 := s5.trans r5
  have S5 := S4.trans T5
  refine ⟨_, rfl, v6, d6, rfl, h6.same S5, fun H6 s6 => ⟨two, fun t6 G6 r6 n6 l6 => ?_⟩⟩
  have T6 : Same G5 G6 := s6.trans r6
  refine ⟨(by show 6 ≤ sizeLine; decide), fun p8 G8 r8 n8 l8 => ?_⟩
  have S8 := S5.trans (T6.trans r8)
  have m6 := r8 _ _ l6
  have m5 := r8 _ _ (T6 _ _ l5)
  have m4 := r8 _ _ (T6 _ _ (T5 _ _ l4))
  have m3 := r8 _ _ (T6 _ _ (T5 _ _ (T4 _ _ l3)))
  have m2 := r8 _ _ (T6 _ _ (T5 _ _ (T4 _ _ (T3 _ _ l2))))
  have m1 := r8 _ _ (T6 _ _ (T5 _ _ (T4 _ _ (T3 _ _ (T2 _ _ l1)))))
  have none_of : ∀ {G : Hp} {e : Addr}, Same H G → G e = none → H e = none := fun {G e} s n => by
    cases q : H e with
    | none => rfl
    | some o => rw [s _ _ q] at n; cases n
  refine ⟨p8, _, sset d1 d2 d3 d4 d5 d6, rfl, SqT.of l8, .cons (SqT.of m1) (.cons (SqT.of m2) (.cons (SqT.of m3) (.cons (SqT.of m4) (.cons (SqT.of m5) (.cons (SqT.of m6) .nil))))), fun fb H9 s9 => ?_, fun x fb e H' s n q => ke x fb e H' (S8.trans s) (none_of S8 n) q⟩
  have S9 := S8.trans s9
  refine ⟨_, rfl, p, xs, ks, rfl, S9.sqT hp, hx.same S9, fun fk H10 s10 => ?_, fun i fk e H' s n q => kc fb i fk e H' (S9.trans s) (none_of S9 n) q⟩
  have S10 := S9.trans s10
  have a9 := S10 _ _ ha
  have na : ∀ {f : Str}, f ∈ sNames → NoAttr K (suA K) f := fun h => W.na _ h
  refine ⟨_, rfl, _, rfl, a, suA K, dx, _, rfl, a9, W.cl, na (by simp), Nat.lt_of_le_of_lt (Nat.zero_le 0) (by decide), ?_⟩
  refine ⟨_, rfl, _, rfl, a, suA K, dx, _, rfl, upd_same, W.cl, na (by simp), Nat.lt_of_le_of_lt (putF_le (Nat.zero_le 0)) (by decide), ?_⟩
  refine ⟨_, rfl, _, rfl, a, suA K, dx, _, rfl, upd_same, W.cl, na (by simp), Nat.lt_of_le_of_lt (putF_le (putF_le (Nat.zero_le 0))) (by decide), ?_⟩
  refine ⟨_, rfl, _, rfl, a, suA K, dx, _, rfl, upd_same, W.cl, na (by simp), Nat.lt_of_le_of_lt (putF_le (putF_le (putF_le (Nat.zero_le 0)))) (by decide), ?_⟩
  refine ⟨_, rfl, _, rfl, a, suA K, dx, _, rfl, upd_same, W.cl, na (by simp), Nat.lt_of_le_of_lt (putF_le (putF_le (putF_le (putF_le (Nat.zero_le 0))))) (by decide), ?_⟩
  refine ⟨_, rfl, _, rfl, a, suA K, dx, _, rfl, upd_same, W.cl, na (by simp), Nat.lt_of_le_of_lt (putF_le (putF_le (putF_le (putF_le (putF_le (Nat.zero_le 0)))))) (by decide), ?_⟩
  refine ⟨_, rfl, _, rfl, a, suA K, dx, _, rfl, upd_same, W.cl, na (by simp), Nat.lt_of_le_of_lt (putF_le (putF_le (putF_le (putF_le (putF_le (putF_le (Nat.zero_le 0))))))) (by decide), ?_⟩
  have z := k fb fk H10 S10
  simp only [upd_upd]
  show Q .non (upd H10 a (.ins (suA K) dx (putF "deadline" v6 (putF "span" v5 (putF "most" v4 (putF "strategy" v3 (putF "restart" v2 (putF "children" (.ref p) (putF "name" v1 [])))))))))
  rw [sflds_put]
  exact z
abbrev sKs : List Str := ["restart", "strategy", "most", "span", "deadline"]
def sDef : List (Str × V) := [("restart", .str "permanent"), ("strategy", .str "one"), ("most", .int 1), ("span", .int 10), ("deadline", .non)]
/-- the call by place and by name -/
abbrev spSMade (K : PySem.W.Frag) : SpK := fun vs zs H Q E => ∃ xs rest, vs = xs ++ rest ∧ xs.length = (["self", "name"] : List Str).length ∧ rest.length ≤ sizeLine ∧ ∀ p, H p = none → spSInit K (xs ++ zs ++ [V.ref p]) (upd H p (.tup rest)) Q E
theorem ok_sinit {fd : FuncData} (F : FunD K "__init__" "SupervisorPlan.__init__" (defArgs s_SupervisorPlan___init__) (defBody s_SupervisorPlan___init__) (defScope s_SupervisorPlan___init__) [] sDef (He.ma K (suA K) "__init__") fd) (T : Txt K mg) (W : Su K mg)
    (F_check_settings : FnQ P w K mg base (L2.CX P w) 2 "_check_settings" ["checks"] (spSettings K)) (F_is_place_name : FnQ P w K mg base CX0 2 "is_place_name" ["value"] (spChk K isPlace)) (F_is_one_of : FnQ P w K mg base CX0 1 "is_one_of" ["value", "words"] (spOne K))
    (F_is_between : FnQ P w K mg base CX0 2 "is_between" ["value", "low", "high"] (spBtw K)) (F_is_deadline : FnQ P w K mg base CX0 3 "_is_deadline" ["value"] (spChk K deadD)) (F_check_children : FnQ P w K mg base (L2.CX P w) 24 "_check_children" ["children"] (spKids K)) :
    FnRK P w K mg base (L2.CX P w) 25 (He.ma K (suA K) "__init__") sKs (spSMade K) := by
  obtain ⟨oc, od, dV, kV, doc, pm, an, cdv, ct, osl, rfl, lk, hcd, hD, hK⟩ := F.ex
  rcases hD with ⟨_, rfl⟩ | ⟨e, _⟩
  rotate_left
  · exact absurd rfl e
  refine fn_starK (N := N_SupervisorPlan___init__) (ps := ["self", "name"]) (ks := sKs) (pv := "children") lk hcd sc_SupervisorPlan___init__ StX.cxUp (fun us rest ws l1 l2 => ?_) fun A outer s H vs Q E hr h => sup_body T W hr F_check_settings F_is_place_name F_is_one_of F_is_between F_is_deadline F_check_children h
  match us, rest, ws, l1, l2 with
  | [_, _], [], [_, _, _, _, _], _, _ => rfl
  | [_, _], _ :: _, [_, _, _, _, _], _, _ => rfl
end
end K08
/-! data of plans as trees, the tuples and the plans that tell them -/
namespace K08
open PySem PySem.Spec PyProof.Rows L2
inductive Tr where
  | w (n r : Str) (o c : Int) (dl : V) (rf : Int) (sc : V) (sd : Dt)
  | s (n r st : Str) (mo sp : Int) (dl : V) (ks : List Tr)
def Tr.name : Tr → Str
  | .w n .. => n
  | .s n .. => n
mutual
def Tr.names : Tr → List Str
  | .w n _ _ _ _ _ _ _ => [n]
  | .s n _ _ _ _ _ ks => n :: Tr.namesL ks
def Tr.namesL : List Tr → List Str
  | [] => []
  | t :: ts => t.names ++ Tr.namesL ts
end
mutual
def Tr.pn : Tr → Pn
  | .w _ _ _ _ _ _ _ _ => .wrk
  | .s _ _ _ _ _ _ ks => .sup (Tr.pns ks)
def Tr.pns : List Tr → List Pn
  | [] => []
  | t :: ts => t.pn :: Tr.pns ts
end
def DlOk (v : V) : Prop := v = .non ∨ ∃ i : Int, v = .int i ∧ 0 ≤ i ∧ i ≤ 1000000000
/-- no list, no dict anywhere -/
def NmOk (n : Str) : Prop := isPlace (.str n) = true ∧ n.length ≤ 20
mutual
def solidD : Dt → Bool
  | .lst _ => false
  | .dic => false
  | .tup ds => solidAll ds
  | .wrk sc => solidD sc
  | _ => true
def solidAll : List Dt → Bool
  | [] => true
  | d :: ds => solidD d && solidAll ds
end
def restartsS : List Str := ["permanent", "transient", "temporary"]
def strategiesS : List Str := ["one", "rest", "all"]
mutual
def Tr.ok : Tr → Prop
  | .w n r o c dl rf _ sd => NmOk n ∧ r ∈ restartsS ∧ (0 ≤ o ∧ o ≤ 1000000000) ∧ (0 ≤ c ∧ c ≤ 1000000000) ∧ DlOk dl ∧ (0 ≤ rf ∧ rf ≤ 100) ∧ scriptD sd = true ∧ okSc sd = true ∧ sd = .tup []
  | .s n r st mo sp dl ks => NmOk n ∧ r ∈ restartsS ∧ st ∈ strategiesS ∧ (0 ≤ mo ∧ mo ≤ 20) ∧ (1 ≤ sp ∧ sp ≤ 1000000000) ∧ DlOk dl ∧ ks.length ≤ 4 ∧ Tr.oks ks
def Tr.oks : List Tr → Prop
  | [] => True
  | t :: ts => t.ok ∧ Tr.oks ts
end
/-- all but lists and dicts stays -/
def Solid (H H' : Hp) : Prop := ∀ b o, H b = some o → (∀ xs, o ≠ .lst xs) → (∀ kvs, o ≠ .dK kvs) → H' b = some o
theorem Solid.refl (H : Hp) : Solid H H := fun _ _ e _ _ => e
theorem Solid.trans {H H1 H2 : Hp} (s : Solid H H1) (t : Solid H1 H2) : Solid H H2 := fun b o e n1 n2 => t b o (s b o e n1 n2) n1 n2
theorem Solid.of_same {H H' : Hp} (s : Same H H') : Solid H H' := fun b o e _ _ => s b o e
theorem Solid.upd {H : Hp} {a : Addr} {o : HO} (h : (∃ xs, H a = some (.lst xs)) ∨ ∃ kvs, H a = some (.dK kvs)) : Solid H (upd H a o) := fun b u e n1 n2 => by
  rw [upd_ne]
  · exact e
  · rintro rfl
    rcases h with ⟨xs, h⟩ | ⟨kvs, h⟩
    · rw [h] at e; cases e; exact n1 _ rfl
    · rw [h] at e; cases e; exact n2 _ rfl
theorem But.solid {H H' : Hp} {a : Addr} (s : But a H H') (S : IsSrc H a) : Solid H H' := fun b o e n1 n2 => s b o e (by
  obtain ⟨c, n, r, h⟩ := S
  rintro rfl
  rw [h] at e
  cases e
  exact n2 _ rfl)
/-- the heap stays but for two objects -/
def But2 (a l : Addr) (H H' : Hp) : Prop := ∀ b o, H b = some o → b ≠ a → b ≠ l → H' b = some o
theorem But2.refl (a l : Addr) (H : Hp) : But2 a l H H := fun _ _ e _ _ => e
theorem But2.trans {a l : Addr} {H H1 H2 : Hp} (s : But2 a l H H1) (t : But2 a l H1 H2) : But2 a l H H2 := fun b o e n1 n2 => t b o (s b o e n1 n2) n1 n2
theorem But2.same {a l : Addr} {H H1 H2 : Hp} (s : But2 a l H H1) (t : Same H1 H2) : But2 a l H H2 := fun b o e n1 n2 => t b o (s b o e n1 n2)
theorem But.two {a : Addr} (l : Addr) {H H' : Hp} (s : But a H H') : But2 a l H H' := fun b o e n1 _ => s b o e n1
theorem But2.solid {H H' : Hp} {a l : Addr} {xs : List V} (s : But2 a l H H') (S : IsSrc H a) (h : H l = some (.lst xs)) : Solid H H' := fun b o e n1 n2 => by
  obtain ⟨c, n, r, ha⟩ := S
  refine s b o e ?_ ?_
  · rintro rfl
    rw [ha] at e; cases e; exact n2 _ rfl
  · rintro rfl
    rw [h] at e; cases e; exact n1 _ rfl
section
variable {K : PySem.W.Frag} {H H' : Hp}
theorem Solid.sqT {a : Addr} {xs : List V} (s : Solid H H') (h : SqT K H a xs) : SqT K H' a xs := by
  rcases h with (h | ⟨o, h⟩) | h
  · exact .inl (.inl (s _ _ h (fun _ z => nomatch z) fun _ z => nomatch z))
  · exact .inl (.inr ⟨o, s _ _ h (fun _ z => nomatch z) fun _ z => nomatch z⟩)
  · exact .inr h
mutual
theorem Dd.solid (s : Solid H H') : ∀ {v : V} {d : Dt}, Dd K H v d → solidD d = true → Dd K H' v d
  | _, _, .non, _ => .non
  | _, _, .bl b, _ => .bl b
  | _, _, .int i, _ => .int i
  | _, _, .str x h, _ => .str x h
  | _, _, .lst _ _, n => by simp [solidD] at n
  | _, _, .tup h t, n => .tup (s.sqT h) (DdAll.solid s t (by simpa [solidD] using n))
  | _, _, .dic _, n => by simp [solidD] at n
  | _, _, .wrk h l t o, n => .wrk (s _ _ h (fun _ z => nomatch z) fun _ z => nomatch z) l (Dd.solid s t (by simpa [solidD] using n)) o
  | _, _, .sup h, _ => .sup (s _ _ h (fun _ z => nomatch z) fun _ z => nomatch z)
theorem DdAll.solid (s : Solid H H') : ∀ {vs : List V} {ds : List Dt}, DdAll K H vs ds → solidAll ds = true → DdAll K H' vs ds
  | _, _, .nil, _ => .nil
  | _, _, .cons h t, n => .cons (Dd.solid s h (by simp [solidAll] at n; exact n.1)) (DdAll.solid s t (by simp [solidAll] at n; exact n.2))
end
mutual
/-- the tuple that tells a tree -/
inductive DTr (K : PySem.W.Frag) (H : Hp) : V → Tr → Prop
  | w {a : Addr} {n r : Str} {o c : Int} {dl : V} {rf : Int} {sc : V} {sd : Dt} : SqT K H a [.str "w", .str n, .str r, .int o, .int c, dl, .int rf, sc] → Dd K H sc sd → solidD sd = true → DTr K H (.ref a) (.w n r o c dl rf sc sd)
  | s {a k : Addr} {n r st : Str} {mo sp : Int} {dl : V} {vs : List V} {ks : List Tr} : SqT K H a [.str "s", .str n, .str r, .str st, .int mo, .int sp, dl, .ref k] → SqT K H k vs → DTrs K H vs ks → DTr K H (.ref a) (.s n r st mo sp dl ks)
inductive DTrs (K : PySem.W.Frag) (H : Hp) : List V → List Tr → Prop
  | nil : DTrs K H [] []
  | cons {v : V} {vs : List V} {t : Tr} {ts : List Tr} : DTr K H v t → DTrs K H vs ts → DTrs K H (v :: vs) (t :: ts)
end
mutual
theorem DTr.solid (s : Solid H H') : ∀ {v : V} {t : Tr}, DTr K H v t → DTr K H' v t
  | _, _, .w h d n => .w (s.sqT h) (Dd.solid s d n) n
  | _, _, .s h k t => .s (s.sqT h) (s.sqT k) (DTrs.solid s t)
theorem DTrs.solid (s : Solid H H') : ∀ {vs : List V} {ts : List Tr}, DTrs K H vs ts → DTrs K H' vs ts
  | _, _, .nil => .nil
  | _, _, .cons h t => .cons (DTr.solid s h) (DTrs.solid s t)
end
theorem DTrs.len : ∀ {vs : List V} {ts : List Tr}, DTrs K H vs ts → vs.length = ts.length
  | _, _, .nil => rfl
  | _, _, .cons _ t => by rw [List.length_cons, List.length_cons, DTrs.len t]
theorem DTrs.app : ∀ {vs ws : List V} {ts us : List Tr}, DTrs K H vs ts → DTrs K H ws us → DTrs K H (vs ++ ws) (ts ++ us)
  | _, _, _, _, .nil, g => g
  | _, _, _, _, .cons h t, g => .cons h (DTrs.app t g)
theorem DTrs.get : ∀ {vs : List V} {ts : List Tr}, DTrs K H vs ts → ∀ {i : Nat} {v : V}, vs[i]? = some v → ∃ t, ts[i]? = some t ∧ DTr K H v t
  | _, _, .nil, i, v, e => by simp at e
  | _, _, .cons h t, 0, v, e => by simp at e; exact ⟨_, rfl, e ▸ h⟩
  | _, _, .cons h t, i + 1, v, e => by simpa using DTrs.get t (by simpa using e)
mutual
/-- the plan of a tree -/
inductive PTr (K : PySem.W.Frag) (H : Hp) : V → Tr → Prop
  | w {a dx : Addr} {n r : Str} {o c : Int} {dl : V} {rf : Int} {sc sc2 : V} {sd : Dt} : H a = some (.ins (wkA K) dx (wflds (.str n) (.str r) (.int o) (.int c) dl (.int rf) sc2)) → Dd K H sc2 sd → solidD sd = true → PTr K H (.ref a) (.w n r o c dl rf sc sd)
  | s {a dx p : Addr} {n r st : Str} {mo sp : Int} {dl : V} {vs : List V} {ks : List Tr} : H a = some (.ins (suA K) dx (sflds (.str n) (.ref p) (.str r) (.str st) (.int mo) (.int sp) dl)) → SqT K H p vs → PTrs K H vs ks → PTr K H (.ref a) (.s n r st mo sp dl ks)
inductive PTrs (K : PySem.W.Frag) (H : Hp) : List V → List Tr → Prop
  | nil : PTrs K H [] []
  | cons {v : V} {vs : List V} {t : Tr} {ts : List Tr} : PTr K H v t → PTrs K H vs ts → PTrs K H (v :: vs) (t :: ts)
end
mutual
theorem PTr.solid (s : Solid H H') : ∀ {v : V} {t : Tr}, PTr K H v t → PTr K H' v t
  | _, _, .w h d n => .w (s _ _ h (fun _ z => nomatch z) fun _ z => nomatch z) (Dd.solid s d n) n
  | _, _, .s h k t => .s (s _ _ h (fun _ z => nomatch z) fun _ z => nomatch z) (s.sqT k) (PTrs.solid s t)
theorem PTrs.solid (s : Solid H H') : ∀ {vs : List V} {ts : List Tr}, PTrs K H vs ts → PTrs K H' vs ts
  | _, _, .nil => .nil
  | _, _, .cons h t => .cons (PTr.solid s h) (PTrs.solid s t)
end
theorem PTrs.len : ∀ {vs : List V} {ts : List Tr}, PTrs K H vs ts → vs.length = ts.length
  | _, _, .nil => rfl
  | _, _, .cons _ t => by rw [List.length_cons, List.length_cons, PTrs.len t]
theorem PTrs.app : ∀ {vs ws : List V} {ts us : List Tr}, PTrs K H vs ts → PTrs K H ws us → PTrs K H (vs ++ ws) (ts ++ us)
  | _, _, _, _, .nil, g => g
  | _, _, _, _, .cons h t, g => .cons h (PTrs.app t g)
mutual
theorem PTr.pt : ∀ {v : V} {t : Tr}, PTr K H v t → Pt K H v t.pn
  | _, _, .w h _ _ => .wrk h
  | _, _, .s h k t => .sup h (by kernel_rfl) k (PTrs.pt t)
theorem PTrs.pt : ∀ {vs : List V} {ts : List Tr}, PTrs K H vs ts → PtAll K H vs (Tr.pns ts)
  | _, _, .nil => .nil
  | _, _, .cons h t => .cons (PTr.pt h) (PTrs.pt t)
end
theorem pns_len : ∀ ts : List Tr, (Tr.pns ts).length = ts.length
  | [] => rfl
  | _ :: ts => by unfold Tr.pns; rw [List.length_cons, List.length_cons, pns_len ts]
end
mutual
theorem Tr.size_names : ∀ t : Tr, t.pn.size = t.names.length
  | .w _ _ _ _ _ _ _ _ => rfl
  | .s _ _ _ _ _ _ ks => by
    show 1 + Pn.sizes (Tr.pns ks) = (Tr.namesL ks).length + 1
    rw [Tr.sizes_names ks]; omega
theorem Tr.sizes_names : ∀ ts : List Tr, Pn.sizes (Tr.pns ts) = (Tr.namesL ts).length
  | [] => rfl
  | t :: ts => by
    show t.pn.size + Pn.sizes (Tr.pns ts) = (t.names ++ Tr.namesL ts).length
    rw [Tr.size_names t, Tr.sizes_names ts, List.length_append]
end
theorem namesL_app : ∀ (ts us : List Tr), Tr.namesL (ts ++ us) = Tr.namesL ts ++ Tr.namesL us
  | [], us => rfl
  | t :: ts, us => by
    show t.names ++ Tr.namesL (ts ++ us) = (t.names ++ Tr.namesL ts) ++ Tr.namesL us
    rw [namesL_app ts us, List.append_assoc]
theorem oks_app : ∀ {ts us : List Tr}, Tr.oks ts → Tr.oks us → Tr.oks (ts ++ us)
  | [], us, _, h => h
  | t :: ts, us, g, h => by
    unfold Tr.oks at g
    show t.ok ∧ Tr.oks (ts ++ us)
    exact ⟨g.1, oks_app g.2 h⟩
theorem lvs_le : ∀ {ts : List Tr} {n : Nat}, (∀ t ∈ ts, t.pn.lv ≤ n) → Pn.lvs (Tr.pns ts) ≤ n
  | [], n, _ => Nat.zero_le _
  | t :: ts, n, h => by
    show max t.pn.lv (Pn.lvs (Tr.pns ts)) ≤ n
    have a := h t List.mem_cons_self
    have b := lvs_le (ts := ts) fun u hu => h u (List.mem_cons_of_mem _ hu)
    omega
end K08
/-! y in x, y not in x, x an instance whose class has a def for it -/
namespace L2
open PySem PySem.Spec PyProof.Rows
section
variable {X : Cx} {CX : CXT} {n : Nat} {E : XK}
/-- y in x: the class's own def at g answers true or false -/
def rInOwn (P : Program) (w : World) (K : PySem.W.Frag) (mg : Str → Option Value) (base : Heap) (CX : CXT) (n : Nat) (E : XK) (neg : Bool) : R2 := fun y x H Q => ∃ (a C dx g : Addr) (fs : List (Str × V)) (sp : Sp), x = .ref a ∧ H a = some (.ins C dx fs) ∧
  PySem.W.findIn K (.ref C) "__contains__" = some (some (.ref g)) ∧ PySem.W.typeIn K (.ref g) = some (.type "function") ∧ FnR P w K mg base CX n g sp ∧ sp [.ref a, y] H (fun z H' => ∃ b : Bool, z = .bl b ∧ Q (.bl (if neg then !b else b)) H') E
theorem contains_own (hr : Room n X.A) (hx : Passes CX X E) {pins : List (Addr × Obj)} {s : Shared} {σ : St} {H : Hp} {y : V} {v : Value} {a : Addr} {Q : VK} {neg : Bool} (I : Inv X pins σ H s) (ry : RelV y v) (h : rInOwn X.prog X.w X.K X.mg X.base CX n E neg y (.ref a) H Q) :
    wpAny (model X.prog X.w) X.A (PySem.contains (.ref a) v) (fun b s' => EP X pins σ Q (.bool (if neg then !b else b)) s') X.xe s := by
  obtain ⟨a', C, dx, g, fs, sp, e', e, hs, hf, F, q⟩ := h
  cases e'
  obtain ⟨mA, I0, _⟩ := ins_get I.hok e
  obtain ⟨od, J, _⟩ := I0.look
  unfold PySem.contains
  refine wpAny_holding ?_
  refine wpAny_bind (m := specialOf (.ref a) (PySem.Str.ofString "__contains__")) (wpAny_bind (J.type.here ((PySem.W.looks_findIn I.kIn hs).here ?_)))
  show wpAny _ _ (if (some (Value.ref g) == some Value.none) = true then _ else _) _ _ _
  rw [if_neg (by simp)]
  refine wpAny_bind (m := callSpecialUnlessNone? _ _ _ _) ?_
  unfold callSpecialUnlessNone?
  refine wpAny_bind (wpAny_bind (J.type.here ((PySem.W.looks_findIn I.kIn hs).here ?_)))
  refine wpAny_holding (wpAny_bind ((PySem.W.bind_fn I.kIn _ hf).here ?_))
  show wpAny _ _ (if (Value.ref g == Value.none) = true then _ else _) _ _ _
  rw [if_neg (by simp)]
  refine wpAny_bind (wpAny_mono (wpAny_call (SlX.run_at (us := [.ref a, v]) (ws := [.ref a, y]) F hr I.env0 hx I (.cons rfl (.cons ry .nil)) q)) (fun w' s' z => ?_) fun _ _ x => x)
  obtain ⟨z', H', I', rz, b, eb, qz⟩ := z
  subst eb
  have et : w' = Value.bool b := rz
  subst et
  exact wpAny_pure (wpAny_truthy_bool ⟨.bl _, H', I', rfl, qz⟩)
theorem op_inOwn (hr : Room n X.A) (hx : Passes CX X E) : OpR X (compareOp .In) (rInOwn X.prog X.w X.K X.mg X.base CX n E false) := by
  intro pins s σ H y x v u Q I ry rx h
  obtain ⟨a, C, dx, g, fs, sp, rfl, hh⟩ := h
  obtain rfl : u = Value.ref a := rx
  show wpAny _ _ (PySem.contains (.ref a) v >>= fun b => pure (Value.bool b)) _ _ _
  refine wpAny_bind (wpAny_mono (contains_own hr hx I ry ⟨a, C, dx, g, fs, sp, rfl, hh⟩) (fun b s' z => wpAny_pure z) fun _ _ z => z)
theorem op_notInOwn (hr : Room n X.A) (hx : Passes CX X E) : OpR X (compareOp .NotIn) (rInOwn X.prog X.w X.K X.mg X.base CX n E true) := by
  intro pins s σ H y x v u Q I ry rx h
  obtain ⟨a, C, dx, g, fs, sp, rfl, hh⟩ := h
  obtain rfl : u = Value.ref a := rx
  show wpAny _ _ (PySem.contains (.ref a) v >>= fun b => pure (Value.bool (!b))) _ _ _
  refine wpAny_bind (wpAny_mono (contains_own hr hx I ry ⟨a, C, dx, g, fs, sp, rfl, hh⟩) (fun b s' z => wpAny_pure z) fun _ _ z => z)
end
end L2
/-! plans_in with the names, names, in -/
namespace K08
open PySem PySem.Spec PyProof.Rows L2
/-- a plan of this name -/
def Nm (K : PySem.W.Frag) (H : Hp) (v : V) (n : Str) : Prop := ∃ (a C dx : Addr) (fs : List (Str × V)), v = .ref a ∧ H a = some (.ins C dx fs) ∧ (C = wkA K ∨ C = suA K) ∧ fs.lookup ("name" : Str) = some (V.str n)
inductive NmAll (K : PySem.W.Frag) (H : Hp) : List V → List Str → Prop
  | nil : NmAll K H [] []
  | cons {v : V} {vs : List V} {n : Str} {ns : List Str} : Nm K H v n → NmAll K H vs ns → NmAll K H (v :: vs) (n :: ns)
section
variable {K : PySem.W.Frag} {H H' : Hp}
theorem Nm.same {v : V} {n : Str} (s : Same H H') (h : Nm K H v n) : Nm K H' v n := by
  obtain ⟨a, C, dx, fs, e, h, c, l⟩ := h
  exact ⟨a, C, dx, fs, e, s _ _ h, c, l⟩
theorem NmAll.same {vs : List V} {ns : List Str} (s : Same H H') (h : NmAll K H vs ns) : NmAll K H' vs ns := by
  induction h with
  | nil => exact .nil
  | cons h t ih => exact .cons (h.same s) ih
theorem NmAll.app {vs ws : List V} {ns ms : List Str} (h : NmAll K H vs ns) (g : NmAll K H ws ms) : NmAll K H (vs ++ ws) (ns ++ ms) := by
  induction h with
  | nil => exact g
  | cons h t ih => exact .cons h ih
theorem NmAll.len {vs : List V} {ns : List Str} (h : NmAll K H vs ns) : vs.length = ns.length := by
  induction h with
  | nil => rfl
  | cons h t ih => rw [List.length_cons, List.length_cons, ih]
theorem NmAll.get {vs : List V} {ns : List Str} (h : NmAll K H vs ns) : ∀ {i : Nat} {v : V}, vs[i]? = some v → ∃ n, ns[i]? = some n ∧ Nm K H v n := by
  induction h with
  | nil => intro i v e; simp at e
  | cons h t ih =>
    intro i v e
    cases i with
    | zero => simp at e; exact ⟨_, rfl, e ▸ h⟩
    | succ i => simpa using ih (by simpa using e)
theorem PTr.nm {v : V} {t : Tr} (h : PTr K H v t) : Nm K H v t.name := by
  cases h with
  | w h d s => exact ⟨_, _, _, _, rfl, h, .inl rfl, by kernel_rfl⟩
  | s h k t => exact ⟨_, _, _, _, rfl, h, .inr rfl, by kernel_rfl⟩
theorem PTrs.get : ∀ {vs : List V} {ts : List Tr}, PTrs K H vs ts → ∀ {i : Nat} {v : V}, vs[i]? = some v → ∃ t, ts[i]? = some t ∧ PTr K H v t
  | _, _, .nil, i, v, e => by simp at e
  | _, _, .cons h t, 0, v, e => by simp at e; exact ⟨_, rfl, e ▸ h⟩
  | _, _, .cons h t, i + 1, v, e => by simpa using PTrs.get t (by simpa using e)
theorem PTr.same {v : V} {t : Tr} (s : Same H H') (h : PTr K H v t) : PTr K H' v t := PTr.solid (Solid.of_same s) h
theorem PTrs.same {vs : List V} {ts : List Tr} (s : Same H H') (h : PTrs K H vs ts) : PTrs K H' vs ts := PTrs.solid (Solid.of_same s) h
end
theorem Tr.names_eq : ∀ t : Tr, ∃ r, t.names = t.name :: r
  | .w .. => ⟨[], rfl⟩
  | .s .. => ⟨_, rfl⟩
theorem namesL_take : ∀ {ts : List Tr} {i : Nat} {t : Tr}, ts[i]? = some t → Tr.namesL (ts.take (i + 1)) = Tr.namesL (ts.take i) ++ t.names
  | [], i, t, e => by simp at e
  | u :: us, 0, t, e => by
    simp at e
    subst e
    show u.names ++ Tr.namesL (us.take 0) = [] ++ u.names
    simp [Tr.namesL]
  | u :: us, i + 1, t, e => by
    have z := namesL_take (ts := us) (i := i) (t := t) (by simpa using e)
    show u.names ++ Tr.namesL (us.take (i + 1)) = (u.names ++ Tr.namesL (us.take i)) ++ t.names
    rw [z, List.append_assoc]
theorem pns_get : ∀ {ts : List Tr} {i : Nat} {t : Tr}, ts[i]? = some t → (Tr.pns ts)[i]? = some t.pn
  | [], i, t, e => by simp at e
  | u :: us, 0, t, e => by simp at e; subst e; rfl
  | u :: us, i + 1, t, e => by
    show (u.pn :: Tr.pns us)[i + 1]? = _
    simpa using pns_get (ts := us) (i := i) (by simpa using e)
theorem lv_kid {ts : List Tr} {i : Nat} {t : Tr} {n r st : Str} {mo sp : Int} {dl : V} {m : Nat} (e : ts[i]? = some t) (lv : (Tr.s n r st mo sp dl ts).pn.lv ≤ m + 1) : t.pn.lv ≤ m := by
  have z := Pn.lvs_get (pns_get e)
  have y : (Tr.s n r st mo sp dl ts).pn.lv = 1 + Pn.lvs (Tr.pns ts) := rfl
  omega
theorem names_kid : ∀ {ts : List Tr} {i : Nat} {t : Tr}, ts[i]? = some t → t.names.length ≤ (Tr.namesL ts).length
  | [], i, t, e => by simp at e
  | u :: us, 0, t, e => by
    simp at e
    subst e
    show _ ≤ (u.names ++ Tr.namesL us).length
    rw [List.length_append]; omega
  | u :: us, i + 1, t, e => by
    have z := names_kid (ts := us) (i := i) (t := t) (by simpa using e)
    show _ ≤ (u.names ++ Tr.namesL us).length
    rw [List.length_append]; omega
section
variable {P : Program} {w : World} {K : PySem.W.Frag} {mg : Str → Option Value} {base : Heap}
abbrev s_names : Stmt := (top 60)
def N_names : List Str := ["plan", "one"]
theorem sc_names : FnScope N_names ["plan"] (defScope s_names) := ⟨rfl, rfl, rfl, by decide +kernel, rfl, by decide +kernel, by decide +kernel⟩
/-- what reading the classes' fields needs -/
structure Pl (K : PySem.W.Frag) : Prop where
  cw : Cls K (wkA K)
  cs : Cls K (suA K)
  nw : ∀ f ∈ (["name", "restart", "opening", "closing", "deadline", "refused", "script"] : List Str), NoAttr K (wkA K) f
  ns : ∀ f ∈ (["name", "children", "restart", "strategy", "most", "span", "deadline"] : List Str), NoAttr K (suA K) f
/-- a plan of at most n levels: its list, with the names -/
def spPlansF (K : PySem.W.Frag) (n : Nat) : Sp := fun vs H Q _ => ∃ v t, vs = [v] ∧ PTr K H v t ∧ t.pn.lv ≤ n ∧ t.names.length ≤ 100000 ∧ ∀ l xs H', Same H H' → H l = none → H' l = some (.lst xs) → NmAll K H' xs t.names → Q (.ref l) H'
theorem ok_plansF (F : Has K mg "plans_in" s_plans_in) (T : Txt K mg) (L : Pl K) : ∀ n, FnQ P w K mg base CX0 (n + 1) "plans_in" ["plan"] (spPlansF K n) := by
  intro n
  induction n with
  | zero =>
    refine F.q sc_plans_in (fun _ _ _ _ _ _ us hl => match us, hl with | [_], _ => rfl) (fun vs H Q E h => by obtain ⟨_, _, rfl, _⟩ := h; rfl) (fun cdv A outer s H vs Q E hr h => ?_)
    obtain ⟨v, t, _, _, lv, _⟩ := h
    have := t.pn.lv_pos
    omega
  | succ n F_plans_in =>
    refine F.q sc_plans_in (fun _ _ _ _ _ _ us hl => match us, hl with | [_], _ => rfl) (fun vs H Q E h => by obtain ⟨_, _, rfl, _⟩ := h; rfl) (fun cdv A outer s H vs Q E hr h => ?_)
    obtain ⟨v, t, rfl, hv, lv, sz, k⟩ := h
    have gI : mg "isinstance" = none := T.fr _ (by simp [frees])
    refine ⟨_, PSs.nox (pss_cons (ps_set (i := 1) sc_plans_in.nd rfl (by first | exact .inl rfl | exact .inr rfl) (pe_lstM (pa_cons (pv 0) pa_nil)))
  (pss_cons (ps_if (pt_val (pe_callB call_isi (by rfl) gI boot_isinstance (pa_cons (pv 0) (pa_cons (C8.pe_gc (by rfl) T.c_SupervisorPlan) pa_nil))))
  (pss_one (ps_for PassesOwn.never rfl (pi_tup (pe_fld (pv 0) rfl)) (pg_name (i := 2) sc_plans_in.nd rfl (by first | exact .inl rfl | exact .inr rfl))
  (pss_one (ps_expr (pe_bm PySem.F.plainAttrs_list PySem.F.slot_list_extend PySem.F.type_list_extend mt_extend (pv 1) (pa_cons (pe_f F_plans_in hr pass0 (pa_cons (pv 2) pa_nil) (hj := Nat.le_refl _)) pa_nil))))))
  pss_nil)
  (pss_one (ps_ret (pv 1))))), ?_⟩
    refine ⟨_, rfl, (by show 1 ≤ sizeLine; decide), fun l G1 s1 n1 e1 => ?_⟩
    refine ⟨_, rfl, _, _, _, _, _, rfl, .own _, (hv.pt.same s1).ty T.pk, T.pk.kit _ 6 (kt_lt _) (by decide), _, rfl, ?_⟩
    have hn := hv.nm
    cases hv with
    | w h d so =>
      exact if_no rfl ⟨_, rfl, k l _ G1 s1 n1 e1 (.cons (hn.same s1) .nil)⟩
    | @s a dx c nm rs st mo sp dl xs ts h q ha =>
      refine if_yes rfl ?_
      have lx := ha.len
      refine ⟨_, rfl, a, suA K, dx, _, .ref c, rfl, s1 _ _ h, L.cs, L.ns _ (by simp), by kernel_rfl, c, rfl, ⟨_, s1.sqT q⟩, for_it walk_tup (fun i σ G => (∃ v2, σ = [some (.ref a), some (.ref l), v2]) ∧ Same H G ∧ ∃ acc, G l = some (.lst acc) ∧ NmAll K G acc (nm :: Tr.namesL (ts.take i))) ⟨⟨none, rfl⟩, s1, _, e1, .cons (hn.same s1) .nil⟩ (fun i σ G _ h => h.2.1.sqT q) ?_ ?_⟩
      · rintro i x σ G1 G2 hi ⟨⟨v2, rfl⟩, s2, acc, e2, l2⟩ ⟨rfl, ex⟩
        obtain ⟨tc, et, ht⟩ := ha.get ex
        have zn := names_kid et
        have zt : (Tr.s nm rs st mo sp dl ts).names.length = (Tr.namesL ts).length + 1 := rfl
        refine ⟨_, rfl, .inl ⟨rfl, _, SqL.of e2⟩, _, rfl, x, tc, rfl, ht.same s2, lv_kid et lv, by omega, fun l2' ys G3 s3 n3 e3 ly => ?_⟩
        have la := l2.len
        have lb := ly.len
        have lc := namesL_take et
        have ld : (Tr.namesL (ts.take (i + 1))).length ≤ (Tr.namesL ts).length := by
          have e5 : ts = ts.take (i + 1) ++ ts.drop (i + 1) := (List.take_append_drop _ _).symm
          have e6 := congrArg (fun us => (Tr.namesL us).length) e5
          simp only [namesL_app, List.length_append] at e6
          omega
        have le := congrArg List.length lc
        rw [List.length_append] at le
        rw [List.length_cons] at la
        refine ⟨l, l2', acc, ys, rfl, rfl, s3 _ _ e2, e3, Nat.le_trans (show acc.length + ys.length ≤ 100000 by omega) (by decide), ?_⟩
        have so : Solid G3 (upd G3 l (.lst (acc ++ ys))) := Solid.upd (.inl ⟨_, s3 _ _ e2⟩)
        have keep : ∀ {vs ns}, NmAll K G3 vs ns → NmAll K (upd G3 l (.lst (acc ++ ys))) vs ns := fun h => by
          induction h with
          | nil => exact .nil
          | cons h t ih =>
            obtain ⟨a1, C1, dx1, fs1, q1, q2, q3, q4⟩ := h
            exact .cons ⟨a1, C1, dx1, fs1, q1, so _ _ q2 (fun _ z => nomatch z) (fun _ z => nomatch z), q3, q4⟩ ih
        refine ⟨⟨_, rfl⟩, same_putN (s2.trans s3) n1, _, upd_same, ?_⟩
        rw [lc]
        exact (keep (l2.same s3)).app (keep ly)
      · rintro σ G ⟨⟨v2, rfl⟩, s2, acc, e2, l2⟩
        refine ⟨_, rfl, k l acc G s2 n1 e2 ?_⟩
        rw [lx, List.take_length] at l2
        exact l2
/-- the tuple of the names -/
def spNames (K : PySem.W.Frag) (n : Nat) : Sp := fun vs H Q _ => ∃ v t, vs = [v] ∧ PTr K H v t ∧ t.pn.lv ≤ n ∧ t.names.length ≤ 100000 ∧ ∀ p H', Same H H' → SqT K H' p (t.names.map V.str) → Q (.ref p) H'
theorem ok_names {n : Nat} (F : Has K mg "names" s_names) (T : Txt K mg) (L : Pl K) (F_plans_in : FnQ P w K mg base CX0 (n + 1) "plans_in" ["plan"] (spPlansF K n)) : FnQ P w K mg base CX0 (n + 2) "names" ["plan"] (spNames K n) := by
  refine F.q sc_names (fun _ _ _ _ _ _ us hl => match us, hl with | [_], _ => rfl) (fun vs H Q E h => by obtain ⟨_, _, rfl, _⟩ := h; rfl) (fun cdv A outer s H vs Q E hr h => ?_)
  obtain ⟨v, t, rfl, hv, lv, sz, k⟩ := h
  refine ⟨_, PSs.nox (pss_one (ps_ret (pe_callTy call_tuple_of (by rfl) (T.fr "tuple" (by simp [frees])) PyProof.Rows.boot_tuple (pa_cons (pe_lc (own := [("one", 1)]) (tt := tYes) rfl sc_names.nd (pi_list (pe_f F_plans_in hr pass0 (pa_cons (pv 0) pa_nil) (hj := Nat.le_refl _))) (blkOk_by (N := N_names) (sc := defScope s_names) (by decide +kernel)) (fun _ _ _ _ _ => (pg_name (i := 1) sc_names.nd rfl (by first | exact .inl rfl | exact .inr rfl))) (fun _ _ _ _ _ => pts_nil) (fun _ _ _ _ _ => (pe_fldK K (pv 1) rfl))) pa_nil)))), ?_⟩
  refine ⟨_, rfl, v, t, rfl, hv, lv, sz, fun l xs G s1 n1 e1 hn => ⟨l, rfl, ⟨_, SqL.of e1⟩, ?_⟩⟩
  have lx := hn.len
  refine comp_val walk_list (f := fun i => .str (t.names[i]?.getD Str.empty)) (by rw [lx]; exact Nat.lt_of_le_of_lt sz (by decide)) (fun G' g => SqL.of (g _ _ e1)) (fun i H x H' y b o e => by rw [y.1]; exact e) ?_ ?_
  · rintro i x G1 G2 R hi s2 ⟨rfl, ex⟩ r
    obtain ⟨nm, en, a, C, dx, fs, rfl, ha, hc, lk⟩ := hn.get ex
    have z := r _ (Same.refl _)
    simp only [en, Option.getD_some] at z
    refine ⟨rfl, _, rfl, a, C, dx, fs, _, rfl, s2 _ _ ha, ?_, ?_, lk, z⟩
    · rcases hc with rfl | rfl
      · exact L.cw
      · exact L.cs
    · rcases hc with rfl | rfl
      · exact L.nw _ (by simp)
      · exact L.ns _ (by simp)
  · intro p G2 s2 n2 e2
    have em : (List.range xs.length).map (fun i => V.str (t.names[i]?.getD Str.empty)) = t.names.map V.str := by
      rw [lx]
      refine List.ext_getElem? fun i => ?_
      by_cases c : i < t.names.length
      · simp [List.getElem?_range c, List.getElem?_eq_getElem c]
      · simp [List.getElem?_eq_none (Nat.le_of_not_lt c), List.getElem?_eq_none (l := List.range t.names.length) (by simpa using Nat.le_of_not_lt c)]
    rw [em] at e2
    refine ⟨p, _, rfl, .inl ⟨SqL.of e2, fun q nq => ?_⟩⟩
    exact k q _ ((s1.trans s2).trans (Same.new nq)) (SqT.of upd_same)
end
end K08
/-! _law_words -/
namespace K08
open PySem PySem.Spec PyProof.Rows L2
theorem at_g {α : Type} {xs : List α} {i : Int} {j : Nat} {v : α} (e : i = (j : Int)) (h : xs[j]? = some v) : atI xs i = some v := by rw [e]; exact atI_nat h
def alphaS : Str := "abcdefghijklmnopqrstuvwxyz"
def tails : List Str := ["", "_", "0", "x9"]
def letterAt (k : Nat) : Str := match alphaS.cps.toList[k % 26]? with
  | some c => ⟨#[c]⟩
  | none => ""
def stemOf (way k : Nat) : Str := letterAt k ++ tails.getD way ""
def longOf (way k : Nat) : Str := if 0 < way ∨ 25 < k then stemOf way k ++ PySem.Str.ofString (toString ((k / 26 : Nat) : Int)) else stemOf way k
def wordOf (way k : Nat) : Str := if way = 3 then cutS (longOf way k ++ "_name_of_twenty_signs") none (some 20) else longOf way k
def wordsOf (way n : Nat) : List Str := (List.range n).map (wordOf way)
def mostW : Nat := 40
theorem word_ok : ∀ way, way < 4 → ∀ k, k < mostW → isPlace (.str (wordOf way k)) = true ∧ (wordOf way k).length ≤ 20 ∧ (longOf way k).length ≤ 20 ∧ (stemOf way k).length ≤ 20 ∧ (letterAt k).length ≤ 20 ∧ (PySem.Str.ofString (toString ((k / 26 : Nat) : Int))).length ≤ 20 := by decide +kernel
theorem words_once : ∀ way, way < 4 → ((List.range mostW).map (wordOf way)).Nodup := by decide +kernel
theorem words_nodup {way n : Nat} (hw : way < 4) (hn : n ≤ mostW) : (wordsOf way n).Nodup := by
  unfold wordsOf
  have e : List.range n = (List.range mostW).take n := by rw [List.take_range, Nat.min_eq_left hn]
  rw [e, List.map_take]
  exact (words_once way hw).sublist (List.take_sublist _ _)
section
variable {P : Program} {w : World} {K : PySem.W.Frag} {mg : Str → Option Value} {base : Heap}
abbrev s_law_words : Stmt := (top 98)
def N_law_words : List Str := ["m", "many", "way", "found", "k", "word"]
theorem sc_law_words : FnScope N_law_words ["m", "many"] (defScope s_law_words) := ⟨rfl, rfl, rfl, by decide +kernel, rfl, by decide +kernel, by decide +kernel⟩
/-- so many words -/
def spWords (K : PySem.W.Frag) : Sp := fun vs H Q _ => ∃ (a c : Addr) (ns : List Int) (m : Int) (n : Nat), vs = [.ref a, .int (n : Nat)] ∧ Src K H a c ns m ∧ m ≤ 900000 ∧ n ≤ mostW ∧
  ∀ (way : Nat) l H', way < 4 → H' l = some (.lst ((wordsOf way n).map V.str)) → H l = none → Src K H' a c ns (m + 1) → But a H H' → Q (.ref l) H'
theorem ok_words (F : Has K mg "_law_words" s_law_words) (T : Txt K mg) (F_law_next : FnQ P w K mg base CX0 1 "_law_next" ["m", "total"] (spNext K)) : FnQ P w K mg base CX0 2 "_law_words" ["m", "many"] (spWords K) := by
  refine F.q sc_law_words (fun _ _ _ _ _ _ us hl => match us, hl with | [_, _], _ => rfl) (fun vs H Q E h => by obtain ⟨_, _, _, _, _, rfl, _⟩ := h; rfl) (fun cdv A outer s H vs Q E hr h => ?_)
  obtain ⟨a, c, ns, m, n, rfl, S, hm, hn, k⟩ := h
  have n40 : n ≤ 40 := hn
  refine ⟨_, PSs.nox (pss_cons (ps_swap (is := [2, 3]) rfl sc_law_words.nd (pe_tupM (pa_cons (pe_f F_law_next hr pass0 (pa_cons (pv 0) (pa_cons pe_int pa_nil))) (pa_cons (pe_lstM pa_nil) pa_nil))) (.cons rfl (.inl rfl) (.inr rfl) (.cons rfl (.inl rfl) (.inr rfl) .nil)))
  (pss_cons (ps_for PassesOwn.never rfl (pi_range1 (by rfl) (T.fr "range" (by simp [frees])) (pa_cons (pv 1) pa_nil)) (pg_name (i := 4) sc_law_words.nd rfl (by first | exact .inl rfl | exact .inr rfl))
  (pss_cons (ps_set (i := 5) sc_law_words.nd rfl (by first | exact .inl rfl | exact .inr rfl) (pe_op op_add_str (pe_ix ix_str pe_str (pe_op op_mod (pe_callTy call_int1 (by rfl) (T.fr "int" (by simp [frees])) PyProof.Rows.boot_int (pa_cons (pv 4) pa_nil)) pe_int) (fun _ _ => rfl)) (pe_ix ix_list (pe_lstM (pa_cons pe_str (pa_cons pe_str (pa_cons pe_str (pa_cons pe_str pa_nil))))) (pv 2) (fun _ _ => rfl))))
  (C8.pss_cut (ps_if (pw_or (pt_cmpR op_gt (pv 2) pe_int (by first | exact nomark _ | rfl)) (pw_or1 (pt_cmpR op_gt (pv 4) pe_int (by first | exact nomark _ | rfl)))).pt
  (pss_one (ps_set (i := 5) sc_law_words.nd rfl (by first | exact .inl rfl | exact .inr rfl) (pe_op op_add_str (pv 5) (pe_callTy call_str_int (by rfl) (T.fr "str" (by simp [frees])) PyProof.Rows.boot_str (pa_cons (pe_op op_fdiv (pv 4) pe_int) pa_nil)))))
  pss_nil)
  (pss_one (ps_expr (pe_bm PySem.F.plainAttrs_list PySem.F.slot_list_append PySem.F.type_list_append mt_append (pv 3) (pa_cons (pe_ifExp (pt_cmpR op_eq (pv 2) pe_int (by first | exact nomark _ | rfl)) (pe_slice sl_str (pe_op op_add_str (pv 5) pe_str) po_none (po_some pe_int)) (pv 5)) pa_nil)))))))
  (pss_one (ps_ret (pv 3))))), ?_⟩
  refine ⟨_, rfl, a, c, ns, m, 4, rfl, S, by omega, by decide, by decide, fun way H1 lw S1 b1 => ?_⟩
  refine ⟨(by show 0 ≤ sizeLine; decide), fun l H2 s2 n2 e2 => ⟨(by show 2 ≤ sizeLine; decide), fun tq H3 s3 n3 e3 => ⟨tq, _, rfl, SqT.of e3, rfl, ?_⟩⟩⟩
  have S3 := (S1.same s2).same s3
  have nl : H l = none := by
    cases q : H l with
    | none => rfl
    | some o =>
      obtain ⟨⟨n4, r, e, _⟩, _⟩ := S1
      have := b1 l o q (fun z => by rw [z, e] at n2; cases n2)
      rw [this] at n2; cases n2
  have b3 : But a H H3 := (b1.same s2).same s3
  have way4 : way < 4 := by omega
  refine ⟨_, rfl, (n : Int), rfl, by omega, by omega, for_range (n := n) (fun i σ G => ∃ v4 v5, σ = [some (.ref a), some (.int (n : Nat)), some (.int (way : Nat)), some (.ref l), v4, v5] ∧ G l = some (.lst ((wordsOf way i).map V.str)) ∧ Src K G a c ns (m + 1) ∧ But a H G)
    ⟨none, none, rfl, s3 _ _ e2, S3, b3⟩ ?_ ?_⟩
  · rintro i σ G hi ⟨v4, v5, rfl, el, SG, bG⟩
    obtain ⟨w1, w2, w3, w4, w5, w6⟩ := word_ok way way4 i (Nat.lt_of_lt_of_le hi hn)
    have e26 : (0 + (i : Int)) % 26 = ((i % 26 : Nat) : Int) := by omega
    have f26 : (0 + (i : Int)) / 26 = ((i / 26 : Nat) : Int) := by omega
    obtain ⟨cp, hcp⟩ : ∃ cp, alphaS.cps.toList[i % 26]? = some cp := by
      have lt : i % 26 < alphaS.cps.toList.length := Nat.lt_of_lt_of_le (Nat.mod_lt _ (by decide)) (by decide +kernel)
      exact ⟨_, List.getElem?_eq_getElem lt⟩
    have el1 : letterAt i = ⟨#[cp]⟩ := by unfold letterAt; rw [hcp]
    have big : (20 : Nat) ≤ sizeLine := by decide
    refine ⟨_, rfl, .inl ⟨_, rfl, _, _, rfl, rfl, (by show (0 : Int) < 26; decide), alphaS, _, cp, rfl, rfl, (by decide +kernel), at_g e26 hcp, ?_⟩⟩
    refine ⟨(by show 4 ≤ sizeLine; decide), fun p G1 s1 n1 e1 => ?_⟩
    obtain ⟨tl, htl, etl⟩ : ∃ tl : Str, [V.str "", .str "_", .str "0", .str "x9"][way]? = some (.str tl) ∧ tails.getD way "" = tl := by
      rcases way with _ | _ | _ | _ | way
      · exact ⟨_, rfl, rfl⟩
      · exact ⟨_, rfl, rfl⟩
      · exact ⟨_, rfl, rfl⟩
      · exact ⟨_, rfl, rfl⟩
      · omega
    have st : (⟨#[cp]⟩ : Str) ++ tl = stemOf way i := by unfold stemOf; rw [el1, etl]
    have l0 : (⟨#[cp]⟩ : Str).length + tl.length ≤ sizeLine := by
      have q : tl.length ≤ 2 := by
        have : tl ∈ tails := by
          rcases way with _ | _ | _ | _ | way
          all_goals first | (rw [← etl]; decide +kernel) | omega
        have all : ∀ x ∈ tails, x.length ≤ 2 := by decide +kernel
        exact all _ this
      rw [el1] at w5
      exact Nat.le_trans (Nat.add_le_add w5 q) (by decide)
    refine ⟨_, rfl, p, _, _, _, rfl, rfl, SqL.of e1, at_g rfl htl, _, _, rfl, rfl, l0, ?_⟩
    rw [st]
    have SG1 := SG.same s1
    have bG1 := bG.same s1
    have el' := s1 _ _ el
    refine ⟨fun σ G => ∃ v4, σ = [some (.ref a), some (.int (n : Nat)), some (.int (way : Nat)), some (.ref l), some v4, some (.str (longOf way i))] ∧ G l = some (.lst ((wordsOf way i).map V.str)) ∧ Src K G a c ns (m + 1) ∧ But a H G, ?_, ?_⟩
    · have step : ∀ {R : Prop}, (0 < way ∨ 25 < i → R) → (¬ (0 < way ∨ 25 < i) → R) → R := fun {R} y n => Classical.byCases y n
      have lg : (((i / 26 : Nat) : Int)).natAbs.log2 < 1920 := Nat.lt_of_le_of_lt (Nat.log2_le_self _) (by show i / 26 < 1920; omega)
      have yes : 0 < way ∨ 25 < i → longOf way i = stemOf way i ++ PySem.Str.ofString (toString ((i / 26 : Nat) : Int)) := fun h => by unfold longOf; rw [if_pos h]
      refine ⟨_, rfl, _, _, rfl, rfl, _, rfl, ?_⟩
      by_cases c1 : 0 < way
      · refine if_yes (decide_eq_true (by omega)) ?_
        refine ⟨_, rfl, _, rfl, _, _, rfl, rfl, ⟨by decide, by decide⟩, _, rfl, ?_⟩
        rw [f26]
        exact ⟨lg, _, _, rfl, rfl, Nat.le_trans (Nat.add_le_add w4 w6) (by decide), _, by rw [yes (.inl c1)]; rfl, el', SG1, bG1⟩
      · refine if_no (decide_eq_false (by omega)) ?_
        refine ⟨_, rfl, _, _, rfl, rfl, _, rfl, ?_⟩
        by_cases c2 : 25 < i
        · refine if_yes (decide_eq_true (by omega)) ?_
          refine ⟨_, rfl, _, rfl, _, _, rfl, rfl, ⟨by decide, by decide⟩, _, rfl, ?_⟩
          rw [f26]
          exact ⟨lg, _, _, rfl, rfl, Nat.le_trans (Nat.add_le_add w4 w6) (by decide), _, by rw [yes (.inr c2)]; rfl, el', SG1, bG1⟩
        · refine if_no (decide_eq_false (by omega)) ?_
          have no : longOf way i = stemOf way i := by unfold longOf; rw [if_neg (by omega)]
          exact ⟨_, by rw [no]; rfl, el', SG1, bG1⟩
    rintro σ G2 ⟨u4, rfl, el2, SG2, bG2⟩
    have fin : ∀ x, x = wordOf way i → ∃ v4 v5, [some (V.ref a), some (.int (n : Nat)), some (.int (way : Nat)), some (.ref l), some u4, some (.str (longOf way i))] = [some (.ref a), some (.int (n : Nat)), some (.int (way : Nat)), some (.ref l), v4, v5] ∧ (upd G2 l (.lst ((wordsOf way i).map V.str ++ [.str x]))) l = some (.lst ((wordsOf way (i + 1)).map V.str)) ∧ Src K (upd G2 l (.lst ((wordsOf way i).map V.str ++ [.str x]))) a c ns (m + 1) ∧ But a H (upd G2 l (.lst ((wordsOf way i).map V.str ++ [.str x]))) := by
      rintro x rfl
      refine ⟨_, _, rfl, ?_, ?_, fun b o e nb => by rw [upd_ne (ne_of_none e nl)]; exact bG2 b o e nb⟩
      · rw [upd_same]
        unfold wordsOf
        rw [List.range_succ, List.map_append, List.map_append]
        rfl
      · have na : a ≠ l := (SG2.is.ne el2 fun _ _ _ z => nomatch z).symm
        obtain ⟨⟨n4, r, e, q⟩, cs, few⟩ := SG2
        refine ⟨⟨n4, r, by rw [upd_ne na]; exact e, q⟩, ?_, few⟩
        rcases cs with ⟨o, h2⟩ | h2
        · exact .inl ⟨o, by rw [upd_ne (by rintro rfl; rw [el2] at h2; cases h2)]; exact h2⟩
        · exact .inr h2
    have ll : ((wordsOf way i).map V.str).length < sizeLine := by
      unfold wordsOf
      rw [List.length_map, List.length_map, List.length_range]
      exact Nat.lt_of_lt_of_le (show i < 40 by omega) (by decide)
    refine ⟨_, rfl, .inl ⟨rfl, _, SqL.of el2⟩, _, rfl, rfl, _, rfl, ?_⟩
    by_cases c3 : way = 3
    · refine if_yes (decide_eq_true (by rw [c3]; rfl)) ?_
      refine ⟨_, rfl, _, _, rfl, rfl, Nat.le_trans (Nat.add_le_add w3 (show ("_name_of_twenty_signs" : Str).length ≤ 30 by decide +kernel)) (by decide), 20, rfl, _, rfl, ?_, l, _, _, rfl, rfl, el2, ll, fin _ (by unfold wordOf; rw [if_pos c3])⟩
      exact Nat.le_trans (show (longOf way i ++ ("_name_of_twenty_signs" : Str)).length ≤ 60 from by
        have z := Nat.add_le_add w3 (show ("_name_of_twenty_signs" : Str).length ≤ 30 by decide +kernel)
        have : (longOf way i ++ ("_name_of_twenty_signs" : Str)).length = (longOf way i).length + ("_name_of_twenty_signs" : Str).length := by
          show ((longOf way i).cps ++ ("_name_of_twenty_signs" : Str).cps).size = _
          rw [Array.size_append]; rfl
        omega) (by decide)
    · refine if_no (decide_eq_false (by intro z; injection z with z; omega)) ?_
      exact ⟨_, rfl, l, _, _, rfl, rfl, el2, ll, fin _ (by unfold wordOf; rw [if_neg c3])⟩
  · rintro σ G ⟨v4, v5, rfl, el, SG, bG⟩
    exact ⟨_, rfl, k way l G way4 el nl SG bG⟩
end
end K08
/-! displays of data: what an expression makes, told by the data -/
namespace L2
open PySem PySem.Spec PyProof.Rows
/-- the heap without one address -/
def hide (l : Option Addr) (H : Hp) : Hp := fun b => if l = some b then none else H b
theorem hide_none (H : Hp) : hide none H = H := by
  funext b
  unfold hide
  rw [if_neg (by simp)]
theorem hide_get {l : Option Addr} {H : Hp} {b : Addr} {o : HO} (h : hide l H b = some o) : H b = some o ∧ l ≠ some b := by
  unfold hide at h
  split at h
  · cases h
  · rename_i n
    exact ⟨h, n⟩
theorem hide_at {l : Option Addr} {H : Hp} {b : Addr} (h : l ≠ some b) : hide l H b = H b := if_neg h
theorem hide_sub (l : Option Addr) (H : Hp) : Same (hide l H) H := fun b o e => (hide_get e).1
theorem hide_same {l : Option Addr} {H H' : Hp} (s : Same H H') : Same (hide l H) (hide l H') := fun b o e => by
  rw [hide_at (hide_get e).2]
  exact s _ _ (hide_get e).1
/-- what is hidden stands -/
def Stands (l : Option Addr) (H : Hp) : Prop := ∀ a, l = some a → ∃ o, H a = some o
theorem Stands.same {l : Option Addr} {H H' : Hp} (h : Stands l H) (s : Same H H') : Stands l H' := fun a e => (h a e).elim fun o q => ⟨o, s _ _ q⟩
theorem Stands.ne {l : Option Addr} {H : Hp} (h : Stands l H) {p : Addr} (n : H p = none) : l ≠ some p := fun e => by
  obtain ⟨o, q⟩ := h p e
  rw [n] at q
  cases q
/-- a new object at p: what stood ahead stands without it -/
theorem hide_new {H H' : Hp} {p : Addr} (s : Same H H') (n : H p = none) : Same H (hide (some p) H') := fun b o e => by
  rw [hide_at (fun z => by cases z; rw [n] at e; cases e)]
  exact s _ _ e
/-- e makes the data d; J: what is asked of the slots -/
def MkD (X : Cx) (J : St → Hp → Prop) (e : Expr) (d : Dt) : Prop := ∃ te, PE X e te ∧ ∀ (σ : St) (H : Hp) (Q : VK) (l : Option Addr), Stands l H → J σ (hide l H) → (∀ v H', Same H H' → Dd X.K (hide l H') v d → Q v H') → te σ H Q
def MkDA (X : Cx) (J : St → Hp → Prop) (es : List Expr) (ds : List Dt) : Prop := ∃ ta, PA X es ta ∧ ∀ (σ : St) (H : Hp) (Q : List V → Hp → Prop) (l : Option Addr), Stands l H → J σ (hide l H) → (∀ vs H', Same H H' → DdAll X.K (hide l H') vs ds → Q vs H') → ta σ H Q
def Keeps (J : St → Hp → Prop) : Prop := ∀ σ H H', Same H H' → J σ H → J σ H'
section
variable {X : Cx} {J : St → Hp → Prop}
theorem md_non {j : Nat} {p : Pos} : MkD X J (.Constant .none j p) .non := ⟨_, pe_non, fun σ H Q l st j k => k _ H (Same.refl H) .non⟩
theorem md_bl {b : Bool} {j : Nat} {p : Pos} : MkD X J (.Constant (.bool b) j p) (.bl b) := ⟨_, pe_bl, fun σ H Q l st j k => k _ H (Same.refl H) (.bl b)⟩
theorem md_int {i : Int} {j : Nat} {p : Pos} : MkD X J (.Constant (.int i) j p) (.int i) := ⟨_, pe_int, fun σ H Q l st j k => k _ H (Same.refl H) (.int i)⟩
theorem md_str {x : Str} {j : Nat} {p : Pos} (h : x.length ≤ 1000 := by decide) : MkD X J (.Constant (.str x) j p) (.str x) := ⟨_, pe_str, fun σ H Q l st j k => k _ H (Same.refl H) (.str x h)⟩
theorem mdA_nil : MkDA X J [] [] := ⟨_, pa_nil, fun σ H Q l st j k => k _ H (Same.refl H) .nil⟩
theorem mdA_cons {e : Expr} {es : List Expr} {d : Dt} {ds : List Dt} (kp : Keeps J) (h1 : MkD X J e d) (h2 : MkDA X J es ds) (hst : starEach (e :: es) X.env = (false, eval e X.env) :: starEach es X.env := by rfl) : MkDA X J (e :: es) (d :: ds) := by
  obtain ⟨te, pe, k1⟩ := h1
  obtain ⟨ta, pa, k2⟩ := h2
  refine ⟨_, pa_cons pe pa hst, fun σ H Q l st j k => ?_⟩
  refine k1 σ H _ l st j fun v H1 s1 d1 => ?_
  refine k2 σ H1 _ l (st.same s1) (kp _ _ _ (hide_same s1) j) fun vs H2 s2 d2 => ?_
  exact k _ H2 (s1.trans s2) (.cons (d1.same (hide_same s2)) d2)
theorem md_tup {es : List Expr} {ds : List Dt} {j : Nat} {p : Pos} (h : MkDA X J es ds) (few : ds.length ≤ sizeLine := by decide) : MkD X J (.Tuple es j p) (.tup ds) := by
  obtain ⟨ta, pa, k1⟩ := h
  refine ⟨_, pe_tupM pa, fun σ H Q l st j k => k1 σ H _ l st j fun vs H1 s1 d1 => ⟨by rw [d1.len]; exact few, fun p H2 s2 n2 e2 => ?_⟩⟩
  have ne := (st.same s1).ne n2
  exact k _ H2 (s1.trans s2) (.tup (SqT.of (by rw [hide_at ne]; exact e2)) (d1.same (hide_same s2)))
theorem md_lst {es : List Expr} {ds : List Dt} {p : Pos} (h : MkDA X J es ds) (few : ds.length ≤ sizeLine := by decide) : MkD X J (.List es p) (.lst ds) := by
  obtain ⟨ta, pa, k1⟩ := h
  refine ⟨_, pe_lstM pa, fun σ H Q l st j k => k1 σ H _ l st j fun vs H1 s1 d1 => ⟨by rw [d1.len]; exact few, fun p H2 s2 n2 e2 => ?_⟩⟩
  have ne := (st.same s1).ne n2
  exact k _ H2 (s1.trans s2) (.lst (SqL.of (by rw [hide_at ne]; exact e2)) (d1.same (hide_same s2)))
/-- an int that is worked out, whatever stands -/
theorem md_num {e : Expr} {i : Int} {te : TE} (h : PE X e te) (k : ∀ (σ : St) (H : Hp) (Q : VK), Q (.int i) H → te σ H Q) : MkD X J e (.int i) := ⟨te, h, fun σ H Q l st j q => k σ H Q (q _ H (Same.refl H) (.int i))⟩
theorem md_txt {e : Expr} {x : Str} {te : TE} (h : PE X e te) (k : ∀ (σ : St) (H : Hp) (Q : VK), Q (.str x) H → te σ H Q) (few : x.length ≤ 1000 := by decide) : MkD X J e (.str x) := ⟨te, h, fun σ H Q l st j q => k σ H Q (q _ H (Same.refl H) (.str x few))⟩
/-- a slot that holds data -/
theorem md_var {i : Nat} {x : Str} {d : Dt} {p : Pos} {te : TE} (h : PE X (.Name x p) te) (k : ∀ (σ : St) (H : Hp) (Q : VK) (v : V), σ[i]? = some (some v) → Q v H → te σ H Q) (j : ∀ σ H, J σ H → ∃ v, σ[i]? = some (some v) ∧ Dd X.K H v d) : MkD X J (.Name x p) d := by
  refine ⟨te, h, fun σ H Q l st jj q => ?_⟩
  obtain ⟨v, e, hd⟩ := j σ _ jj
  exact k σ H Q v e (q v H (Same.refl H) hd)
end
/-- a list of one's own, and its data, which don't hold it -/
def LstAt (K : PySem.W.Frag) (H : Hp) (a : Addr) (xs : List V) (ds : List Dt) : Prop := H a = some (.lst xs) ∧ DdAll K (hide (some a) H) xs ds
section
variable {K : PySem.W.Frag} {H H' : Hp} {a b : Addr} {xs zs : List V} {ds es : List Dt}
theorem LstAt.all (h : LstAt K H a xs ds) : DdAll K H xs ds := h.2.same (hide_sub _ _)
theorem LstAt.same (h : LstAt K H a xs ds) (s : Same H H') : LstAt K H' a xs ds := ⟨s _ _ h.1, h.2.same (hide_same s)⟩
theorem LstAt.stands (h : LstAt K H a xs ds) : Stands (some a) H := fun b e => by
  cases e
  exact ⟨_, h.1⟩
/-- some.append(v) -/
theorem LstAt.put (h : LstAt K H a xs ds) {v : V} {d : Dt} (hv : Dd K (hide (some a) H) v d) : LstAt K (upd H a (.lst (xs ++ [v]))) a (xs ++ [v]) (ds ++ [d]) := by
  refine ⟨upd_same, ?_⟩
  have e : hide (some a) (upd H a (.lst (xs ++ [v]))) = hide (some a) H := by
    funext b
    by_cases c : a = b
    · subst c
      unfold hide
      rw [if_pos rfl, if_pos rfl]
    · rw [hide_at (fun z => c (Option.some.inj z)), hide_at (fun z => c (Option.some.inj z)), upd_ne (Ne.symm c)]
  rw [e]
  exact h.2.app (.cons hv .nil)
/-- a new list -/
theorem lst_new (h : DdAll K H xs ds) (s : Same H H') (n : H a = none) (e : H' a = some (.lst xs)) : LstAt K H' a xs ds := ⟨e, h.same (hide_new s n)⟩
end
end L2
namespace L2
open PySem PySem.Spec PyProof.Rows
/-- the reading of such an expression -/
def tMk (K : PySem.W.Frag) (J : St → Hp → Prop) (d : Dt) : TE := fun σ H Q => ∃ l, Stands l H ∧ J σ (hide l H) ∧ ∀ v H', Same H H' → Dd K (hide l H') v d → Q v H'
def tMkL (K : PySem.W.Frag) (J : St → Hp → Prop) (ds : List Dt) : TE := fun σ H Q => J σ H ∧ ∀ a xs H', Same H H' → H a = none → LstAt K H' a xs ds → Q (.ref a) H'
section
variable {X : Cx} {J : St → Hp → Prop}
theorem pe_mk {e : Expr} {d : Dt} (m : MkD X J e d) : PE X e (tMk X.K J d) := by
  obtain ⟨te, pe, k⟩ := m
  exact ⟨fun pins s σ H Q I ⟨l, st, j, h⟩ => pe.run pins s σ H Q I (k σ H Q l st j h)⟩
theorem pe_mkL {es : List Expr} {ds : List Dt} {p : Pos} (m : MkDA X J es ds) (few : ds.length ≤ sizeLine := by decide) : PE X (.List es p) (tMkL X.K J ds) := by
  obtain ⟨ta, pa, k⟩ := m
  refine ⟨fun pins s σ H Q I ⟨j, h⟩ => (pe_lstM pa).run pins s σ H Q I (k σ H _ none (fun a e => nomatch e) (by rw [hide_none]; exact j) fun vs H1 s1 d1 => ⟨by rw [d1.len]; exact few, fun p H2 s2 n2 e2 => ?_⟩)⟩
  rw [hide_none] at d1
  have n0 : H p = none := by
    cases q : H p with
    | none => rfl
    | some o => rw [s1 _ _ q] at n2; cases n2
  exact h p vs H2 (s1.trans s2) n0 (lst_new d1 s2 n2 e2)
end
theorem cat_at {K : PySem.W.Frag} {H : Hp} {l b : Addr} {xs zs : List V} {ds es : List Dt} {Q : VK} (L1 : LstAt K H l xs ds) (L2 : LstAt K H b zs es) (few : ds.length + es.length ≤ sizeLine) (k : ∀ p H', Same H H' → H p = none → LstAt K H' p (xs ++ zs) (ds ++ es) → Q (.ref p) H') : rCat (.ref l) (.ref b) H Q :=
  ⟨l, b, xs, zs, rfl, rfl, L1.1, L2.1, by rw [L1.2.len, L2.2.len]; exact few, fun p hp => k p _ (Same.new hp) hp (lst_new (L1.all.app L2.all) (Same.new hp) hp upd_same)⟩
end L2
/-! _law_script, _law_worker, _law_over -/
namespace K08
open PySem PySem.Spec PyProof.Rows L2
section
variable {P : Program} {w : World} {K : PySem.W.Frag} {mg : Str → Option Value} {base : Heap}
/-- WorkerPlan(name, opening=..) -/
theorem wk_bindO {dS : Addr} {fd : FuncData} (F : FunD K "__init__" "WorkerPlan.__init__" (defArgs s_WorkerPlan___init__) (defBody s_WorkerPlan___init__) (defScope s_WorkerPlan___init__) [] (wDef dS) (He.ma K (wkA K) "__init__") fd) :
    ∃ mv : List Value, KBn K fd wPs 2 ["opening"] (fun us ws => us ++ mv.take 1 ++ ws ++ mv.drop 1) (fun vs zs => vs ++ [.str "permanent"] ++ zs ++ [.int 0, .non, .int 0, .ref dS]) := by
  refine F.kbinds0 2 ["opening"] [("restart", .str "permanent"), ("closing", .int 0), ("deadline", .non), ("refused", .int 0), ("script", .ref dS)] (fun a b c => a ++ b.take 1 ++ c ++ b.drop 1) (by simp [wDef]) (by simp [wDef]) (fun r1 r2 r3 => ((r1.append (Vals.take 1 r2)).append r3).append (Vals.drop 1 r2)) ?_
  intro D doc pm an cdv ct us mv ws l1 l2 l3
  match us, mv, ws, l1, l2, l3 with
  | [_, _], [_, _, _, _, _], [_], _, _, _ => exact ⟨_, _, _, _, _, _, rfl, rfl, _, _, _, _, _, _, rfl, rfl, _, _, _, _, _, _, rfl, rfl, _, _, _, _, _, _, rfl, rfl, _, _, _, _, _, _, rfl, rfl, rfl⟩
/-- a plan, all of it told -/
theorem right_wkF {H : Hp} {v1 v2 v3 v4 v5 v6 v7 : V} {d1 d2 d3 d4 d5 d6 d7 : Dt} {Q : Addr → Hp → Prop} (h1 : Dd K H v1 d1) (h2 : Dd K H v2 d2) (h3 : Dd K H v3 d3) (h4 : Dd K H v4 d4) (h5 : Dd K H v5 d5) (h6 : Dd K H v6 d6) (h7 : Dd K H v7 d7) (fb : firstBad (wset d1 d2 d3 d4 d5 d6 d7) = none)
    (k : ∀ x dx H', Same H H' → H x = none → H' x = some (.ins (wkA K) dx (wflds v1 v2 v3 v4 v5 v6 v7)) → Q x H') :
    ∀ x dx, H x = none → H dx = none → dx ≠ x → spWInit K [.ref x, v1, v2, v3, v4, v5, v6, v7] (upd (upd H dx (.own x)) x (.ins (wkA K) dx [])) (fun v H3 => v = .non ∧ Q x H3) ENo := by
  intro x dx nx nd ne
  have s0 : Same H (upd (upd H dx (.own x)) x (.ins (wkA K) dx [])) := (Same.new nd).trans (Same.new (by rw [upd_ne (Ne.symm ne)]; exact nx))
  refine ⟨x, dx, v1, v2, v3, v4, v5, v6, v7, d1, d2, d3, d4, d5, d6, d7, rfl, upd_same, h1.same s0, h2.same s0, h3.same s0, h4.same s0, h5.same s0, h6.same s0, h7.same s0, fun _ H' s' => ⟨rfl, ?_⟩, fun y e => ?_⟩
  · refine k x dx _ (fun b o e => ?_) nx upd_same
    rw [upd_ne (ne_of_none e nx)]
    exact s' _ _ (s0 _ _ e)
  · rw [fb] at e
    cases e
theorem pick_of {a c l : Addr} {ns : List Int} {m : Int} {xs : List V} {G : Hp} {R : VK} (S : Src K G a c ns m) (hm : m ≤ 1000000) (e : G l = some (.lst xs)) (h0 : 0 < xs.length) (h1 : xs.length ≤ 1000) (q : ∀ v, v ∈ xs → ∀ H', But a G H' → Src K H' a c ns (m + 1) → R v H') : spOf K [.ref a, .ref l] G R E0 :=
  ⟨a, c, l, ns, m, xs, rfl, S, hm, e, S.is.ne e (fun _ _ _ z => nomatch z), h0, h1, fun j v H' ej S' b => q v (List.mem_of_getElem? ej) H' b S'⟩
end
end K08
/-! _law_worker, _law_over -/
namespace K08
open PySem PySem.Spec PyProof.Rows L2
section
variable {P : Program} {w : World} {K : PySem.W.Frag} {mg : Str → Option Value} {base : Heap}
abbrev s_law_worker : Stmt := (top 99)
def N_law_worker : List Str := ["m", "label", "numbers", "wait", "kind", "begin"]
theorem sc_law_worker : FnScope N_law_worker ["m", "label"] (defScope s_law_worker) := ⟨rfl, rfl, rfl, by decide +kernel, rfl, by decide +kernel, by decide +kernel⟩
abbrev s_law_over : Stmt := (top 100)
def N_law_over : List Str := ["m", "label", "kids", "kind", "way", "wait"]
theorem sc_law_over : FnScope N_law_over ["m", "label", "kids"] (defScope s_law_over) := ⟨rfl, rfl, rfl, by decide +kernel, rfl, by decide +kernel, by decide +kernel⟩
theorem pow9 : (10 : Int) ^ (9 : Int).toNat = 1000000000 := by decide
/-- data of a worker with this name -/
def spWorkerL (K : PySem.W.Frag) : Sp := fun vs H Q _ => ∃ (a c : Addr) (ns : List Int) (m : Int) (x : Str), vs = [.ref a, .str x] ∧ Src K H a c ns m ∧ m ≤ 800000 ∧ NmOk x ∧
  ∀ v t H', DTr K H' v t → t.ok → t.names = [x] → t.pn = .wrk → Src K H' a c ns (m + 10) → But a H H' → Q v H'
theorem ok_worker (F : Has K mg "_law_worker" s_law_worker) (T : Txt K mg) (F_law_next : FnQ P w K mg base CX0 1 "_law_next" ["m", "total"] (spNext K)) (F_law_of : FnQ P w K mg base CX0 2 "_law_of" ["m", "items"] (spOf K)) :
    FnQ P w K mg base CX0 3 "_law_worker" ["m", "label"] (spWorkerL K) := by
  refine F.q sc_law_worker (fun _ _ _ _ _ _ us hl => match us, hl with | [_, _], _ => rfl) (fun vs H Q E h => by obtain ⟨_, _, _, _, _, rfl, _⟩ := h; rfl) (fun cdv A outer s H vs Q E hr h => ?_)
  obtain ⟨a, c, ns, m, x, rfl, S, hm, nx, k⟩ := h
  refine ⟨_, PSs.nox (pss_cons (ps_set (i := 2) sc_law_worker.nd rfl (by first | exact .inl rfl | exact .inr rfl) (pe_lstM (pa_cons pe_int (pa_cons pe_int (pa_cons pe_int (pa_cons (pe_op op_pow pe_int pe_int) (pa_cons (pe_f F_law_next hr pass0 (pa_cons (pv 0) (pa_cons pe_int pa_nil))) pa_nil)))))))
  (pss_cons (ps_set (i := 3) sc_law_worker.nd rfl (by first | exact .inl rfl | exact .inr rfl) (pe_f F_law_of hr pass0 (pa_cons (pv 0) (pa_cons (pe_lstM (pa_cons pe_non (pa_cons pe_int (pa_cons (pe_op op_pow pe_int pe_int) (pa_cons (pe_f F_law_next hr pass0 (pa_cons (pv 0) (pa_cons pe_int pa_nil))) pa_nil))))) pa_nil))))
  (pss_cons (ps_swap (is := [4, 5]) rfl sc_law_worker.nd (pe_tupM (pa_cons (pe_f F_law_of hr pass0 (pa_cons (pv 0) (pa_cons (pe_lstM (pa_cons pe_str (pa_cons pe_str (pa_cons pe_str pa_nil)))) pa_nil))) (pa_cons (pe_f F_law_of hr pass0 (pa_cons (pv 0) (pa_cons (pv 2) pa_nil))) pa_nil))) (.cons rfl (.inl rfl) (.inr rfl) (.cons rfl (.inl rfl) (.inr rfl) .nil)))
  (pss_one (ps_ret (pe_tupM (pa_cons pe_str (pa_cons (pv 1) (pa_cons (pv 4) (pa_cons (pv 5) (pa_cons (pe_f F_law_of hr pass0 (pa_cons (pv 0) (pa_cons (pv 2) pa_nil))) (pa_cons (pv 3) (pa_cons (pe_f F_law_of hr pass0 (pa_cons (pv 0) (pa_cons (pe_lstM (pa_cons pe_int (pa_cons pe_int (pa_cons pe_int (pa_cons pe_int pa_nil))))) pa_nil))) (pa_cons (pe_tupM pa_nil) pa_nil)))))))))))))), ?_⟩
  -- numbers
  refine ⟨_, _, rfl, rfl, ⟨by decide, by decide, by decide⟩, _, rfl, a, c, ns, m, 1000, rfl, S, by omega, by decide, by decide, fun j1 H1 l1 S1 b1 => ⟨(by show 5 ≤ sizeLine; decide), fun nl H2 s2 n2 e2 => ?_⟩⟩
  replace e2 : H2 nl = some (.lst [.int 0, .int 1, .int 7, .int 1000000000, .int (j1 : Nat)]) := e2
  have S2 := S1.same s2
  have b2 := b1.same s2
  -- wait
  refine ⟨_, rfl, _, _, rfl, rfl, ⟨by decide, by decide, by decide⟩, _, rfl, a, c, ns, _, 90, rfl, S2, by omega, by decide, by decide, fun j2 H3 l2 S3 b3 => ⟨(by show 4 ≤ sizeLine; decide), fun wl H4 s4 n4 e4 => ?_⟩⟩
  replace e4 : H4 wl = some (.lst [.non, .int 0, .int 1000000000, .int (j2 : Nat)]) := e4
  have S4 := S3.same s4
  have e24 := s4 _ _ (b3 _ _ e2 (S2.is.ne e2 fun _ _ _ z => nomatch z))
  refine pick_of S4 (by omega) e4 (by show 0 < 4; decide) (by show 4 ≤ 1000; decide) fun dl hdl H5 b5 S5 => ?_
  have ddl : DlOk dl := by
    simp only [List.mem_cons, List.not_mem_nil, or_false] at hdl
    rcases hdl with rfl | rfl | rfl | rfl
    · exact .inl rfl
    · exact .inr ⟨0, rfl, by decide, by decide⟩
    · exact .inr ⟨_, rfl, by decide, by decide⟩
    · exact .inr ⟨_, rfl, by omega, by omega⟩
  have e25 := b5 _ _ e24 (S4.is.ne e24 fun _ _ _ z => nomatch z)
  have B5 : But a H H5 := ((b2.trans b3).same s4).trans b5
  clear e4 hdl b1 b2 b3 b5 S S1 S2 S3 S4 e2 e24 n2 n4
  -- kind, begin
  refine ⟨_, rfl, (by show 3 ≤ sizeLine; decide), fun kl H6 s6 n6 e6 => pick_of (S5.same s6) (by omega) e6 (by show 0 < 3; decide) (by show 3 ≤ 1000; decide) fun r hr H7 b7 S7 => ?_⟩
  obtain ⟨rs, rfl, hrs⟩ : ∃ rs : Str, r = .str rs ∧ rs ∈ restartsS := by
    simp only [List.mem_cons, List.not_mem_nil, or_false] at hr
    rcases hr with rfl | rfl | rfl
    · exact ⟨_, rfl, by decide +kernel⟩
    · exact ⟨_, rfl, by decide +kernel⟩
    · exact ⟨_, rfl, by decide +kernel⟩
  have S6 := S5.same s6
  have e27 := b7 _ _ (s6 _ _ e25) (S6.is.ne (s6 _ _ e25) fun _ _ _ z => nomatch z)
  have num : ∀ v, v ∈ [V.int 0, .int 1, .int 7, .int 1000000000, .int (j1 : Nat)] → ∃ i : Int, v = .int i ∧ 0 ≤ i ∧ i ≤ 1000000000 := fun v hv => by
    simp only [List.mem_cons, List.not_mem_nil, or_false] at hv
    rcases hv with rfl | rfl | rfl | rfl | rfl
    · exact ⟨_, rfl, by decide, by decide⟩
    · exact ⟨_, rfl, by decide, by decide⟩
    · exact ⟨_, rfl, by decide, by decide⟩
    · exact ⟨_, rfl, by decide, by decide⟩
    · exact ⟨_, rfl, by omega, by omega⟩
  refine ⟨_, rfl, _, rfl, pick_of S7 (by omega) e27 (by show 0 < 5; decide) (by show 5 ≤ 1000; decide) fun o ho H8 b8 S8 => ?_⟩
  obtain ⟨oi, rfl, o1, o2⟩ := num o ho
  have e28 := b8 _ _ e27 (S7.is.ne e27 fun _ _ _ z => nomatch z)
  refine ⟨(by show 2 ≤ sizeLine; decide), fun tq H9 s9 n9 e9 => ⟨tq, _, rfl, SqT.of e9, rfl, ?_⟩⟩
  have S9 := S8.same s9
  have e29 := s9 _ _ e28
  have B9 : But a H H9 := (((B5.same s6).trans b7).trans b8).same s9
  clear B5 e25 e27 e28 S5 S6 S7 S8 e6 e9 b7 b8 s6 s9 n6 n9
  -- the tuple
  refine ⟨_, rfl, _, rfl, _, rfl, _, rfl, _, rfl, pick_of S9 (by omega) e29 (by show 0 < 5; decide) (by show 5 ≤ 1000; decide) fun cv hcv H10 b10 S10 => ?_⟩
  obtain ⟨ci, rfl, c1, c2⟩ := num cv hcv
  refine ⟨_, rfl, _, rfl, (by show 4 ≤ sizeLine; decide), fun rl H11 s11 n11 e11 => pick_of (S10.same s11) (by omega) e11 (by show 0 < 4; decide) (by show 4 ≤ 1000; decide) fun rv hrv H12 b12 S12 => ?_⟩
  obtain ⟨ri, rfl, r1, r2⟩ : ∃ i : Int, rv = .int i ∧ 0 ≤ i ∧ i ≤ 100 := by
    simp only [List.mem_cons, List.not_mem_nil, or_false] at hrv
    rcases hrv with rfl | rfl | rfl | rfl <;> exact ⟨_, rfl, by decide, by decide⟩
  refine ⟨(by show 0 ≤ sizeLine; decide), fun et H13 s13 n13 e13 => ⟨(by show 8 ≤ sizeLine; decide), fun t H14 s14 n14 e14 => ?_⟩⟩
  refine k (.ref t) (.w x rs oi ci dl ri (.ref et) (.tup [])) H14 (.w (SqT.of e14) (.tup (SqT.of (s14 _ _ e13)) .nil) (by decide)) ⟨nx, hrs, ⟨o1, o2⟩, ⟨c1, c2⟩, ddl, ⟨r1, r2⟩, by decide, by decide, rfl⟩ rfl rfl (((S12.same s13).same s14).more (by omega)) ?_
  exact ((((B9.trans b10).same s11).trans b12).same s13).same s14
/-- data of a supervisor over these -/
def spOverL (K : PySem.W.Frag) : Sp := fun vs H Q _ => ∃ (a c kl : Addr) (ns : List Int) (m : Int) (x : Str) (xs : List V) (ks : List Tr), vs = [.ref a, .str x, .ref kl] ∧ Src K H a c ns m ∧ m ≤ 800000 ∧ NmOk x ∧ H kl = some (.lst xs) ∧ DTrs K H xs ks ∧ ks.length ≤ 4 ∧ Tr.oks ks ∧
  ∀ v t H', DTr K H' v t → t.ok → t.names = x :: Tr.namesL ks → t.pn = .sup (Tr.pns ks) → Src K H' a c ns (m + 10) → But a H H' → Q v H'
theorem ok_over (F : Has K mg "_law_over" s_law_over) (T : Txt K mg) (F_law_next : FnQ P w K mg base CX0 1 "_law_next" ["m", "total"] (spNext K)) (F_law_of : FnQ P w K mg base CX0 2 "_law_of" ["m", "items"] (spOf K)) :
    FnQ P w K mg base CX0 3 "_law_over" ["m", "label", "kids"] (spOverL K) := by
  refine F.q sc_law_over (fun _ _ _ _ _ _ us hl => match us, hl with | [_, _, _], _ => rfl) (fun vs H Q E h => by obtain ⟨_, _, _, _, _, _, _, _, rfl, _⟩ := h; rfl) (fun cdv A outer s H vs Q E hr h => ?_)
  obtain ⟨a, c, kl, ns, m, x, xs, ks, rfl, S, hm, nx, ek, hk, lk, ok, k⟩ := h
  refine ⟨_, PSs.nox (pss_cons (ps_swap (is := [3, 4]) rfl sc_law_over.nd (pe_tupM (pa_cons (pe_f F_law_of hr pass0 (pa_cons (pv 0) (pa_cons (pe_lstM (pa_cons pe_str (pa_cons pe_str (pa_cons pe_str pa_nil)))) pa_nil))) (pa_cons (pe_f F_law_of hr pass0 (pa_cons (pv 0) (pa_cons (pe_lstM (pa_cons pe_str (pa_cons pe_str (pa_cons pe_str pa_nil)))) pa_nil))) pa_nil))) (.cons rfl (.inl rfl) (.inr rfl) (.cons rfl (.inl rfl) (.inr rfl) .nil)))
  (pss_cons (ps_set (i := 5) sc_law_over.nd rfl (by first | exact .inl rfl | exact .inr rfl) (pe_f F_law_of hr pass0 (pa_cons (pv 0) (pa_cons (pe_lstM (pa_cons pe_non (pa_cons pe_int (pa_cons (pe_op op_pow pe_int pe_int) (pa_cons (pe_f F_law_next hr pass0 (pa_cons (pv 0) (pa_cons pe_int pa_nil))) pa_nil))))) pa_nil))))
  (pss_one (ps_ret (pe_tupM (pa_cons pe_str (pa_cons (pv 1) (pa_cons (pv 3) (pa_cons (pv 4) (pa_cons (pe_f F_law_of hr pass0 (pa_cons (pv 0) (pa_cons (pe_lstM (pa_cons pe_int (pa_cons pe_int (pa_cons pe_int (pa_cons pe_int pa_nil))))) pa_nil))) (pa_cons (pe_f F_law_of hr pass0 (pa_cons (pv 0) (pa_cons (pe_lstM (pa_cons pe_int (pa_cons pe_int (pa_cons (pe_op op_pow pe_int pe_int) pa_nil)))) pa_nil))) (pa_cons (pv 5) (pa_cons (pe_callTy call_tuple_of (by rfl) (T.fr "tuple" (by simp [frees])) PyProof.Rows.boot_tuple (pa_cons (pv 2) pa_nil)) pa_nil))))))))))))), ?_⟩
  -- kind, way
  refine ⟨_, rfl, (by show 3 ≤ sizeLine; decide), fun l1 H1 s1 n1 e1 => pick_of (S.same s1) (by omega) e1 (by show 0 < 3; decide) (by show 3 ≤ 1000; decide) fun r hr H2 b2 S2 => ?_⟩
  obtain ⟨rs, rfl, hrs⟩ : ∃ rs : Str, r = .str rs ∧ rs ∈ restartsS := by
    simp only [List.mem_cons, List.not_mem_nil, or_false] at hr
    rcases hr with rfl | rfl | rfl
    · exact ⟨_, rfl, by decide +kernel⟩
    · exact ⟨_, rfl, by decide +kernel⟩
    · exact ⟨_, rfl, by decide +kernel⟩
  refine ⟨_, rfl, (by show 3 ≤ sizeLine; decide), fun l2 H3 s3 n3 e3 => pick_of (S2.same s3) (by omega) e3 (by show 0 < 3; decide) (by show 3 ≤ 1000; decide) fun st hst H4 b4 S4 => ?_⟩
  obtain ⟨ss, rfl, hss⟩ : ∃ ss : Str, st = .str ss ∧ ss ∈ strategiesS := by
    simp only [List.mem_cons, List.not_mem_nil, or_false] at hst
    rcases hst with rfl | rfl | rfl
    · exact ⟨_, rfl, by decide +kernel⟩
    · exact ⟨_, rfl, by decide +kernel⟩
    · exact ⟨_, rfl, by decide +kernel⟩
  refine ⟨(by show 2 ≤ sizeLine; decide), fun tq H5 s5 n5 e5 => ⟨tq, _, rfl, SqT.of e5, rfl, ?_⟩⟩
  have B5 : But a H H5 := ((((But.refl a H).same s1).trans b2).same s3 |>.trans b4).same s5
  have S5 := S4.same s5
  clear e1 e3 e5 n1 n3 n5 hr hst S2 S4
  -- wait
  refine ⟨_, rfl, _, _, rfl, rfl, ⟨by decide, by decide, by decide⟩, _, rfl, a, c, ns, _, 90, rfl, S5, by omega, by decide, by decide, fun j2 H6 l2 S6 b6 => ⟨(by show 4 ≤ sizeLine; decide), fun wl H7 s7 n7 e7 => ?_⟩⟩
  replace e7 : H7 wl = some (.lst [.non, .int 0, .int 1000000000, .int (j2 : Nat)]) := e7
  refine pick_of (S6.same s7) (by omega) e7 (by show 0 < 4; decide) (by show 4 ≤ 1000; decide) fun dl hdl H8 b8 S8 => ?_
  have ddl : DlOk dl := by
    simp only [List.mem_cons, List.not_mem_nil, or_false] at hdl
    rcases hdl with rfl | rfl | rfl | rfl
    · exact .inl rfl
    · exact .inr ⟨0, rfl, by decide, by decide⟩
    · exact .inr ⟨_, rfl, by decide, by decide⟩
    · exact .inr ⟨_, rfl, by omega, by omega⟩
  have B8 : But a H H8 := ((B5.trans b6).same s7).trans b8
  -- the tuple
  refine ⟨_, rfl, _, rfl, _, rfl, _, rfl, (by show 4 ≤ sizeLine; decide), fun l3 H9 s9 n9 e9 => pick_of (S8.same s9) (by omega) e9 (by show 0 < 4; decide) (by show 4 ≤ 1000; decide) fun mv hmv H10 b10 S10 => ?_⟩
  obtain ⟨mi, rfl, m1, m2⟩ : ∃ i : Int, mv = .int i ∧ 0 ≤ i ∧ i ≤ 20 := by
    simp only [List.mem_cons, List.not_mem_nil, or_false] at hmv
    rcases hmv with rfl | rfl | rfl | rfl <;> exact ⟨_, rfl, by decide, by decide⟩
  refine ⟨_, rfl, _, _, rfl, rfl, ⟨by decide, by decide, by decide⟩, (by show 3 ≤ sizeLine; decide), fun l4 H11 s11 n11 e11 => pick_of (S10.same s11) (by omega) e11 (by show 0 < 3; decide) (by show 3 ≤ 1000; decide) fun pv hpv H12 b12 S12 => ?_⟩
  obtain ⟨pi, rfl, p1, p2⟩ : ∃ i : Int, pv = .int i ∧ 1 ≤ i ∧ i ≤ 1000000000 := by
    simp only [List.mem_cons, List.not_mem_nil, or_false] at hpv
    rcases hpv with rfl | rfl | rfl
    · exact ⟨_, rfl, by decide, by decide⟩
    · exact ⟨_, rfl, by decide, by decide⟩
    · exact ⟨_, rfl, by decide, by decide⟩
  have B12 : But a H H12 := (((B8.same s9).trans b10).same s11).trans b12
  have ek12 : H12 kl = some (.lst xs) := B12 _ _ ek (S.is.ne ek fun _ _ _ z => nomatch z)
  have hk12 : DTrs K H12 xs ks := DTrs.solid (B12.solid S.is) hk
  refine ⟨_, rfl, _, rfl, kl, xs, rfl, .inl ⟨SqL.of ek12, fun t1 nt1 => ⟨(by show 8 ≤ sizeLine; decide), fun t H14 s14 n14 e14 => ?_⟩⟩⟩
  have s13 : Same H12 (upd H12 t1 (.tup xs)) := Same.new nt1
  have e13 : (upd H12 t1 (.tup xs)) t1 = some (.tup xs) := upd_same
  refine k (.ref t) (.s x rs ss mi pi dl ks) H14 (.s (SqT.of e14) (SqT.of (s14 _ _ e13)) (DTrs.solid (Solid.of_same (s13.trans s14)) hk12)) ⟨nx, hrs, hss, ⟨m1, m2⟩, ⟨p1, p2⟩, ddl, lk, ok⟩ rfl rfl (((S12.same s13).same s14).more (by omega)) ((B12.same s13).same s14)
end
end K08
/-! lambdas: the tables of code objects, told by the head; data behind a lambda -/
namespace He
open PySem PySem.Spec PyProof.Rows L2
/-- a def's code object, its table -/
def codeOf (K : PySem.W.Frag) (x : Str) : Value := match K.lookup (ga K x) with
  | some ⟨_, _, .func fd, _⟩ => fd.code
  | _ => .none
def codeAd (K : PySem.W.Frag) (x : Str) : Addr := match codeOf K x with
  | .ref c => c
  | _ => 0
def tabAd (K : PySem.W.Frag) (x : Str) : Addr := match K.lookup (codeAd K x) with
  | some ⟨_, _, .fields vs, _⟩ => (match vs.getD 11 .none with
    | .ref P => P
    | _ => 0)
  | _ => 0
def isTab : Option Obj → Bool
  | some ⟨.none, none, .fields vs, sl⟩ => vs.isEmpty && sl.isEmpty
  | _ => false
def lamB (g : Addr → Option Obj) (K : PySem.W.Frag) (x : Str) : Bool := decide (codeOf K x = .ref (codeAd K x)) && (isTab (g (tabAd K x)) && (decide (codeAd K x ≠ tabAd K x) && ((K.lookup (tabAd K x)).isNone && (match K.lookup (codeAd K x) with
  | some ⟨.type c, _, .fields vs, _⟩ => decide (c = "code") && (decide (vs[11]? = some (.ref (tabAd K x))) && (decide (vs.getD 11 .none = .ref (tabAd K x)) && ((match vs.getD 18 .none with | .str _ _ => true | _ => false) && ((match vs.getD 7 .none with | .int _ _ => true | _ => false) &&
    ((match vs.getD 9 .none with | .bool _ => true | _ => false) && (match vs.getD 10 .none with | .int _ _ => true | _ => false))))))
  | _ => false))))
structure LamAt (h : Heap) (K : PySem.W.Frag) (x : Str) : Prop where
  cd : codeOf K x = .ref (codeAd K x)
  hd : PySem.W.CodeHd h (codeAd K x) (tabAd K x)
  tb : h.get? (tabAd K x) = some { cls := .none, data := .fields #[] }
  no : K.lookup (tabAd K x) = none
theorem isTab_ok {o : Option Obj} (h : isTab o = true) : o = some { cls := .none, data := .fields #[] } := by
  unfold isTab at h
  split at h
  · rename_i vs sl
    simp only [Bool.and_eq_true, Array.isEmpty_iff] at h
    obtain ⟨rfl, rfl⟩ := h
    rfl
  · cases h
theorem lamB_ok {h : Heap} {K : PySem.W.Frag} {x : Str} (kin : K.In h) (z : lamB h.get? K x = true) : LamAt h K x := by
  unfold lamB at z
  simp only [Bool.and_eq_true, decide_eq_true_eq, Option.isNone_iff_eq_none] at z
  obtain ⟨z1, z2, z3, z4, z5⟩ := z
  refine ⟨z1, ?_, isTab_ok z2, z4⟩
  split at z5
  · rename_i c dd vs sl e
    simp only [Bool.and_eq_true, decide_eq_true_eq] at z5
    obtain ⟨a1, a2, a3, a4, a5, a6, a7⟩ := z5
    subst a1
    split at a4
    · rename_i f1 t1 q1
      split at a5
      · rename_i f2 t2 q2
        split at a6
        · rename_i f3 q3
          split at a7
          · rename_i f4 t4 q4
            exact ⟨_, vs, f1, t1, f2, t2, f3, f4, t4, kin _ _ e, rfl, rfl, a2, a3, q1, q2, q3, q4, z3⟩
          · cases a7
        · cases a6
      · cases a5
    · cases a4
  · cases z5
theorem LamAt.keeps {h h' : Heap} {K : PySem.W.Frag} {x : Str} (a : LamAt h K x) (k : ∀ b o, h.get? b = some o → h'.get? b = some o) : LamAt h' K x := ⟨a.cd, a.hd.keeps k, k _ _ a.tb, a.no⟩
/-- what is looked at, without the tables of code objects -/
def asZ (g : Addr → Option Obj) (n : Nat) (ex : List (PySem.W.Frag → Addr)) : List Addr := (asY g n ex).filter fun a => !isTab (g a)
def obsL (g : Addr → Option Obj) (n : Nat) (ex : List (PySem.W.Frag → Addr)) (fa : List Fx) (fn : List DefD) (ts : List Tab) (xs : List Str) : AlT × Bool := (obsXT fa fn ts (frG g (asZ g n ex)), xs.all fun x => lamB g (frG g (asZ g n ex)) x)
def hookL (n : Nat) (ex : List (PySem.W.Frag → Addr)) (fa : List Fx) (fn : List DefD) (ts : List Tab) (xs : List Str) : PySem.W.Hook where
  α := AlT × Bool
  obs := fun s => obsL s.heap.get? n ex fa fn ts xs
  val := fun w => (valT fn ts w, true)
  says := fun w h => ∃ K : PySem.W.Frag, K.In h ∧ SaysXT fa fn ts w K ∧ ∀ x ∈ xs, LamAt h K x
  of := fun w s e => ⟨frG s.heap.get? (asZ s.heap.get? n ex), frG_in, show _ = _ from congrArg Prod.fst e, fun x hx => lamB_ok frG_in (List.all_eq_true.mp (congrArg Prod.snd e) x hx)⟩
  keeps := fun _ _ _ ⟨K, hK, c, l⟩ k => ⟨K, PySem.W.Frag.In.keeps hK k, c, fun x hx => (l x hx).keeps k⟩
theorem obsL_eq {n : Nat} {ex : List (PySem.W.Frag → Addr)} {fa : List Fx} {fn : List DefD} {ts : List Tab} {xs : List Str} {g : Addr → Option Obj} {s : Shared} (h : ∀ a, g a = s.heap.get? a) : obsL g n ex fa fn ts xs = (hookL n ex fa fn ts xs).obs s := by
  obtain rfl : g = s.heap.get? := funext h
  rfl
end He
namespace L2
open PySem PySem.Spec PyProof.Rows
section
variable {P : Program} {w : World} {K : PySem.W.Frag} {mg : Str → Option Value} {base : Heap} {CX : CXT} {k : Nat} {x : Str} {ps : List Str} {sp : Sp} {st : Stmt} {N : List Str}
/-- a def's promise, its code object known -/
theorem Has.qc (Hs : Has K mg x st) (S : FnScope N ps (defScope st)) (B : BindOk x st ps) (len : ∀ vs H Q E, sp vs H Q E → vs.length = ps.length)
    (hb : ∀ (A : Around) (outer : List Env) (s : Shared) (H : Hp) (vs : List V) (Q : VK) (E : XK), Room k (A.deeper (envOfC x (defScope st) s.heap.objs.size (He.ga K x) (He.codeOf K x))) → sp vs H Q E →
      ∃ t, PSs (cxOf CX P w K mg base N x (defScope st) (He.ga K x) (He.codeOf K x) A outer s H E) (defBody st) t ∧ t { nx := fun _ H' => Q .non H', rt := Q } (start N vs) H) : FnQ P w K mg base CX (k + 1) x ps sp := by
  obtain ⟨fd, F⟩ := Hs.df
  refine ⟨Hs.gl, F.kp, fd, ?_, F.bindsN B, lookD F⟩
  obtain ⟨oc, od, dV, kV, doc, pm, an, cdv, ct, osl, rfl, lk, hcd, _, _⟩ := F.ex
  have e : He.codeOf K x = cdv := by
    unfold He.codeOf
    rw [lk]
  rw [e] at hb
  exact fn_of lk hcd S len fun A outer s H vs Q E hr hsp => hb A outer s H vs Q E hr hsp
end
/-- data behind a lambda -/
abbrev ExtN := LamX.ExtN
theorem ExtN.sqL {K : PySem.W.Frag} {H H' : Hp} {a : Addr} {xs : List V} (e : LamX.ExtN H H') (h : SqL K H a xs) : SqL K H' a xs := by
  rcases h with (h | ⟨o, h⟩) | h
  · exact .inl (.inl (e _ _ h fun _ z => nomatch z))
  · exact .inl (.inr ⟨o, e _ _ h fun _ z => nomatch z⟩)
  · exact .inr h
theorem ExtN.sqT {K : PySem.W.Frag} {H H' : Hp} {a : Addr} {xs : List V} (e : LamX.ExtN H H') (h : SqT K H a xs) : SqT K H' a xs := by
  rcases h with (h | ⟨o, h⟩) | h
  · exact .inl (.inl (e _ _ h fun _ z => nomatch z))
  · exact .inl (.inr ⟨o, e _ _ h fun _ z => nomatch z⟩)
  · exact .inr h
mutual
theorem Dd.ext {K : PySem.W.Frag} {H H' : Hp} (s : LamX.ExtN H H') : ∀ {v : V} {d : Dt}, Dd K H v d → Dd K H' v d
  | _, _, .non => .non
  | _, _, .bl b => .bl b
  | _, _, .int i => .int i
  | _, _, .str x h => .str x h
  | _, _, .lst h t => .lst (ExtN.sqL s h) (DdAll.ext s t)
  | _, _, .tup h t => .tup (ExtN.sqT s h) (DdAll.ext s t)
  | _, _, .dic h => .dic (s _ _ h fun _ z => nomatch z)
  | _, _, .wrk h l t o => .wrk (s _ _ h fun _ z => nomatch z) l (Dd.ext s t) o
  | _, _, .sup h => .sup (s _ _ h fun _ z => nomatch z)
theorem DdAll.ext {K : PySem.W.Frag} {H H' : Hp} (s : LamX.ExtN H H') : ∀ {vs : List V} {ds : List Dt}, DdAll K H vs ds → DdAll K H' vs ds
  | _, _, .nil => .nil
  | _, _, .cons h t => .cons (Dd.ext s h) (DdAll.ext s t)
end
end L2
/-! a law's own call, with tables of code objects; a list != [] -/
namespace L2
open PySem PySem.Spec PyProof.Rows
/-- l != [] -/
def rNeNil : R2 := fun x y H Q => ∃ l b xs, x = .ref l ∧ y = .ref b ∧ H l = some (.lst xs) ∧ H b = some (.lst []) ∧ Q (.bl (!xs.isEmpty)) H
theorem op_neNil {X : Cx} (hu : X.A.units + 64 < cLine) : OpR X (compareOp .NotEq) rNeNil := by
  intro pins s σ H x y v u Q I rx ry h
  obtain ⟨l, b, xs, rfl, rfl, e1, e2, q⟩ := h
  obtain rfl : v = Value.ref l := rx
  obtain rfl : u = Value.ref b := ry
  obtain ⟨_, its, n, rv, l0, z1⟩ := I.lstM e1
  obtain ⟨_, its2, n2, rv2, l02, z2⟩ := I.lstM e2
  have l1 : its.length = xs.length := l0.symm
  have h2 : its2 = [] := by
    exact List.length_eq_zero_iff.mp l02.symm
  subst h2
  cases xs with
  | nil =>
    have h3 : its = [] := List.length_eq_zero_iff.mp l1
    subst h3
    have z := SeqAt.RcNeAt.lists (A := X.A) (s := s) (l := l) (b := b) (items := [].toArray) (items2 := [].toArray) (e := fun _ => true) ⟨_, z1, rfl, _, rfl⟩ ⟨_, z2, rfl, _, rfl⟩ rfl (by omega) (fun j h _ => absurd h (by simp))
    exact z X.prog X.w X.xe _ ⟨.bl false, H, I, rfl, q⟩
  | cons a r =>
    have ne : (its.toArray.size != ([] : List Value).toArray.size) = true := by
      rw [List.size_toArray, l1]
      rfl
    exact (SeqAt.RcNeAt.lists_lengths (A := X.A) (s := s) (l := l) (b := b) (items := its.toArray) (items2 := ([] : List Value).toArray) ⟨_, z1, rfl, _, rfl⟩ ⟨_, z2, rfl, _, rfl⟩ ne (by omega)) X.prog X.w X.xe _ ⟨.bl true, H, I, rfl, q⟩
abbrev tabNil : Obj := { cls := .none, data := .fields #[] }
/-- the law's own call -/
theorem lawT {P : Program} {w : World} {K : PySem.W.Frag} {mg mb : Str → Option Value} {CX : CXT} {k : Nat} {fa a : Addr} {cs : List (Addr × Addr)} {fd : FuncData} {x : Str} {sp : Sp} {s₁ : Shared} {vs : List Value} {ns : List Int}
    (kin : K.In s₁.heap) (gl : s₁.heap.Ns mainGlobals mg) (bl : s₁.heap.Ns builtinsNs mb) (bb : ∀ y : Str, y ≠ "__name__" → mb y = bootBuiltins y) (nl : s₁.heap.NoLimit) (gn : s₁.gens = #[])
    (tb : ∀ p ∈ cs, s₁.heap.get? p.2 = some tabNil) (nk : ∀ p ∈ cs, K.lookup p.2 = none) (cdh : ∀ p ∈ cs, PySem.W.CodeHd s₁.heap p.1 p.2)
    (bmn : ∃ (bm : Addr) (ob : Obj), mg "__builtins__" = some (.ref bm) ∧ bm ≠ builtinsNs ∧ s₁.heap.get? bm = some ob ∧ ob.cls = .type "module" ∧ ob.dict = some builtinsNs ∧ ob.data = .plain)
    (hs : s₁.heap.get? a = some { cls := .type "list", data := .seq vs.toArray }) (hi : IntsAre vs ns) (hl : ns.length ≤ sizeLine) (hr : Room k callerA)
    (F : ∀ base : Heap, K.In base → base.Ns mainGlobals mg → (∀ p ∈ cs, LamX.TabB base mg p.1 p.2) → FnOk P w K mg base CX k fa fd [x] sp) (bnd : ∀ (s : Shared) (u : Value), BindsTo s fd ⟨[u], []⟩ [(x, u)])
    (pr : ∀ H : Hp, (∀ p ∈ cs, H p.2 = some (.tbl #[])) → ScrL K H a (ns.map V.int) → sp [.ref a] H (fun v _ => v = .bl true) fun _ _ _ => False) (no : ∀ H e s', CX [] H s₁ (fun _ _ _ => False) e s' → False) :
    codeAny (model P w) callerA (.call (.ref fa) ⟨[.ref a], []⟩) (fun r s' => r = .ok (.ret (.bool true)) ∧ OldK s₁.heap s'.heap ∧ s'.os = s₁.os ∧ AllBare s'.gens) s₁ := by
  have onT : ∀ {b : Addr}, b ∈ cs.map (·.2) → s₁.heap.get? b = some tabNil ∧ K.lookup b = none := fun {b} hb => by
    obtain ⟨p, hp, rfl⟩ := List.mem_map.mp hb
    exact ⟨tb p hp, nk p hp⟩
  have inT : ∀ p ∈ cs, p.2 ∈ cs.map (·.2) := fun p hp => List.mem_map_of_mem hp
  have offT : a ∉ cs.map (·.2) := fun z => by
    have q := (onT z).1
    rw [hs] at q
    exact nomatch (show Data.seq vs.toArray _ = Data.fields #[] from congrArg Obj.data (Option.some.inj q))
  have lenV := hi.length
  have main : ∀ H : Hp, (∀ b u, H b = some u → (b ∈ cs.map (·.2) ∧ u = .tbl #[]) ∨ (b = a ∧ K.lookup a = none ∧ u = .frz { cls := .type "list", data := .seq vs.toArray } (.lst (ns.map V.int)))) → (∀ p ∈ cs, H p.2 = some (.tbl #[])) → ScrL K H a (ns.map V.int) →
      codeAny (model P w) callerA (.call (.ref fa) ⟨[.ref a], []⟩) (fun r s' => r = .ok (.ret (.bool true)) ∧ OldK s₁.heap s'.heap ∧ s'.os = s₁.os ∧ AllBare s'.gens) s₁ := by
    intro H what onH sc
    have ok : HOk P w H s₁.heap := fun b u z => by
      rcases what b u z with ⟨hb, rfl⟩ | ⟨rfl, _, rfl⟩
      · exact (onT hb).1
      · exact ⟨hs, by rw [List.length_map]; exact hl, vs, _, vals_ints hi, hs⟩
    have toB : ∀ {b : Addr} {o : Obj}, s₁.heap.get? b = some o → H b = none → (hidT s₁.heap H).get? b = some o := fun z n => hidT_get z n
    have plain : ∀ {b : Addr} {o : Obj}, s₁.heap.get? b = some o → (∀ us n, o.data ≠ .seq us n) → o.data ≠ .fields #[] → H b = none := fun {b o} z n1 n2 => by
      cases q : H b with
      | none => rfl
      | some u =>
        rcases what b u q with ⟨hb, _⟩ | ⟨rfl, _, _⟩
        · rw [(onT hb).1] at z
          cases z
          exact absurd rfl n2
        · rw [hs] at z
          cases z
          exact absurd rfl (n1 _ _)
    have dictFree : ∀ {b : Addr} {o : Obj} {es : Array DictEntry} {ep : Nat}, s₁.heap.get? b = some o → o.data = .dict es ep → H b = none := fun {b o es ep} z dz => plain z (fun us n q => nomatch (show Data.dict es ep = Data.seq us n from dz.symm.trans q)) fun q => nomatch (show Data.dict es ep = Data.fields #[] from dz.symm.trans q)
    have toNs : ∀ {b : Addr} {m : Str → Option Value}, s₁.heap.Ns b m → (hidT s₁.heap H).Ns b m := fun ⟨o, es, ep, z, dz, r⟩ => ⟨o, es, ep, toB z (dictFree z dz), dz, r⟩
    have kinB : K.In (hidT s₁.heap H) := fun b o z => toB (kin b o z) (by
      cases q : H b with
      | none => rfl
      | some u =>
        rcases what b u q with ⟨hb, _⟩ | ⟨rfl, n, _⟩
        · rw [(onT hb).2] at z; cases z
        · rw [n] at z; cases z)
    have M : Mod K mg (hidT s₁.heap H) := ⟨kinB, toNs gl, ⟨mb, toNs bl, bb⟩, nl.elim fun mc z => ⟨mc, toNs z.1, z.2⟩⟩
    have TB : ∀ p ∈ cs, LamX.TabB (hidT s₁.heap H) mg p.1 p.2 := fun p hp => by
      have atP := tb p hp
      have noG : mainGlobals ≠ p.2 := fun z => by
        obtain ⟨o, es, ep, e, dz, _⟩ := gl
        rw [z, atP] at e
        cases e
        exact nomatch (show Data.fields #[] = Data.dict es ep from dz)
      refine ⟨?_, ?_, noG⟩
      · obtain ⟨o, us, f1, t1, f2, t2, f3, f4, t4, e, r1, r2, r3, rest⟩ := cdh p hp
        refine ⟨o, us, f1, t1, f2, t2, f3, f4, t4, toB e (plain e (fun _ _ q => nomatch r2.symm.trans q) fun q => ?_), r1, r2, r3, rest⟩
        have z : us = #[] := by
          have y := r2.symm.trans q
          injection y
        subst z
        exact nomatch r3
      · obtain ⟨bm, ob, b1, b2, b3, b4, b5, b6⟩ := bmn
        refine ⟨bm, ob, b1, b2, fun z => ?_, fun z => ?_, toB b3 (plain b3 (fun _ _ q => nomatch b6.symm.trans q) fun q => nomatch b6.symm.trans q), b4, b5, b6⟩
        · obtain ⟨o, es, ep, e, dz, _⟩ := gl
          rw [← z, b3] at e
          cases e
          exact nomatch (show Data.plain = Data.dict es ep from b6.symm.trans dz)
        · rw [z, atP] at b3
          cases b3
          cases b6
    have E0' : Env0 P w K mg (hidT s₁.heap H) callerA [] s₁ H := ⟨rfl, M, fun b o z => of_hidT z, Nat.le_of_eq (hidT_size _ _), trivial, fun b z => absurd (show b ∈ ([] : List Addr) from z) (by simp), ok, .of_eq gn⟩
    refine codeAny_mono ((F _ kinB (toNs gl) TB).run callerA [] s₁ H ⟨[.ref a], []⟩ [.ref a] [.ref a] _ _ hr E0' (bnd s₁ (.ref a)) (.cons rfl .nil) (pr H onH sc)) fun r s' z => ?_
    cases r with
    | error y => exact (no H y s' z).elim
    | ok fl =>
    cases fl with
    | next => exact z.elim
    | brk => exact z.elim
    | cont => exact z.elim
    | ret u =>
      obtain ⟨v, H', os, bare, un, ok', rv, q⟩ := z
      obtain rfl : v = .bl true := q
      obtain rfl : u = Value.bool true := rv
      have grow : ∀ {b : Addr}, b ∈ cs.map (·.2) → ∃ more : Array Value, s'.heap.get? b = some { cls := .none, data := .fields more } := fun {b} hb => by
        obtain ⟨p, hp, rfl⟩ := List.mem_map.mp hb
        obtain ⟨more, z⟩ := un.tbls p.2 #[] (onH p hp)
        exact ⟨_, ok' p.2 _ z⟩
      have stay : ∀ {b : Addr} {o : Obj}, b ∉ cs.map (·.2) → s₁.heap.get? b = some o → s'.heap.get? b = some o := fun {b o} hb z => by
        cases q : H b with
        | none => exact un.keep b o z q (fun y => absurd (show b ∈ ([] : List Addr) from y) (by simp)) (by simp)
        | some u =>
          rcases what b u q with ⟨hb2, _⟩ | ⟨rfl, _, rfl⟩
          · exact absurd hb2 hb
          · obtain ⟨e2, _⟩ := ok' b _ (un.frzs b _ _ q)
            rw [hs] at z
            cases z
            exact e2
      refine ⟨rfl, ⟨fun b o z => ?_, fun b o z => ?_⟩, os, bare⟩
      · by_cases hb : b ∈ cs.map (·.2)
        · obtain ⟨p, hp, rfl⟩ := List.mem_map.mp hb
          obtain ⟨more, y⟩ := grow hb
          rw [tb p hp] at z
          cases z
          exact .inr (.inl ⟨((cdh p hp).tab (tb p hp)).isCodeTable, rfl, #[], more, rfl, by rw [Array.empty_append]; exact y⟩)
        · exact .inl (stay hb z)
      · by_cases hb : b ∈ cs.map (·.2)
        · exact (grow hb).elim fun more y => ⟨_, y⟩
        · exact ⟨o, stay hb z⟩
  by_cases kc : K.lookup a = none
  · refine main (fun b => if b = a then some (.frz { cls := .type "list", data := .seq vs.toArray } (.lst (ns.map V.int))) else if b ∈ cs.map (·.2) then some (.tbl #[]) else none) (fun b u z => ?_) (fun p hp => ?_) (.inl ⟨_, if_pos rfl⟩)
    · by_cases e : b = a
      · have y := (if_pos e).symm.trans z
        exact .inr ⟨e, kc, (Option.some.inj y).symm⟩
      · have y := (if_neg e).symm.trans z
        by_cases e2 : b ∈ cs.map (·.2)
        · rw [if_pos e2] at y
          exact .inl ⟨e2, (Option.some.inj y).symm⟩
        · rw [if_neg e2] at y
          cases y
    · exact (if_neg fun z : p.2 = a => offT (by rw [← z]; exact inT p hp)).trans (if_pos (inT p hp))
  · obtain ⟨o, ko⟩ := Option.ne_none_iff_exists'.mp kc
    have z := kin a o ko
    rw [hs] at z
    cases z
    refine main (fun b => if b ∈ cs.map (·.2) then some (.tbl #[]) else none) (fun b u z => ?_) (fun p hp => if_pos (inT p hp)) (.inr ⟨vs, ko, by rw [lenV]; exact hl, vals_ints hi⟩)
    by_cases e2 : b ∈ cs.map (·.2)
    · rw [if_pos e2] at z
      exact .inl ⟨e2, (Option.some.inj z).symm⟩
    · rw [if_neg e2] at z
      cases z
/-- the walk's end over a head by facts, with tables -/
theorem walkT {l : PySem.W.OpenLaw} {n k : Nat} {q : Program} {loose : List Str} {XP : (Str → Option Value) → Heap → Prop} {YP : World → Heap → Prop} {d : DefRec} {CX : World → CXT} {x : Str} (most : l.most = some n) (fits : n ≤ sizeLine) (nod : d.params.defaults = []) (hr : Room k callerA)
    (F : ∀ (w : World) (mg : Str → Option Value) (fa : Addr) (h : Heap), YP w h → h.Ns mainGlobals mg → mg d.name = some (.ref fa) →
      ∃ (K : PySem.W.Frag) (fd : FuncData) (cs : List (Addr × Addr)) (sp : Sp), K.In h ∧ (∀ p ∈ cs, h.get? p.2 = some tabNil) ∧ (∀ p ∈ cs, K.lookup p.2 = none) ∧ (∀ p ∈ cs, PySem.W.CodeHd h p.1 p.2) ∧ (∀ (s : Shared) (u : Value), BindsTo s fd ⟨[u], []⟩ [(x, u)]) ∧
        (∀ (H : Hp) (a : Addr) (ns : List Int), ns.length ≤ n → (∀ p ∈ cs, H p.2 = some (.tbl #[])) → ScrL K H a (ns.map V.int) → sp [.ref a] H (fun v _ => v = .bl true) fun _ _ _ => False) ∧
        ∀ base : Heap, K.In base → base.Ns mainGlobals mg → (∀ p ∈ cs, LamX.TabB base mg p.1 p.2) → FnOk l.prog w K mg base (CX w) k fa fd [x] sp)
    (no : ∀ (w : World) (H : Hp) (s : Shared) (e : Value) (s' : Shared), CX w [] H s (fun _ _ _ => False) e s' → False) : PySem.W.WalkO q loose XP YP l.row.toRowW d [] (fun f vs => PySem.call f vs) := by
  refine Att.attach_call most nod fun w s₀ s₁ mg mb fa o pm cd doc a vs ns G Y ho hd hcd hmg hobj hints hlen hg => ?_
  obtain ⟨K, fd, cs, sp, kin, tb, nk, cdh, bnd, pr, fok⟩ := F w mg fa _ Y G.T.g hmg
  exact lawT kin G.T.g G.T.b G.T.builtins G.T.nolimit hg tb nk cdh G.T.bmain hobj hints (Nat.le_trans hlen fits) hr fok bnd (fun H t s => pr H a ns hlen t s) fun H e s' => no w H s₁ e s'
end L2
/-! _law_tree -/
namespace K08
open PySem PySem.Spec PyProof.Rows L2
section
variable {P : Program} {w : World} {K : PySem.W.Frag} {mg : Str → Option Value} {base : Heap}
abbrev s_law_tree : Stmt := (top 101)
def N_law_tree : List Str := ["m", "free", "level", "label", "kids", "k"]
theorem sc_law_tree : FnScope N_law_tree ["m", "free", "level"] (defScope s_law_tree) := ⟨rfl, rfl, rfl, by decide +kernel, rfl, by decide +kernel, by decide +kernel⟩
/-- a tree of the first of these names -/
def spTree (K : PySem.W.Frag) (n : Nat) : Sp := fun vs H Q _ => 0 < n ∧ ∃ (a c fl : Addr) (ns : List Int) (m : Int) (ws : List Str) (lev : Nat), vs = [.ref a, .ref fl, .int (lev : Nat)] ∧ Src K H a c ns m ∧ m + 20 * ws.length ≤ 800000 ∧ H fl = some (.lst (ws.map V.str)) ∧ ws ≠ [] ∧ ws.length ≤ 1000 ∧ (∀ x ∈ ws, NmOk x) ∧ lev + n = 7 ∧
  ∀ v t us H', DTr K H' v t → t.ok → t.names ++ us = ws → t.pn.lv ≤ n + 1 → H' fl = some (.lst (us.map V.str)) → Src K H' a c ns (m + 20 * t.names.length) → But2 a fl H H' → Q v H'
theorem Src.updL {H : Hp} {a c D : Addr} {ns : List Int} {m : Int} {ys zs : List V} (S : Src K H a c ns m) (h : H D = some (.lst ys)) : Src K (upd H D (.lst zs)) a c ns m := by
  have na : a ≠ D := (S.is.ne h fun _ _ _ z => nomatch z).symm
  obtain ⟨⟨n, r, e, q⟩, cs, few⟩ := S
  refine ⟨⟨n, r, by rw [upd_ne na]; exact e, q⟩, ?_, few⟩
  rcases cs with ⟨o, h2⟩ | h2
  · exact .inl ⟨o, by rw [upd_ne (by rintro rfl; rw [h] at h2; cases h2)]; exact h2⟩
  · exact .inr h2
theorem But2.updN {a l D : Addr} {H G : Hp} (s : But2 a l H G) (n : H D = none) (o : HO) : But2 a l H (upd G D o) := fun b u e n1 n2 => by
  rw [upd_ne (ne_of_none e n)]
  exact s b u e n1 n2
theorem But2.updA {a l : Addr} {H G : Hp} (s : But2 a l H G) (o : HO) : But2 a l H (upd G l o) := fun b u e n1 n2 => by
  rw [upd_ne n2]
  exact s b u e n1 n2
theorem idx0 {n : Nat} (h : 0 < n) : seqIndex? 0 n = some 0 := by
  simp [seqIndex?, h]
theorem mem_app {x : Str} {xs ys ws : List Str} (h : xs ++ ys = ws) (m : x ∈ ys) : x ∈ ws := by rw [← h]; exact List.mem_append_right _ m
/-- what stands while the kids are drawn -/
structure Gr (K : PySem.W.Frag) (H G : Hp) (a c fl kl : Addr) (ns : List Int) (m : Int) (ws : List Str) (n i : Nat) (us : List Str) (xs : List V) (ks : List Tr) : Prop where
  ef : G fl = some (.lst (us.map V.str))
  ek : G kl = some (.lst xs)
  hk : DTrs K G xs ks
  ok : Tr.oks ks
  lk : ks.length ≤ i
  nm : Tr.namesL ks ++ us = ws
  lv : ∀ t ∈ ks, t.pn.lv ≤ n + 1
  src : Src K G a c ns (m + 1 + i + 20 * (Tr.namesL ks).length)
  b : But2 a fl H G
theorem Gr.step {H G G2 : Hp} {a c fl kl : Addr} {ns : List Int} {m : Int} {ws : List Str} {n i : Nat} {us : List Str} {xs : List V} {ks : List Tr} (Z : Gr K H G a c fl kl ns m ws n i us xs ks) (nk : H kl = none) (s : But2 a fl G G2) (kf : kl ≠ fl) {us2 : List Str} {v : V} {t : Tr} (hv : DTr K G2 v t) (ok : t.ok) (nm : t.names ++ us2 = us) (lv : t.pn.lv ≤ n + 1)
    (ef : G2 fl = some (.lst (us2.map V.str))) {m2 : Int} (S2 : Src K G2 a c ns m2) (hm : m2 ≤ m + 1 + i + 20 * (Tr.namesL ks).length + 1 + 20 * t.names.length) :
    G2 kl = some (.lst xs) ∧ Gr K H (upd G2 kl (.lst (xs ++ [v]))) a c fl kl ns m ws n (i + 1) us2 (xs ++ [v]) (ks ++ [t]) := by
  have ka : kl ≠ a := Z.src.is.ne Z.ek fun _ _ _ z => nomatch z
  have ek2 := s _ _ Z.ek ka kf
  have so : Solid G2 (upd G2 kl (.lst (xs ++ [v]))) := Solid.upd (.inl ⟨_, ek2⟩)
  have hk2 : DTrs K G2 xs ks := DTrs.solid (s.solid Z.src.is Z.ef) Z.hk
  have e1 : Tr.namesL (ks ++ [t]) = Tr.namesL ks ++ t.names := by
    rw [namesL_app]
    show _ ++ (t.names ++ []) = _
    rw [List.append_nil]
  refine ⟨ek2, ?_, upd_same, DTrs.solid so (hk2.app (.cons hv .nil)), oks_app Z.ok ⟨ok, trivial⟩, by rw [List.length_append]; have := Z.lk; show _ + 1 ≤ _; omega, by rw [e1, List.append_assoc, nm]; exact Z.nm, fun u hu => ?_, ?_, ?_⟩
  · rw [upd_ne kf.symm]; exact ef
  · rcases List.mem_append.mp hu with h | h
    · exact Z.lv u h
    · rw [List.mem_singleton.mp h]; exact lv
  · rw [e1, List.length_append]
    exact (S2.updL ek2).more (by omega)
  · exact (Z.b.trans s).updN nk _
theorem ok_tree (F : Has K mg "_law_tree" s_law_tree) (T : Txt K mg) (F_law_next : FnQ P w K mg base CX0 1 "_law_next" ["m", "total"] (spNext K)) (F_law_worker : FnQ P w K mg base CX0 3 "_law_worker" ["m", "label"] (spWorkerL K)) (F_law_over : FnQ P w K mg base CX0 3 "_law_over" ["m", "label", "kids"] (spOverL K)) :
    ∀ n, FnQ P w K mg base CX0 (n + 4) "_law_tree" ["m", "free", "level"] (spTree K n) := by
  intro n
  induction n with
  | zero =>
    refine F.q sc_law_tree (fun _ _ _ _ _ _ us hl => match us, hl with | [_, _, _], _ => rfl) (fun vs H Q E h => by obtain ⟨z, _⟩ := h; omega) (fun cdv A outer s H vs Q E hr h => ?_)
    obtain ⟨z, _⟩ := h
    omega
  | succ n F_law_tree =>
    refine F.q sc_law_tree (fun _ _ _ _ _ _ us hl => match us, hl with | [_, _, _], _ => rfl) (fun vs H Q E h => by obtain ⟨_, _, _, _, _, _, _, _, rfl, _⟩ := h; rfl) (fun cdv A outer s H vs Q E hr h => ?_)
    obtain ⟨_, a, c, fl, ns, m, ws, lev, rfl, S, hm, ef, ne, few, hw, hl, k⟩ := h
    refine ⟨_, PSs.nox (pss_cons (ps_swap (is := [3, 4]) rfl sc_law_tree.nd (pe_tupM (pa_cons (pe_bm PySem.F.plainAttrs_list PySem.F.slot_list_pop PySem.F.type_list_pop mt_popAt (pv 1) (pa_cons pe_int pa_nil)) (pa_cons (pe_lstM pa_nil) pa_nil))) (.cons rfl (.inl rfl) (.inr rfl) (.cons rfl (.inl rfl) (.inr rfl) .nil)))
  (pss_cons (ps_for PassesOwn.never rfl (pi_range1 (by rfl) (T.fr "range" (by simp [frees])) (pa_cons (pe_f F_law_next hr pass0 (pa_cons (pv 0) (pa_cons pe_int pa_nil)) (hj := by omega)) pa_nil)) (pg_name (i := 5) sc_law_tree.nd rfl (by first | exact .inl rfl | exact .inr rfl))
  (pss_one (ps_if (pw_and (pt_cmpR (op_neNil hr.units) (pv 1) (pe_lstM pa_nil) (by first | exact nomark _ | rfl)) (pw_and (pt_cmpR op_lt (pv 2) pe_int (by first | exact nomark _ | rfl)) (pw_and1 (pt_cmpR op_eq (pe_f F_law_next hr pass0 (pa_cons (pv 0) (pa_cons pe_int pa_nil)) (hj := by omega)) pe_int (by first | exact nomark _ | rfl))))).pt
  (pss_one (ps_expr (pe_bm PySem.F.plainAttrs_list PySem.F.slot_list_append PySem.F.type_list_append mt_append (pv 4) (pa_cons (pe_f F_law_tree hr pass0 (pa_cons (pv 0) (pa_cons (pv 1) (pa_cons (pe_op op_add (pv 2) pe_int) pa_nil))) (hj := by omega)) pa_nil))))
  (pss_one (ps_if (pt_cmpR (op_neNil hr.units) (pv 1) (pe_lstM pa_nil) (by first | exact nomark _ | rfl))
  (pss_one (ps_expr (pe_bm PySem.F.plainAttrs_list PySem.F.slot_list_append PySem.F.type_list_append mt_append (pv 4) (pa_cons (pe_f F_law_worker hr pass0 (pa_cons (pv 0) (pa_cons (pe_bm PySem.F.plainAttrs_list PySem.F.slot_list_pop PySem.F.type_list_pop mt_popAt (pv 1) (pa_cons pe_int pa_nil)) pa_nil)) (hj := by omega)) pa_nil))))
  pss_nil)))))
  (pss_one (ps_ret (pe_f F_law_over hr pass0 (pa_cons (pv 0) (pa_cons (pv 3) (pa_cons (pv 4) pa_nil))) (hj := by omega)))))), ?_⟩
    obtain ⟨x, ws, rfl⟩ : ∃ x r, ws = x :: r := by
      cases ws with
      | nil => exact absurd rfl ne
      | cons x r => exact ⟨x, r, rfl⟩
    have nx : NmOk x := hw x List.mem_cons_self
    rw [List.map_cons] at ef
    refine ⟨_, rfl, .inl ⟨rfl, _, SqL.of ef⟩, fl, _, 0, 0, .str x, rfl, rfl, ef, by decide, by decide, idx0 (by simp), rfl, ?_⟩
    have u1 : But2 a fl H (upd H fl (.lst (ws.map V.str))) := (But2.refl a fl H).updA _
    have e1 : (upd H fl (.lst (ws.map V.str))) fl = some (.lst (ws.map V.str)) := upd_same
    have S1 : Src K (upd H fl (.lst (ws.map V.str))) a c ns m := S.updL ef
    refine ⟨(by show 0 ≤ sizeLine; decide), fun kl H2 s2 n2 e2 => ⟨(by show 2 ≤ sizeLine; decide), fun tq H3 s3 n3 e3 => ⟨tq, _, rfl, SqT.of e3, rfl, ?_⟩⟩⟩
    replace n2 : (upd H fl (.lst (ws.map V.str))) kl = none := n2
    have s13 := s2.trans s3
    have S3 := S1.same s13
    have ef3 : H3 fl = some (.lst (ws.map V.str)) := s13 _ _ e1
    have ek3 : H3 kl = some (.lst []) := s3 _ _ e2
    have b3 : But2 a fl H H3 := u1.same s13
    have kf : kl ≠ fl := fun z => by rw [z] at n2; rw [e1] at n2; cases n2
    have nk : H kl = none := by
      cases q : H kl with
      | none => rfl
      | some o => rw [upd_ne kf, q] at n2; cases n2
    have ka : a ≠ kl := (S3.is.ne ek3 fun _ _ _ z => nomatch z).symm
    clear e1 e2 e3 n2 n3 s2 s3 s13 S1 u1 S ef
    refine ⟨_, rfl, a, c, ns, _, 5, rfl, S3, by omega, by decide, by decide, fun j G l5 SG bG => ?_⟩
    refine ⟨j, rfl, by omega, by omega, for_range (n := j) (fun i σ G => ∃ v5 us xs ks, σ = [some (.ref a), some (.ref fl), some (.int (lev : Nat)), some (.str x), some (.ref kl), v5] ∧ Gr K H G a c fl kl ns m ws n i us xs ks)
      ⟨none, ws, [], [], rfl, bG _ _ ef3 (S3.is.ne ef3 fun _ _ _ z => nomatch z), bG _ _ ek3 (S3.is.ne ek3 fun _ _ _ z => nomatch z), .nil, trivial, Nat.le_refl _, rfl, (fun t h => nomatch h), SG.more (by show _ ≤ _ + (0 : Int) + 20 * ((0 : Nat) : Int); omega), b3.trans (bG.two fl)⟩ ?_ ?_⟩
    · rintro i σ G0 hi ⟨v5, us, xs, ks, rfl, Z⟩
      have lw : (Tr.namesL ks).length + us.length = ws.length := by rw [← Z.nm, List.length_append]
      have lws : (x :: ws).length = ws.length + 1 := rfl
      have i4 : i < 4 := by omega
      refine ⟨_, rfl, (by show 0 ≤ sizeLine; decide), fun q0 G1 s1 _ e1 => ⟨fl, q0, _, rfl, rfl, s1 _ _ Z.ef, e1, _, rfl, ?_⟩⟩
      have ef1 := s1 _ _ Z.ef
      have S1 := Z.src.same s1
      have b1 : But2 a fl G0 G1 := (But2.refl a fl G0).same s1
      cases us with
      | nil =>
        refine if_no (by rfl) ⟨_, rfl, (by show 0 ≤ sizeLine; decide), fun q9 G9 s9 _ e9 => ⟨fl, q9, _, rfl, rfl, s9 _ _ ef1, e9, _, rfl, if_no (by rfl) ⟨_, [], xs, ks, rfl, ?_⟩⟩⟩
        have st := s1.trans s9
        exact ⟨st _ _ Z.ef, st _ _ Z.ek, DTrs.solid (Solid.of_same st) Z.hk, Z.ok, Nat.le_succ_of_le Z.lk, Z.nm, Z.lv, (Z.src.same st).more (by omega), Z.b.same st⟩
      | cons y us =>
        have hy : NmOk y := hw y (List.mem_cons_of_mem _ (mem_app Z.nm List.mem_cons_self))
        have lus : (y :: us).length = us.length + 1 := rfl
        refine if_yes (by rfl) ?_
        refine ⟨_, rfl, _, _, rfl, rfl, _, rfl, ?_⟩
        by_cases l6 : lev < 6
        · refine if_yes (decide_eq_true (by omega)) ?_
          refine ⟨_, rfl, a, c, ns, _, 3, rfl, S1, by omega, by decide, by decide, fun jj G3 l3 S3 b3' => ⟨rfl, _, rfl, ?_⟩⟩
          have ef3' := b3' _ _ ef1 (S1.is.ne ef1 fun _ _ _ z => nomatch z)
          have b13 : But2 a fl G0 G3 := b1.trans (b3'.two fl)
          by_cases j0 : jj = 0
          · refine if_yes (decide_eq_true (by rw [j0]; rfl)) ?_
            refine ⟨_, rfl, .inl ⟨rfl, _, SqL.of (b13 _ _ Z.ek (Z.src.is.ne Z.ek fun _ _ _ z => nomatch z) kf)⟩, _, rfl, _, rfl, _, rfl, _, _, rfl, rfl, ?_⟩
            refine ⟨by omega, a, c, fl, ns, _, y :: us, lev + 1, rfl, S3, by omega, ef3', (by simp), by omega, (fun z hz => hw z (List.mem_cons_of_mem _ (mem_app Z.nm hz))), by omega, fun v t us2 G5 hv ok nm lv ef5 S5 b5 => ?_⟩
            obtain ⟨ek5, Zn⟩ := Z.step nk (b13.trans b5) kf hv ok nm lv ef5 S5 (by omega)
            exact ⟨kl, xs, v, rfl, rfl, ek5, small1000 (by have := Z.hk.len; have := Z.lk; omega), _, _, _, _, rfl, Zn⟩
          · refine if_no (decide_eq_false (by intro z; injection z with z; omega)) ?_
            refine ⟨_, rfl, (by show 0 ≤ sizeLine; decide), fun q9 G9 s9 _ e9 => ⟨fl, q9, _, rfl, rfl, s9 _ _ ef3', e9, _, rfl, if_yes (by rfl) ?_⟩⟩
            have ef9 := s9 _ _ ef3'
            have S9 := S3.same s9
            have b9 : But2 a fl G0 G9 := b13.same s9
            refine ⟨_, rfl, .inl ⟨rfl, _, SqL.of (b9 _ _ Z.ek (Z.src.is.ne Z.ek fun _ _ _ z => nomatch z) kf)⟩, _, rfl, _, rfl, .inl ⟨rfl, _, SqL.of ef9⟩, fl, _, 0, 0, .str y, rfl, rfl, ef9, by decide, by decide, idx0 (by simp), rfl, ?_⟩
            have b10 : But2 a fl G0 (upd G9 fl (.lst (us.map V.str))) := b9.updA _
            have e10 : (upd G9 fl (.lst (us.map V.str))) fl = some (.lst (us.map V.str)) := upd_same
            have S10 : Src K (upd G9 fl (.lst (us.map V.str))) a c ns _ := S9.updL ef9
            refine ⟨a, c, ns, _, y, rfl, S10, by omega, hy, fun v t G11 hv ok nm pn S11 b11 => ?_⟩
            have b0 : But2 a fl G0 G11 := b10.trans (b11.two fl)
            have ef11 := b11 _ _ e10 (S10.is.ne e10 fun _ _ _ z => nomatch z)
            obtain ⟨ek11, Zn⟩ := Z.step nk b0 kf hv ok (us2 := us) (by rw [nm]; rfl) (by rw [pn]; show 1 ≤ _; omega) ef11 S11 (by rw [nm]; show _ ≤ _ + 20 * ((1 : Nat) : Int); omega)
            exact ⟨kl, xs, v, rfl, rfl, ek11, small1000 (by have := Z.hk.len; have := Z.lk; omega), _, _, _, _, rfl, Zn⟩
        · refine if_no (decide_eq_false (by omega)) ?_
          refine ⟨_, rfl, (by show 0 ≤ sizeLine; decide), fun q9 G9 s9 _ e9 => ⟨fl, q9, _, rfl, rfl, s9 _ _ ef1, e9, _, rfl, if_yes (by rfl) ?_⟩⟩
          have ef9 := s9 _ _ ef1
          have S9 := S1.same s9
          have b9 : But2 a fl G0 G9 := b1.same s9
          refine ⟨_, rfl, .inl ⟨rfl, _, SqL.of (b9 _ _ Z.ek (Z.src.is.ne Z.ek fun _ _ _ z => nomatch z) kf)⟩, _, rfl, _, rfl, .inl ⟨rfl, _, SqL.of ef9⟩, fl, _, 0, 0, .str y, rfl, rfl, ef9, by decide, by decide, idx0 (by simp), rfl, ?_⟩
          have b10 : But2 a fl G0 (upd G9 fl (.lst (us.map V.str))) := b9.updA _
          have e10 : (upd G9 fl (.lst (us.map V.str))) fl = some (.lst (us.map V.str)) := upd_same
          have S10 : Src K (upd G9 fl (.lst (us.map V.str))) a c ns _ := S9.updL ef9
          refine ⟨a, c, ns, _, y, rfl, S10, by omega, hy, fun v t G11 hv ok nm pn S11 b11 => ?_⟩
          have b0 : But2 a fl G0 G11 := b10.trans (b11.two fl)
          have ef11 := b11 _ _ e10 (S10.is.ne e10 fun _ _ _ z => nomatch z)
          obtain ⟨ek11, Zn⟩ := Z.step nk b0 kf hv ok (us2 := us) (by rw [nm]; rfl) (by rw [pn]; show 1 ≤ _; omega) ef11 S11 (by rw [nm]; show _ ≤ _ + 20 * ((1 : Nat) : Int); omega)
          exact ⟨kl, xs, v, rfl, rfl, ek11, small1000 (by have := Z.hk.len; have := Z.lk; omega), _, _, _, _, rfl, Zn⟩
    · rintro σ G0 ⟨v5, us, xs, ks, rfl, Z⟩
      have lw : (Tr.namesL ks).length + us.length = ws.length := by rw [← Z.nm, List.length_append]
      have lws : (x :: ws).length = ws.length + 1 := rfl
      have lkk := Z.lk
      refine ⟨_, rfl, _, rfl, _, rfl, a, c, kl, ns, _, x, xs, ks, rfl, Z.src, by omega, nx, Z.ek, Z.hk, by omega, Z.ok, fun v t G1 hv ok nm pn S1 b1 => ?_⟩
      refine k v t us G1 hv ok (by rw [nm, List.cons_append, Z.nm]) ?_ (b1 _ _ Z.ef (Z.src.is.ne Z.ef fun _ _ _ z => nomatch z)) (S1.more ?_) (Z.b.trans (b1.two fl))
      · rw [pn]
        show 1 + Pn.lvs (Tr.pns ks) ≤ _
        have := lvs_le (n := n + 1) Z.lv
        omega
      · rw [nm, List.length_cons]
        omega
end
end K08
/-! SupervisorPlan(name, *children), settings by default; right plans -/
namespace K08
open PySem PySem.Spec PyProof.Rows L2
/-- looked up, one after the other; then t' -/
def KwTo {α : Type} (D : Addr) : List (Str × Value) → Sem α → Sem α → Prop
  | [], t, t' => t = t'
  | q :: l, t, t' => ∃ (β γ : Type) (k1 : Option Value → Sem β) (k2 : β → Sem γ) (k3 : γ → Sem α) (a : β), t = ((nsGet D q.1 >>= k1) >>= k2) >>= k3 ∧ k1 (some q.2) = pure a ∧ KwTo D l (k2 a >>= k3) t'
theorem KwTo.run {α : Type} {K : PySem.W.Frag} {M : Model} {D : Addr} {A : Around} {Q : α → Shared → Prop} {E : Value → Shared → Prop} {s : Shared} (X : K.In s.heap) : ∀ {l : List (Str × Value)} {t t' : Sem α}, (∀ q ∈ l, PySem.W.nsIn K D q.1 = some (some q.2)) → KwTo D l t t' → wpAny M A t' Q E s → wpAny M A t Q E s
  | [], t, t', _, e, h => by
    rw [show t = t' from e]
    exact h
  | q :: l, t, t', hl, e, h => by
    obtain ⟨β, γ, k1, k2, k3, a, e1, e2, e3⟩ := e
    have l1 : PySem.W.Looks M s.heap (nsGet D q.1 >>= k1) a := (PySem.W.looks_nsIn X (hl q (List.mem_cons_self ..))).andThen (PySem.W.Looks.of_pure e2)
    rw [e1, bind_assoc]
    exact wpAny_bind (l1.here (KwTo.run X (fun p hp => hl p (List.mem_cons_of_mem _ hp)) e3 h))
section
variable {P : Program} {w : World} {K : PySem.W.Frag} {mg : Str → Option Value} {base : Heap}
/-- the call by place: the rest are children, the settings stand by default -/
abbrev spSMadeD (K : PySem.W.Frag) : Sp := fun vs H Q E => ∃ v0 v1 rest, vs = v0 :: v1 :: rest ∧ rest.length ≤ sizeLine ∧ ∀ p, H p = none → spSInit K [v0, v1, .str "permanent", .str "one", .int 1, .int 10, .non, .ref p] (upd H p (.tup rest)) Q E
theorem ok_sinitD {fd : FuncData} (F : FunD K "__init__" "SupervisorPlan.__init__" (defArgs s_SupervisorPlan___init__) (defBody s_SupervisorPlan___init__) (defScope s_SupervisorPlan___init__) [] sDef (He.ma K (suA K) "__init__") fd) (T : Txt K mg) (W : Su K mg)
    (F_check_settings : FnQ P w K mg base (L2.CX P w) 2 "_check_settings" ["checks"] (spSettings K)) (F_is_place_name : FnQ P w K mg base CX0 2 "is_place_name" ["value"] (spChk K isPlace)) (F_is_one_of : FnQ P w K mg base CX0 1 "is_one_of" ["value", "words"] (spOne K))
    (F_is_between : FnQ P w K mg base CX0 2 "is_between" ["value", "low", "high"] (spBtw K)) (F_is_deadline : FnQ P w K mg base CX0 3 "_is_deadline" ["value"] (spChk K deadD)) (F_check_children : FnQ P w K mg base (L2.CX P w) 24 "_check_children" ["children"] (spKids K)) :
    FnR P w K mg base (L2.CX P w) 25 (He.ma K (suA K) "__init__") (spSMadeD K) := by
  obtain ⟨oc, od, dV, kV, doc, pm, an, cdv, ct, osl, rfl, lk, hcd, hD, hK⟩ := F.ex
  rcases hD with ⟨_, rfl⟩ | ⟨e, _⟩
  rotate_left
  · exact absurd rfl e
  rcases hK with e | ⟨D, rfl, hq⟩
  · cases e
  obtain ⟨mv, hl, rk, hks⟩ := kwd_vals hq
  intro A outer s H us vs Q E hr e0 r hsp
  obtain ⟨v0, v1, rest, rfl, hz, k⟩ := hsp
  cases r with
  | cons r0 r =>
  cases r with
  | cons r1 r2 =>
  rename_i u0 u1 ur
  have hn : H s.heap.objs.size = none := e0.hok.fresh (Nat.le_refl _)
  have n2 : ur.length ≤ sizeLine := by rw [← r2.length]; exact hz
  refine StX.run_bnd (N := N_SupervisorPlan___init__) (ps := ["self", "name", "restart", "strategy", "most", "span", "deadline", "children"]) lk hcd sc_SupervisorPlan___init__ hr e0 (G := fun xs H2 => ∃ p, H p = none ∧ xs = [v0, v1, .str "permanent", .str "one", .int 1, .int 10, .non, .ref p] ∧ H2 = upd H p (.tup rest)) (fun A' Ex Q' h => ?_) fun s2 H2 xs ⟨p, hp, ex, eH⟩ hr' => ?_
  · have kin : K.In s.heap := e0.mod.kin.keeps fun b o e => (e0.bs b o e).1
    have new : ObjOk P w (upd H s.heap.objs.size (.tup rest)) (s.heap.push ({ cls := .type "tuple", data := .seq ur.toArray } : Obj)) s.heap.objs.size (.tup rest) := ⟨hz, ur, r2, ⟨_, Heap.get?_push_size _ rfl, rfl, _, rfl⟩⟩
    have un := StX.un_laid (fs := frs outer) (s := s) (o := ({ cls := .type "tuple", data := .seq ur.toArray } : Obj)) (u := .tup rest) hn
    match mv, hl with
    | [w1, w2, w3, w4, w5], _ =>
      have z := h _ _ [v0, v1, .str "permanent", .str "one", .int 1, .int 10, .non, .ref s.heap.objs.size] [u0, u1, w1, w2, w3, w4, w5, .ref s.heap.objs.size] (StX.env0_laid e0 new) un rfl (fun e s' => StX.cxUp outer s H _ _ E e s' un (fun b o q => Heap.get?_push_of_some _ q) rfl)
        (.cons r0 (.cons r1 (rk.append (.cons rfl .nil)))) rfl ⟨_, hn, rfl, rfl⟩
      cases ur with
      | nil =>
        refine KwTo.run (t' := newTuple [] >>= fun t => pure [("self", u0), ("name", u1), ("restart", w1), ("strategy", w2), ("most", w3), ("span", w4), ("deadline", w5), ("children", t)]) kin hks ⟨_, _, _, _, _, _, rfl, rfl, _, _, _, _, _, _, rfl, rfl, _, _, _, _, _, _, rfl, rfl, _, _, _, _, _, _, rfl, rfl, _, _, _, _, _, _, rfl, rfl, rfl⟩ ?_
        exact wpAny_bind (wpAny_newTuple (wpAny_pure z) n2)
      | cons y ys =>
        refine KwTo.run (t' := newTuple (y :: ys) >>= fun t => pure [("self", u0), ("name", u1), ("restart", w1), ("strategy", w2), ("most", w3), ("span", w4), ("deadline", w5), ("children", t)]) kin hks ⟨_, _, _, _, _, _, rfl, rfl, _, _, _, _, _, _, rfl, rfl, _, _, _, _, _, _, rfl, rfl, _, _, _, _, _, _, rfl, rfl, _, _, _, _, _, _, rfl, rfl, rfl⟩ ?_
        exact wpAny_bind (wpAny_newTuple (wpAny_pure z) n2)
  · subst ex eH
    exact sup_body T W hr' F_check_settings F_is_place_name F_is_one_of F_is_between F_is_deadline F_check_children (k p hp)
/-! ### right plans -/
theorem firstKid_ok : ∀ (ts : List Pn) (i m : Nat), i + ts.length ≤ 12 → m + Pn.sizes ts ≤ 200 → Pn.lvs ts + 1 ≤ 20 → firstKid i m (ts.map .pn) = none
  | [], _, _, _, _, _ => by rw [List.map_nil, firstKid]
  | t :: ts, i, m, h1, h2, h3 => by
    unfold Pn.sizes at h2
    unfold Pn.lvs at h3
    rw [List.length_cons] at h1
    rw [List.map_cons, firstKid_pn, if_neg (by omega), if_neg (by omega), if_neg (by omega)]
    exact firstKid_ok ts (i + 1) (m + t.size) (by omega) (by omega) (by omega)
theorem kids_of {H : Hp} : ∀ {vs : List V} {ts : List Pn}, PtAll K H vs ts → Pn.lvs ts ≤ 20 → Pn.sizes ts ≤ 100000 → KidAll K H vs (ts.map .pn)
  | _, _, .nil, _, _ => .nil
  | _, _, .cons h r, h1, h2 => by
    unfold Pn.lvs at h1
    unfold Pn.sizes at h2
    exact .cons (.pn h (by omega) (by omega)) (kids_of r (by omega) (by omega))
/-- a new plan, all of it right -/
theorem right_sup {H : Hp} {v1 v2 v3 v4 v5 v6 : V} {d1 d2 d3 d4 d5 d6 : Dt} {rest : List V} {ts : List Pn} {Q : Addr → Hp → Prop} {E : XK} (h1 : Dd K H v1 d1) (h2 : Dd K H v2 d2) (h3 : Dd K H v3 d3) (h4 : Dd K H v4 d4) (h5 : Dd K H v5 d5) (h6 : Dd K H v6 d6) (fb : firstBad (sset d1 d2 d3 d4 d5 d6) = none)
    (hr : PtAll K H rest ts) (n : ts.length ≤ 12) (sz : 1 + Pn.sizes ts ≤ 200) (lv : Pn.lvs ts + 1 ≤ 20) (k : ∀ x H', Same H H' → H x = none → Pt K H' (.ref x) (.sup ts) → Q x H') :
    ∀ x dx, H x = none → H dx = none → dx ≠ x → ∀ p, (upd (upd H dx (.own x)) x (.ins (suA K) dx [])) p = none →
      spSInit K [.ref x, v1, v2, v3, v4, v5, v6, .ref p] (upd (upd (upd H dx (.own x)) x (.ins (suA K) dx [])) p (.tup rest)) (fun v H3 => v = .non ∧ Q x H3) E := by
  intro x dx nx nd ne p np
  have s0 : Same H (upd (upd H dx (.own x)) x (.ins (suA K) dx [])) := (Same.new nd).trans (Same.new (by rw [upd_ne (Ne.symm ne)]; exact nx))
  have px : p ≠ x := fun z => by rw [z, upd_same] at np; cases np
  have s1 := s0.trans (Same.new (o := HO.tup rest) np)
  have fk := firstKid_ok ts 0 1 (by omega) sz lv
  refine ⟨x, dx, v1, v2, v3, v4, v5, v6, d1, d2, d3, d4, d5, d6, p, rest, ts.map .pn, rfl, by rw [upd_ne (Ne.symm px)]; exact upd_same, h1.same s1, h2.same s1, h3.same s1, h4.same s1, h5.same s1, h6.same s1, SqT.of upd_same, kids_of (hr.same s1) (by omega) (by omega),
    fun _ _ H' s' => ⟨rfl, ?_⟩, fun y e => ?_, fun _ i e => ?_⟩
  · have s2 : ∀ fs, Same H (upd H' x (.ins (suA K) dx fs)) := fun fs => same_putN (s1.trans s') nx
    have at_p : ∀ fs, upd H' x (.ins (suA K) dx fs) p = some (.tup rest) := fun fs => by rw [upd_ne px]; exact s' _ _ upd_same
    exact k x _ (s2 _) nx (.sup upd_same (by kernel_rfl) (SqT.of (at_p _)) (hr.same (s2 _)))
  · rw [fb] at e; cases e
  · rw [fk] at e; cases e
theorem right_supD {H : Hp} {v1 : V} {d1 : Dt} {rest : List V} {ts : List Pn} {Q : Addr → Hp → Prop} {E : XK} (h1 : Dd K H v1 d1) (p1 : isPlace d1 = true) (hr : PtAll K H rest ts) (n : ts.length ≤ 12) (sz : 1 + Pn.sizes ts ≤ 200) (lv : Pn.lvs ts + 1 ≤ 20) (k : ∀ x H', Same H H' → H x = none → Pt K H' (.ref x) (.sup ts) → Q x H') :
    ∀ x dx, H x = none → H dx = none → dx ≠ x → spSMadeD K (.ref x :: v1 :: rest) (upd (upd H dx (.own x)) x (.ins (suA K) dx [])) (fun v H3 => v = .non ∧ Q x H3) E := by
  intro x dx nx nd ne
  have lr : rest.length ≤ sizeLine := by
    have : rest.length = ts.length := hr.len
    exact Nat.le_trans (show rest.length ≤ 12 by omega) (by decide)
  exact ⟨_, _, rest, rfl, lr, right_sup h1 (.str "permanent") (.str "one") (.int 1) (.int 10) .non (by
    unfold sset
    rw [p1]
    decide +kernel) hr n sz lv k x dx nx nd ne⟩
end
end K08
/-! _law_sup, _law_build -/
namespace K08
open PySem PySem.Spec PyProof.Rows L2
theorem one_of {x : Str} {ws : List Str} (h : x ∈ ws) : isOne ws (.str x) = true := by
  show ws.contains x = true
  rw [List.contains_iff_mem]
  exact h
theorem btw_of {lo hi i : Int} (h1 : lo ≤ i) (h2 : i ≤ hi) : isBtw lo hi (.int i) = true := by
  show (decide (lo ≤ i) && decide (i ≤ hi)) = true
  rw [decide_eq_true h1, decide_eq_true h2]; rfl
def dlD : V → Dt
  | .int i => .int i
  | _ => .non
theorem dl_ok {v : V} (h : DlOk v) : deadD (dlD v) = true := by
  rcases h with rfl | ⟨i, rfl, h1, h2⟩
  · rfl
  · show (isBtw 0 1000000000 (.int i)) = true
    exact btw_of h1 h2
section
variable {P : Program} {w : World} {K : PySem.W.Frag} {mg : Str → Option Value} {base : Heap}
theorem dl_dd {v : V} {H : Hp} (h : DlOk v) : Dd K H v (dlD v) := by
  rcases h with rfl | ⟨i, rfl, _, _⟩
  · exact .non
  · exact .int i
theorem nm_dd {x : Str} {H : Hp} (h : NmOk x) : Dd K H (.str x) (.str x) := .str x (Nat.le_trans h.2 (by decide))
theorem rs_dd {x : Str} {H : Hp} (h : x ∈ restartsS) : Dd K H (.str x) (.str x) := .str x (by
  have all : ∀ y ∈ restartsS, y.length ≤ 1000 := by decide +kernel
  exact all x h)
theorem st_dd {x : Str} {H : Hp} (h : x ∈ strategiesS) : Dd K H (.str x) (.str x) := .str x (by
  have all : ∀ y ∈ strategiesS, y.length ≤ 1000 := by decide +kernel
  exact all x h)
theorem sset_tr {n r st : Str} {mo sp : Int} {dl : V} {ks : List Tr} (h : (Tr.s n r st mo sp dl ks).ok) : firstBad (sset (.str n) (.str r) (.str st) (.int mo) (.int sp) (dlD dl)) = none := by
  obtain ⟨h1, h2, h3, h4, h5, h6, _⟩ := h
  unfold sset
  have e2 : isOne restarts (.str r) = true := one_of h2
  have e3 : isOne ["one", "rest", "all"] (.str st) = true := one_of h3
  rw [h1.1, e2, e3, btw_of h4.1 h4.2, btw_of h5.1 h5.2, dl_ok h6]
  rfl
theorem wset_tr {n r : Str} {o c rf : Int} {dl sc : V} {sd : Dt} (h : (Tr.w n r o c dl rf sc sd).ok) : firstBad (wset (.str n) (.str r) (.int o) (.int c) (dlD dl) (.int rf) sd) = none := by
  obtain ⟨h1, h2, h3, h4, h5, h6, h7, _⟩ := h
  unfold wset
  have e2 : isOne restarts (.str r) = true := one_of h2
  rw [h1.1, e2, btw_of h3.1 h3.2, btw_of h4.1 h4.2, dl_ok h5, btw_of h6.1 h6.2, h7]
  rfl
/-- a supervisor's plan, all of it told -/
theorem right_supF {H : Hp} {n r st : Str} {mo sp : Int} {dl : V} {rest : List V} {ks : List Tr} {Q : Addr → Hp → Prop} (ok : (Tr.s n r st mo sp dl ks).ok) (hr : PTrs K H rest ks) (sz : 1 + Pn.sizes (Tr.pns ks) ≤ 200) (lv : Pn.lvs (Tr.pns ks) + 1 ≤ 20)
    (k : ∀ x H', Same H H' → H x = none → PTr K H' (.ref x) (.s n r st mo sp dl ks) → Q x H') :
    ∀ x dx, H x = none → H dx = none → dx ≠ x → ∀ p, (upd (upd H dx (.own x)) x (.ins (suA K) dx [])) p = none →
      spSInit K [.ref x, .str n, .str r, .str st, .int mo, .int sp, dl, .ref p] (upd (upd (upd H dx (.own x)) x (.ins (suA K) dx [])) p (.tup rest)) (fun v H3 => v = .non ∧ Q x H3) ENo := by
  intro x dx nx nd ne p np
  have s0 : Same H (upd (upd H dx (.own x)) x (.ins (suA K) dx [])) := (Same.new nd).trans (Same.new (by rw [upd_ne (Ne.symm ne)]; exact nx))
  have px : p ≠ x := fun z => by rw [z, upd_same] at np; cases np
  have s1 := s0.trans (Same.new (o := HO.tup rest) np)
  have ks12 : ks.length ≤ 4 := ok.2.2.2.2.2.2.1
  have fk := firstKid_ok (Tr.pns ks) 0 1 (by rw [pns_len]; omega) sz lv
  have fb := sset_tr ok
  refine ⟨x, dx, .str n, .str r, .str st, .int mo, .int sp, dl, .str n, .str r, .str st, .int mo, .int sp, dlD dl, p, rest, (Tr.pns ks).map .pn, rfl, by rw [upd_ne (Ne.symm px)]; exact upd_same, nm_dd ok.1, rs_dd ok.2.1, st_dd ok.2.2.1, .int _, .int _, dl_dd ok.2.2.2.2.2.1, SqT.of upd_same, kids_of ((hr.pt).same s1) (by omega) (by omega),
    fun _ _ H' s' => ⟨rfl, ?_⟩, fun y e => ?_, fun _ i e => ?_⟩
  · have s2 : ∀ fs, Same H (upd H' x (.ins (suA K) dx fs)) := fun fs => same_putN (s1.trans s') nx
    have at_p : ∀ fs, upd H' x (.ins (suA K) dx fs) p = some (.tup rest) := fun fs => by rw [upd_ne px]; exact s' _ _ upd_same
    exact k x _ (s2 _) nx (.s upd_same (SqT.of (at_p _)) (PTrs.solid (Solid.of_same (s2 _)) hr))
  · rw [fb] at e; cases e
  · rw [fk] at e; cases e
theorem right_supM {H : Hp} {n r st : Str} {mo sp : Int} {dl : V} {rest : List V} {ks : List Tr} {Q : Addr → Hp → Prop} (ok : (Tr.s n r st mo sp dl ks).ok) (hr : PTrs K H rest ks) (sz : 1 + Pn.sizes (Tr.pns ks) ≤ 200) (lv : Pn.lvs (Tr.pns ks) + 1 ≤ 20)
    (k : ∀ x H', Same H H' → H x = none → PTr K H' (.ref x) (.s n r st mo sp dl ks) → Q x H') :
    ∀ x dx, H x = none → H dx = none → dx ≠ x → spSMade K (.ref x :: .str n :: rest) [.str r, .str st, .int mo, .int sp, dl] (upd (upd H dx (.own x)) x (.ins (suA K) dx [])) (fun v H3 => v = .non ∧ Q x H3) ENo := by
  intro x dx nx nd ne
  have lr : rest.length ≤ sizeLine := by
    have : rest.length = ks.length := hr.len
    have := ok.2.2.2.2.2.2.1
    exact Nat.le_trans (show rest.length ≤ 12 by omega) (by decide)
  exact ⟨[.ref x, .str n], rest, rfl, rfl, lr, right_supF ok hr sz lv k x dx nx nd ne⟩
/-! ### _law_sup -/
/-- small enough to be a plan -/
def FitT (ks : List Tr) : Prop := 1 + Pn.sizes (Tr.pns ks) ≤ 200 ∧ Pn.lvs (Tr.pns ks) + 1 ≤ 20
def spSupL (K : PySem.W.Frag) (lo : Nat) : Sp := fun vs H Q _ => ∃ (kl sA : Addr) (n r st : Str) (mo sp : Int) (dl : V) (xs : List V) (ks : List Tr), vs = [.str n, .ref kl, .ref sA] ∧ H kl = some (.lst xs) ∧ SqT K H sA [.str r, .str st, .int mo, .int sp, dl] ∧ lo ≤ xs.length ∧ xs.length ≤ 4 ∧ PTrs K H xs ks ∧ (Tr.s n r st mo sp dl ks).ok ∧ FitT ks ∧
  ∀ x H', Same H H' → H x = none → PTr K H' (.ref x) (.s n r st mo sp dl ks) → Q (.ref x) H'
abbrev s_law_sup : Stmt := (top 102)
def N_law_sup : List Str := ["label", "c", "s", "a", "b", "d", "e", "f", "many"]
theorem sc_law_sup : FnScope N_law_sup ["label", "c", "s"] (defScope s_law_sup) := ⟨rfl, rfl, rfl, by decide +kernel, rfl, by decide +kernel, by decide +kernel⟩
theorem ok_sup (F : Has K mg "_law_sup" s_law_sup) (T : Txt K mg) (WS : Su K mg) (FS : FnRK P w K mg base (L2.CX P w) 25 (He.ma K (suA K) "__init__") sKs (spSMade K)) : FnQ P w K mg base CX0 29 "_law_sup" ["label", "c", "s"] (spSupL K 0) := by
  refine F.q sc_law_sup (fun _ _ _ _ _ _ us hl => match us, hl with | [_, _, _], _ => rfl) (fun vs H Q E h => by obtain ⟨_, _, _, _, _, _, _, _, _, _, rfl, _⟩ := h; rfl) (fun cdv A outer s H vs Q E hr h => ?_)
  obtain ⟨kl, sA, n, r, st, mo, sp, dl, xs, ks, rfl, ek, hs, m1, m2, hk, ok, fit, k⟩ := h
  have gL : mg "len" = none := T.fr _ (by simp [frees])
  refine ⟨_, PSs.nox (pss_cons (ps_asg (pv 2) (pg_tup rfl (pgs_cons (pg_name (i := 3) sc_law_sup.nd rfl (by first | exact .inl rfl | exact .inr rfl)) (pgs_cons (pg_name (i := 4) sc_law_sup.nd rfl (by first | exact .inl rfl | exact .inr rfl)) (pgs_cons (pg_name (i := 5) sc_law_sup.nd rfl (by first | exact .inl rfl | exact .inr rfl)) (pgs_cons (pg_name (i := 6) sc_law_sup.nd rfl (by first | exact .inl rfl | exact .inr rfl)) (pgs_cons (pg_name (i := 7) sc_law_sup.nd rfl (by first | exact .inl rfl | exact .inr rfl)) pgs_nil)))))))
  (pss_cons (ps_set (i := 8) sc_law_sup.nd rfl (by first | exact .inl rfl | exact .inr rfl) (pe_callB call_len_seq (by rfl) gL boot_len (pa_cons (pv 1) pa_nil)))
  (pss_cons (ps_if (pt_cmpR op_eq (pv 8) pe_int (by first | exact nomark _ | rfl))
  (pss_one (ps_ret (pe_makeRK WS.mkr FS (hr.mono (by decide)) rfl WS.gl passNo (pa_cons (pv 0) pa_nil) (pk_cons (pv 3) (pk_cons (pv 4) (pk_cons (pv 5) (pk_cons (pv 6) (pk_cons (pv 7) pk_nil))))))))
  pss_nil)
  (pss_cons (ps_if (pt_cmpR op_eq (pv 8) pe_int (by first | exact nomark _ | rfl))
  (pss_one (ps_ret (pe_makeRK WS.mkr FS (hr.mono (by decide)) rfl WS.gl passNo (pa_cons (pv 0) (pa_cons (pe_ix ix_list (pv 1) pe_int (fun _ _ => rfl)) pa_nil)) (pk_cons (pv 3) (pk_cons (pv 4) (pk_cons (pv 5) (pk_cons (pv 6) (pk_cons (pv 7) pk_nil))))))))
  pss_nil)
  (pss_cons (ps_if (pt_cmpR op_eq (pv 8) pe_int (by first | exact nomark _ | rfl))
  (pss_one (ps_ret (pe_makeRK WS.mkr FS (hr.mono (by decide)) rfl WS.gl passNo (pa_cons (pv 0) (pa_cons (pe_ix ix_list (pv 1) pe_int (fun _ _ => rfl)) (pa_cons (pe_ix ix_list (pv 1) pe_int (fun _ _ => rfl)) pa_nil))) (pk_cons (pv 3) (pk_cons (pv 4) (pk_cons (pv 5) (pk_cons (pv 6) (pk_cons (pv 7) pk_nil))))))))
  pss_nil)
  (pss_cons (ps_if (pt_cmpR op_eq (pv 8) pe_int (by first | exact nomark _ | rfl))
  (pss_one (ps_ret (pe_makeRK WS.mkr FS (hr.mono (by decide)) rfl WS.gl passNo (pa_cons (pv 0) (pa_cons (pe_ix ix_list (pv 1) pe_int (fun _ _ => rfl)) (pa_cons (pe_ix ix_list (pv 1) pe_int (fun _ _ => rfl)) (pa_cons (pe_ix ix_list (pv 1) pe_int (fun _ _ => rfl)) pa_nil)))) (pk_cons (pv 3) (pk_cons (pv 4) (pk_cons (pv 5) (pk_cons (pv 6) (pk_cons (pv 7) pk_nil))))))))
  pss_nil)
  (pss_one (ps_ret (pe_makeRK WS.mkr FS (hr.mono (by decide)) rfl WS.gl passNo (pa_cons (pv 0) (pa_cons (pe_ix ix_list (pv 1) pe_int (fun _ _ => rfl)) (pa_cons (pe_ix ix_list (pv 1) pe_int (fun _ _ => rfl)) (pa_cons (pe_ix ix_list (pv 1) pe_int (fun _ _ => rfl)) (pa_cons (pe_ix ix_list (pv 1) pe_int (fun _ _ => rfl)) pa_nil))))) (pk_cons (pv 3) (pk_cons (pv 4) (pk_cons (pv 5) (pk_cons (pv 6) (pk_cons (pv 7) pk_nil)))))))))))))), ?_⟩
  refine ⟨_, rfl, sA, _, rfl, hs, rfl, _, _, rfl, _, _, rfl, _, _, rfl, _, _, rfl, _, _, rfl, rfl, ?_⟩
  refine ⟨_, rfl, kl, xs, rfl, .inl (SqL.of ek), ?_⟩
  have big : xs.length ≤ 4 := m2
  match xs, m1, big, ek, hk with
  | [], _, _, ek, hk =>
    exact ⟨_, rfl, rfl, _, rfl, if_yes (by show decide (V.int (0 : Int) = V.int (0 : Int)) = true; decide) ⟨_, rfl, _, rfl, _, rfl, _, rfl, _, rfl, _, rfl, rfl, right_supM ok hk fit.1 fit.2 fun x H' s n2 p => k x H' s n2 p⟩⟩
  | [x0], _, _, ek, hk =>
    refine ⟨_, rfl, rfl, _, rfl, if_no (by show decide (V.int (1 : Int) = V.int (0 : Int)) = false; decide) ?_⟩
    exact ⟨_, rfl, rfl, _, rfl, if_yes (by show decide (V.int (1 : Int) = V.int (1 : Int)) = true; decide) ⟨_, rfl, _, rfl, kl, _, _, _, rfl, rfl, SqL.of ek, atI_nat rfl, _, rfl, _, rfl, _, rfl, _, rfl, _, rfl, rfl, right_supM ok hk fit.1 fit.2 fun x H' s n2 p => k x H' s n2 p⟩⟩
  | [x0, x1], _, _, ek, hk =>
    refine ⟨_, rfl, rfl, _, rfl, if_no (by show decide (V.int (2 : Int) = V.int (0 : Int)) = false; decide) ?_⟩
    refine ⟨_, rfl, rfl, _, rfl, if_no (by show decide (V.int (2 : Int) = V.int (1 : Int)) = false; decide) ?_⟩
    exact ⟨_, rfl, rfl, _, rfl, if_yes (by show decide (V.int (2 : Int) = V.int (2 : Int)) = true; decide) ⟨_, rfl, _, rfl, kl, _, _, _, rfl, rfl, SqL.of ek, atI_nat rfl, _, rfl, kl, _, _, _, rfl, rfl, SqL.of ek, atI_nat rfl, _, rfl, _, rfl, _, rfl, _, rfl, _, rfl, rfl, right_supM ok hk fit.1 fit.2 fun x H' s n2 p => k x H' s n2 p⟩⟩
  | [x0, x1, x2], _, _, ek, hk =>
    refine ⟨_, rfl, rfl, _, rfl, if_no (by show decide (V.int (3 : Int) = V.int (0 : Int)) = false; decide) ?_⟩
    refine ⟨_, rfl, rfl, _, rfl, if_no (by show decide (V.int (3 : Int) = V.int (1 : Int)) = false; decide) ?_⟩
    refine ⟨_, rfl, rfl, _, rfl, if_no (by show decide (V.int (3 : Int) = V.int (2 : Int)) = false; decide) ?_⟩
    exact ⟨_, rfl, rfl, _, rfl, if_yes (by show decide (V.int (3 : Int) = V.int (3 : Int)) = true; decide) ⟨_, rfl, _, rfl, kl, _, _, _, rfl, rfl, SqL.of ek, atI_nat rfl, _, rfl, kl, _, _, _, rfl, rfl, SqL.of ek, atI_nat rfl, _, rfl, kl, _, _, _, rfl, rfl, SqL.of ek, atI_nat rfl, _, rfl, _, rfl, _, rfl, _, rfl, _, rfl, rfl, right_supM ok hk fit.1 fit.2 fun x H' s n2 p => k x H' s n2 p⟩⟩
  | [x0, x1, x2, x3], _, _, ek, hk =>
    refine ⟨_, rfl, rfl, _, rfl, if_no (by show decide (V.int (4 : Int) = V.int (0 : Int)) = false; decide) ?_⟩
    refine ⟨_, rfl, rfl, _, rfl, if_no (by show decide (V.int (4 : Int) = V.int (1 : Int)) = false; decide) ?_⟩
    refine ⟨_, rfl, rfl, _, rfl, if_no (by show decide (V.int (4 : Int) = V.int (2 : Int)) = false; decide) ?_⟩
    refine ⟨_, rfl, rfl, _, rfl, if_no (by show decide (V.int (4 : Int) = V.int (3 : Int)) = false; decide) ?_⟩
    exact ⟨_, rfl, _, rfl, kl, _, _, _, rfl, rfl, SqL.of ek, atI_nat rfl, _, rfl, kl, _, _, _, rfl, rfl, SqL.of ek, atI_nat rfl, _, rfl, kl, _, _, _, rfl, rfl, SqL.of ek, atI_nat rfl, _, rfl, kl, _, _, _, rfl, rfl, SqL.of ek, atI_nat rfl, _, rfl, _, rfl, _, rfl, _, rfl, _, rfl, rfl, right_supM ok hk fit.1 fit.2 fun x H' s n2 p => k x H' s n2 p⟩
  | _ :: _ :: _ :: _ :: _ :: _, _, m2, _, _ => exact absurd m2 (by simp)
/-! ### _law_build -/
theorem ptrs_of {H : Hp} : ∀ {xs : List V} {ks : List Tr}, xs.length = ks.length → (∀ (i : Nat) v, xs[i]? = some v → ∃ t, ks[i]? = some t ∧ PTr K H v t) → PTrs K H xs ks
  | [], [], _, _ => .nil
  | v :: xs, t :: ks, l, h => by
    obtain ⟨t', e, hv⟩ := h 0 v rfl
    cases e
    exact .cons hv (ptrs_of (by simpa using l) fun i u e => by simpa using h (i + 1) u (by simpa using e))
  | [], _ :: _, l, _ => by simp at l
  | _ :: _, [], l, _ => by simp at l
theorem oks_get : ∀ {ks : List Tr} {i : Nat} {t : Tr}, Tr.oks ks → ks[i]? = some t → t.ok
  | t0 :: ks, 0, t, h, e => by simp at e; subst e; exact h.1
  | t0 :: ks, i + 1, t, h, e => oks_get h.2 (by simpa using e)
theorem lvs_get : ∀ {ks : List Tr} {i : Nat} {t : Tr}, ks[i]? = some t → t.pn.lv ≤ Pn.lvs (Tr.pns ks)
  | t0 :: ks, 0, t, e => by
    simp at e; subst e
    show _ ≤ max t0.pn.lv (Pn.lvs (Tr.pns ks)); omega
  | t0 :: ks, i + 1, t, e => by
    have z := lvs_get (ks := ks) (i := i) (t := t) (by simpa using e)
    show _ ≤ max t0.pn.lv (Pn.lvs (Tr.pns ks)); omega
theorem sizes_get : ∀ {ks : List Tr} {i : Nat} {t : Tr}, ks[i]? = some t → t.pn.size ≤ Pn.sizes (Tr.pns ks)
  | t0 :: ks, 0, t, e => by
    simp at e; subst e
    show _ ≤ t0.pn.size + Pn.sizes (Tr.pns ks); omega
  | t0 :: ks, i + 1, t, e => by
    have z := sizes_get (ks := ks) (i := i) (t := t) (by simpa using e)
    show _ ≤ t0.pn.size + Pn.sizes (Tr.pns ks); omega
def spBuild (K : PySem.W.Frag) (n : Nat) : Sp := fun vs H Q _ => ∃ v t, vs = [v] ∧ DTr K H v t ∧ t.ok ∧ t.pn.lv ≤ n ∧ n ≤ 20 ∧ t.pn.size ≤ 200 ∧ ∀ u H', Same H H' → PTr K H' u t → Q u H'
abbrev s_law_build : Stmt := (top 103)
def N_law_build : List Str := ["d", "child"]
theorem sc_law_build : FnScope N_law_build ["d"] (defScope s_law_build) := ⟨rfl, rfl, rfl, by decide +kernel, rfl, by decide +kernel, by decide +kernel⟩
abbrev wKs : List Str := ["restart", "opening", "closing", "deadline", "refused", "script"]
/-- WorkerPlan(name, all settings by name) -/
theorem wk_bindA {dS : Addr} {fd : FuncData} (F : FunD K "__init__" "WorkerPlan.__init__" (defArgs s_WorkerPlan___init__) (defBody s_WorkerPlan___init__) (defScope s_WorkerPlan___init__) [] (wDef dS) (He.ma K (wkA K) "__init__") fd) :
    ∃ mv : List Value, KBn K fd wPs 2 wKs (fun us ws => us ++ mv ++ ws) (fun vs zs => vs ++ [] ++ zs) := by
  refine F.kbinds0 2 wKs [] (fun a b c => a ++ b ++ c) (by simp [wDef]) (by simp) (fun r1 r2 r3 => (r1.append r2).append r3) ?_
  intro D doc pm an cdv ct us mv ws l1 l2 l3
  match us, mv, ws, l1, l2, l3 with
  | [_, _], [], [_, _, _, _, _, _], _, _, _ => rfl
theorem lv_pos (t : Tr) : 0 < t.pn.lv := t.pn.lv_pos
theorem ok_build {fd : FuncData} {mv : List Value} (F : Has K mg "_law_build" s_law_build) (T : Txt K mg) (W : Wk K mg) (FW : FnOk P w K mg base (L2.CX P w) 11 (He.ma K (wkA K) "__init__") fd wPs (spWInit K)) (hbA : KBn K fd wPs 2 wKs (fun us ws => us ++ mv ++ ws) (fun vs zs => vs ++ [] ++ zs))
    (F_law_sup : FnQ P w K mg base CX0 29 "_law_sup" ["label", "c", "s"] (spSupL K 0)) : ∀ n, FnQ P w K mg base CX0 (n + 30) "_law_build" ["d"] (spBuild K n) := by
  intro n
  induction n with
  | zero =>
    refine F.q sc_law_build (fun _ _ _ _ _ _ us hl => match us, hl with | [_], _ => rfl) (fun vs H Q E h => by obtain ⟨_, _, rfl, _⟩ := h; rfl) (fun cdv A outer s H vs Q E hr h => ?_)
    obtain ⟨v, t, _, _, _, lv, _⟩ := h
    have := lv_pos t
    omega
  | succ n F_law_build =>
    refine F.q sc_law_build (fun _ _ _ _ _ _ us hl => match us, hl with | [_], _ => rfl) (fun vs H Q E h => by obtain ⟨_, _, rfl, _⟩ := h; rfl) (fun cdv A outer s H vs Q E hr h => ?_)
    obtain ⟨v, t, rfl, hv, ok, lv, n19, sz, k⟩ := h
    refine ⟨_, PSs.nox (pss_cons (ps_if (pt_cmpR op_eq (pe_ix ix_tup (pv 0) pe_int (fun _ _ => rfl)) pe_str (by first | exact nomark _ | rfl))
  (pss_one (ps_ret (pe_f F_law_sup hr pass0 (pa_cons (pe_ix ix_tup (pv 0) pe_int (fun _ _ => rfl)) (pa_cons (pe_lc (own := [("child", 1)]) (tt := tYes) rfl sc_law_build.nd (pi_tup (pe_ix ix_tup (pv 0) pe_int (fun _ _ => rfl))) (blkOk_by (N := N_law_build) (sc := defScope s_law_build) (by decide +kernel)) (fun _ _ _ _ _ => (pg_name (i := 1) sc_law_build.nd rfl (by first | exact .inl rfl | exact .inr rfl))) (fun _ _ _ _ _ => pts_nil) (fun _ _ _ _ _ => (pe_f F_law_build hr pass0 (pa_cons (pv 1) pa_nil) (hj := by omega)))) (pa_cons (pe_slice sl_tup (pv 0) (po_some pe_int) (po_some pe_int)) pa_nil))) (hj := by omega))))
  pss_nil)
  (pss_one (ps_ret (pe_makeN W.mkr FW (hr.mono (by omega)) (by rfl) W.gl hbA passNo (pa_cons (pe_ix ix_tup (pv 0) pe_int (fun _ _ => rfl)) pa_nil) (pk_cons (pe_ix ix_tup (pv 0) pe_int (fun _ _ => rfl)) (pk_cons (pe_ix ix_tup (pv 0) pe_int (fun _ _ => rfl)) (pk_cons (pe_ix ix_tup (pv 0) pe_int (fun _ _ => rfl)) (pk_cons (pe_ix ix_tup (pv 0) pe_int (fun _ _ => rfl)) (pk_cons (pe_ix ix_tup (pv 0) pe_int (fun _ _ => rfl)) (pk_cons (pe_ix ix_tup (pv 0) pe_int (fun _ _ => rfl)) pk_nil)))))))))), ?_⟩
    cases hv with
    | @w a nm r o c dl rf sc sd h hd so =>
      have at_ : ∀ {i : Nat} {x : V}, [V.str "w", .str nm, .str r, .int o, .int c, dl, .int rf, sc][i]? = some x → atI [V.str "w", .str nm, .str r, .int o, .int c, dl, .int rf, sc] (i : Int) = some x := fun e => atI_nat e
      refine ⟨_, rfl, a, _, _, _, rfl, rfl, h, at_ (i := 0) rfl, rfl, _, rfl, if_no (by decide +kernel) ?_⟩
      refine ⟨_, rfl, a, _, _, _, rfl, rfl, h, at_ (i := 1) rfl, _, rfl, a, _, _, _, rfl, rfl, h, at_ (i := 2) rfl, _, rfl, a, _, _, _, rfl, rfl, h, at_ (i := 3) rfl, _, rfl, a, _, _, _, rfl, rfl, h, at_ (i := 4) rfl, _, rfl, a, _, _, _, rfl, rfl, h, at_ (i := 5) rfl, _, rfl, a, _, _, _, rfl, rfl, h, at_ (i := 6) rfl, _, rfl, a, _, _, _, rfl, rfl, h, at_ (i := 7) rfl, rfl, rfl, ?_⟩
      exact right_wkF (nm_dd ok.1) (rs_dd ok.2.1) (.int _) (.int _) (dl_dd ok.2.2.2.2.1) (.int _) hd (wset_tr ok) fun x dx H' s' n2 e2 => k (.ref x) H' s' (.w e2 (hd.same s') so)
    | @s a kl nm r st mo sp dl vs ks h hk ht =>
      have at_ : ∀ {i : Nat} {x : V}, [V.str "s", .str nm, .str r, .str st, .int mo, .int sp, dl, .ref kl][i]? = some x → atI [V.str "s", .str nm, .str r, .str st, .int mo, .int sp, dl, .ref kl] (i : Int) = some x := fun e => atI_nat e
      have lt : vs.length = ks.length := ht.len
      have lvk : 1 + Pn.lvs (Tr.pns ks) ≤ n + 1 := lv
      have szk : 1 + Pn.sizes (Tr.pns ks) ≤ 200 := sz
      have k4 : ks.length ≤ 4 := ok.2.2.2.2.2.2.1
      refine ⟨_, rfl, a, _, _, _, rfl, rfl, h, at_ (i := 0) rfl, rfl, _, rfl, if_yes (by decide +kernel) ?_⟩
      refine ⟨_, rfl, a, _, _, _, rfl, rfl, h, at_ (i := 1) rfl, ?_⟩
      refine ⟨_, rfl, a, _, _, _, rfl, rfl, h, at_ (i := 7) rfl, kl, rfl, ⟨_, hk⟩, comp_any walk_tup (P := fun i v G => ∃ t, ks[i]? = some t ∧ PTr K G v t) (small1000 (by omega)) (fun G g => g.sqT hk) (fun i G x G' y b o e => by rw [y.1]; exact e) (fun i v G1 G2 g ⟨t, e, p⟩ => ⟨t, e, PTr.solid (Solid.of_same g) p⟩) (fun i v G1 D xs ys _ e ⟨t, e2, p⟩ => ⟨t, e2, PTr.solid (Solid.upd (.inl ⟨_, e⟩)) p⟩) (fun i x G1 G2 R hi g1 yy kk => ?_) fun cl G w s2 _ e2 len2 val2 => ?_⟩
      · obtain ⟨rfl, ex⟩ := yy
        obtain ⟨t, et, hx⟩ := ht.get ex
        refine ⟨rfl, _, rfl, x, t, rfl, DTr.solid (Solid.of_same g1) hx, oks_get ok.2.2.2.2.2.2.2 et, ?_, by omega, ?_, fun u H' s' p => kk u H' s' ⟨t, et, p⟩⟩
        · have := lvs_get et; omega
        · have := sizes_get et; omega
      · have hp : PTrs K G w ks := ptrs_of (by rw [len2, lt]) fun i v e => val2 i v e
        refine ⟨_, rfl, 2, rfl, 7, rfl, a, _, rfl, s2.sqT h, (by show ¬ (HT.sIx 8 0 (some 2) = 0 ∧ HT.sIx 8 8 (some 7) = 8); decide), fun q nq => ?_⟩
        have sq : Same G (upd G q (.tup (cutV [V.str "s", .str nm, .str r, .str st, .int mo, .int sp, dl, .ref kl] (some 2) (some 7)))) := Same.new nq
        refine ⟨cl, q, nm, r, st, mo, sp, dl, w, ks, rfl, sq _ _ e2, SqT.of (upd_same.trans (congrArg (fun z => some (HO.tup z)) (by rfl))), Nat.zero_le _, by omega, PTrs.solid (Solid.of_same sq) hp, ok, ⟨szk, by omega⟩, fun x H' s' n2 p => k (.ref x) H' (s2.trans (sq.trans s')) p⟩
end
end K08
/-! lines in the order of a tree: the rows on the way, and the rows below each row -/
namespace K08
open PySem PySem.Spec PyProof.Rows L2
/-- the kids of a tree -/
def Tr.kids : Tr → List Tr
  | .w .. => []
  | .s _ _ _ _ _ _ ts => ts
/-- a tree's plan, without children -/
def Tr.bare : Tr → Tr
  | .w n r o c dl rf sc sd => .w n r o c dl rf sc sd
  | .s n r st mo sp dl _ => .s n r st mo sp dl []
mutual
/-- all in the order of the tree, with their levels -/
def pre (d : Nat) : Tr → List (Nat × Tr)
  | .w n r o c dl rf sc sd => [(d, .w n r o c dl rf sc sd)]
  | .s n r st mo sp dl ts => (d, .s n r st mo sp dl ts) :: preL (d + 1) ts
def preL (d : Nat) : List Tr → List (Nat × Tr)
  | [] => []
  | t :: ts => pre d t ++ preL d ts
end
mutual
theorem pre_len : ∀ (d : Nat) (t : Tr), (pre d t).length = t.names.length
  | d, .w _ _ _ _ _ _ _ _ => by rw [pre]; rfl
  | d, .s n r st mo sp dl ts => by
    rw [pre, List.length_cons, preL_len (d + 1) ts]; rfl
theorem preL_len : ∀ (d : Nat) (ts : List Tr), (preL d ts).length = (Tr.namesL ts).length
  | d, [] => by rw [preL]; rfl
  | d, t :: ts => by
    rw [preL, List.length_append, pre_len d t, preL_len d ts]
    show _ = (t.names ++ Tr.namesL ts).length
    rw [List.length_append]
end
/-- what is kept while lines are read: the rows of the latest plans of each level, and the rows below each -/
structure Ms where
  way : List Nat
  low : Nat → List Nat
/-- row k at level e -/
def Ms.put (S : Ms) (k e : Nat) : Ms := ⟨S.way.take e ++ [k], match e with
  | 0 => S.low
  | e + 1 => match S.way[e]? with
    | some j => fun i => if i = j then S.low i ++ [k] else S.low i
    | none => S.low⟩
/-- some lines from row k on -/
def runM (k : Nat) : List (Nat × Tr) → Ms → Ms
  | [], S => S
  | (e, _) :: es, S => runM (k + 1) es (S.put k e)
theorem runM_app : ∀ (xs ys : List (Nat × Tr)) (k : Nat) (S : Ms), runM k (xs ++ ys) S = runM (k + xs.length) ys (runM k xs S)
  | [], ys, k, S => by simp [runM]
  | (e, t) :: xs, ys, k, S => by
    rw [List.cons_append, runM, runM_app xs ys (k + 1) (S.put k e), runM, List.length_cons]
    congr 1
    omega
mutual
/-- from row i on, rows stand for the tree -/
def Sub (low : Nat → List Nat) (i : Nat) : Tr → Prop
  | .w .. => True
  | .s _ _ _ _ _ _ ts => low i = offs (i + 1) ts ∧ SubL low (i + 1) ts
def SubL (low : Nat → List Nat) (i : Nat) : List Tr → Prop
  | [] => True
  | t :: ts => Sub low i t ∧ SubL low (i + t.names.length) ts
def offs (i : Nat) : List Tr → List Nat
  | [] => []
  | t :: ts => i :: offs (i + t.names.length) ts
end
mutual
theorem Sub.same : ∀ {low low' : Nat → List Nat} {i : Nat} (t : Tr), (∀ x, i ≤ x → x < i + t.names.length → low' x = low x) → Sub low i t → Sub low' i t
  | low, low', i, .w .., h, _ => by unfold Sub; trivial
  | low, low', i, .s n r st mo sp dl ts, h, q => by
    unfold Sub at q ⊢
    have l : (Tr.s n r st mo sp dl ts).names.length = (Tr.namesL ts).length + 1 := rfl
    refine ⟨by rw [h i (Nat.le_refl _) (by omega)]; exact q.1, SubL.same ts (fun x h1 h2 => h x (by omega) (by omega)) q.2⟩
theorem SubL.same : ∀ {low low' : Nat → List Nat} {i : Nat} (ts : List Tr), (∀ x, i ≤ x → x < i + (Tr.namesL ts).length → low' x = low x) → SubL low i ts → SubL low' i ts
  | low, low', i, [], h, _ => by unfold SubL; trivial
  | low, low', i, t :: ts, h, q => by
    unfold SubL at q ⊢
    have l : (Tr.namesL (t :: ts)).length = t.names.length + (Tr.namesL ts).length := by
      show (t.names ++ Tr.namesL ts).length = _
      rw [List.length_append]
    exact ⟨Sub.same t (fun x h1 h2 => h x h1 (by omega)) q.1, SubL.same ts (fun x h1 h2 => h x (by omega) (by omega)) q.2⟩
end
/-- what a line asks of the rows ahead of it -/
def Cnd (sup : Nat → Prop) (S : Ms) (e : Nat) : Prop := e ≤ S.way.length ∧ (e = 0 → S.way = []) ∧ ∀ d, e = d + 1 → ∃ j, S.way[d]? = some j ∧ sup j ∧ (S.low j).length < 12
def okM (sup : Nat → Prop) (k : Nat) : List (Nat × Tr) → Ms → Prop
  | [], _ => True
  | (e, _) :: es, S => Cnd sup S e ∧ okM sup (k + 1) es (S.put k e)
theorem okM_app {sup : Nat → Prop} : ∀ (xs ys : List (Nat × Tr)) (k : Nat) (S : Ms), okM sup k xs S → okM sup (k + xs.length) ys (runM k xs S) → okM sup k (xs ++ ys) S
  | [], ys, k, S, _, h => by simpa [runM] using h
  | (e, t) :: xs, ys, k, S, h, g => by
    rw [List.cons_append]
    unfold okM at h ⊢
    refine ⟨h.1, okM_app xs ys (k + 1) (S.put k e) h.2 ?_⟩
    rw [runM, List.length_cons] at g
    rw [show k + 1 + xs.length = k + (xs.length + 1) by omega]
    exact g
def isS : Tr → Prop
  | .w .. => False
  | .s .. => True
def SupIn (sup : Nat → Prop) (k : Nat) (ls : List (Nat × Tr)) : Prop := ∀ i e t, ls[i]? = some (e, t) → isS t → sup (k + i)
theorem SupIn.left {sup : Nat → Prop} {k : Nat} {xs ys : List (Nat × Tr)} (h : SupIn sup k (xs ++ ys)) : SupIn sup k xs := fun i e t q => h i e t (by
  rw [List.getElem?_append_left (List.getElem?_eq_some_iff.mp q).1]; exact q)
theorem SupIn.right {sup : Nat → Prop} {k : Nat} {xs ys : List (Nat × Tr)} (h : SupIn sup k (xs ++ ys)) : SupIn sup (k + xs.length) ys := fun i e t q hs => by
  have z := h (xs.length + i) e t (by rw [List.getElem?_append_right (Nat.le_add_right _ _), Nat.add_sub_cancel_left]; exact q) hs
  rw [Nat.add_assoc]; exact z
structure St (S : Ms) (k d j : Nat) : Prop where
  w : S.way[d]? = some j
  l : j < k
  n : ∀ i, k ≤ i → S.low i = []
structure Po (S S' : Ms) (k n d j : Nat) (new : List Nat) : Prop where
  w : S'.way.take (d + 1) = S.way.take (d + 1)
  y : S'.low j = S.low j ++ new
  o : ∀ i, i < k → i ≠ j → S'.low i = S.low i
  n : ∀ i, k + n ≤ i → S'.low i = []
theorem take_get {α : Type} {xs ys : List α} {d : Nat} (h : xs.take (d + 1) = ys.take (d + 1)) : xs[d]? = ys[d]? := by
  have a : (xs.take (d + 1))[d]? = (ys.take (d + 1))[d]? := by rw [h]
  rwa [List.getElem?_take_of_lt (by omega), List.getElem?_take_of_lt (by omega)] at a
theorem put_cnd {sup : Nat → Prop} {S : Ms} {k d j : Nat} (Z : St S k d j) (hj : sup j) (few : (S.low j).length < 12) : Cnd sup S (d + 1) := by
  have lt := (List.getElem?_eq_some_iff.mp Z.w).1
  refine ⟨by omega, fun h => by omega, fun d' h => ?_⟩
  have : d' = d := by omega
  subst this
  exact ⟨j, Z.w, hj, few⟩
theorem put_low {S : Ms} {k d j : Nat} (Z : St S k d j) : (S.put k (d + 1)).low = fun i => if i = j then S.low i ++ [k] else S.low i := by
  show (match S.way[d]? with | some j => fun i => if i = j then S.low i ++ [k] else S.low i | none => S.low) = _
  rw [Z.w]
theorem put_po {S : Ms} {k d j : Nat} (Z : St S k d j) : Po S (S.put k (d + 1)) k 1 d j [k] := by
  have lt := (List.getElem?_eq_some_iff.mp Z.w).1
  refine ⟨?_, ?_, fun i h1 h2 => ?_, fun i h => ?_⟩
  · show (S.way.take (d + 1) ++ [k]).take (d + 1) = _
    rw [List.take_append_of_le_length (by rw [List.length_take]; omega), List.take_take, Nat.min_self]
  · rw [put_low Z]; exact if_pos rfl
  · rw [put_low Z]; exact if_neg h2
  · rw [put_low Z]
    have := Z.l
    dsimp only
    rw [if_neg (by omega)]
    exact Z.n i (by omega)
theorem put_way {S : Ms} {k d j : Nat} (Z : St S k d j) : (S.put k (d + 1)).way[d + 1]? = some k := by
  have lt := (List.getElem?_eq_some_iff.mp Z.w).1
  show (S.way.take (d + 1) ++ [k])[d + 1]? = some k
  rw [List.getElem?_append_right (by rw [List.length_take]; omega), List.length_take, Nat.min_eq_left (by omega), Nat.sub_self]
  rfl
mutual
theorem run_tree {sup : Nat → Prop} : ∀ (t : Tr) (d k j : Nat) (S : Ms), St S k d j → (S.low j).length < 12 → sup j → t.ok → SupIn sup k (pre (d + 1) t) →
    okM sup k (pre (d + 1) t) S ∧ Po S (runM k (pre (d + 1) t) S) k t.names.length d j [k] ∧ Sub (runM k (pre (d + 1) t) S).low k t
  | .w n r o c dl rf sc sd, d, k, j, S, Z, few, hj, ok, hs => by
    rw [pre, runM, runM, okM, okM]
    exact ⟨⟨put_cnd Z hj few, trivial⟩, put_po Z, by unfold Sub; trivial⟩
  | .s n r st mo sp dl ts, d, k, j, S, Z, few, hj, ok, hs => by
    rw [pre] at hs
    rw [pre, runM, okM]
    have P1 := put_po Z
    have Z1 : St (S.put k (d + 1)) (k + 1) (d + 1) k := ⟨put_way Z, Nat.lt_succ_self k, fun i h => P1.n i h⟩
    have low0 : (S.put k (d + 1)).low k = [] := by
      rw [put_low Z]
      have := Z.l
      dsimp only
      rw [if_neg (by omega)]
      exact Z.n k (Nat.le_refl _)
    have hk : sup k := hs 0 (d + 1) (.s n r st mo sp dl ts) rfl trivial
    have hs1 : SupIn sup (k + 1) (preL (d + 2) ts) := SupIn.right (xs := [(d + 1, .s n r st mo sp dl ts)]) hs
    obtain ⟨a1, a2, a3⟩ := run_list ts (d + 1) (k + 1) k (S.put k (d + 1)) Z1 (by rw [low0]; show 0 + ts.length ≤ 12; have := ok.2.2.2.2.2.2.1; omega) hk ok.2.2.2.2.2.2.2 hs1
    have l : (Tr.s n r st mo sp dl ts).names.length = (Tr.namesL ts).length + 1 := rfl
    refine ⟨⟨put_cnd Z hj few, a1⟩, ⟨?_, ?_, fun i h1 h2 => ?_, fun i h => a2.n i (by omega)⟩, ?_⟩
    · have z := congrArg (List.take (d + 1)) a2.w
      rw [List.take_take, List.take_take, Nat.min_eq_left (by omega)] at z
      rw [z]; exact P1.w
    · rw [a2.o j (by have := Z.l; omega) (by have := Z.l; omega)]; exact P1.y
    · rw [a2.o i (by omega) (by omega)]; exact P1.o i h1 h2
    · unfold Sub
      refine ⟨?_, a3⟩
      rw [a2.y, low0]; rfl
theorem run_list {sup : Nat → Prop} : ∀ (ts : List Tr) (d k j : Nat) (S : Ms), St S k d j → (S.low j).length + ts.length ≤ 12 → sup j → Tr.oks ts → SupIn sup k (preL (d + 1) ts) →
    okM sup k (preL (d + 1) ts) S ∧ Po S (runM k (preL (d + 1) ts) S) k (Tr.namesL ts).length d j (offs k ts) ∧ SubL (runM k (preL (d + 1) ts) S).low k ts
  | [], d, k, j, S, Z, few, hj, ok, hs => by
    rw [preL, runM, okM]
    exact ⟨trivial, ⟨rfl, by unfold offs; rw [List.append_nil], fun _ _ _ => rfl, fun i h => Z.n i (by omega)⟩, by unfold SubL; trivial⟩
  | t :: ts, d, k, j, S, Z, few, hj, ok, hs => by
    rw [preL] at hs
    rw [preL, runM_app]
    unfold Tr.oks at ok
    obtain ⟨a1, a2, a3⟩ := run_tree t d k j S Z (by rw [List.length_cons] at few; omega) hj ok.1 hs.left
    have hs2 := hs.right
    rw [pre_len] at hs2
    rw [pre_len]
    have Z2 : St (runM k (pre (d + 1) t) S) (k + t.names.length) d j := ⟨by rw [take_get a2.w]; exact Z.w, by have := Z.l; omega, a2.n⟩
    obtain ⟨b1, b2, b3⟩ := run_list ts d (k + t.names.length) j (runM k (pre (d + 1) t) S) Z2 (by rw [a2.y, List.length_append]; rw [List.length_cons] at few; show _ + 1 + _ ≤ 12; omega) hj ok.2 hs2
    have l : (Tr.namesL (t :: ts)).length = t.names.length + (Tr.namesL ts).length := by
      show (t.names ++ Tr.namesL ts).length = _
      rw [List.length_append]
    have jl := Z.l
    refine ⟨okM_app _ _ _ _ a1 (by rw [pre_len]; exact b1), ⟨b2.w.trans a2.w, ?_, fun i h1 h2 => ?_, fun i h => b2.n i (by omega)⟩, ?_⟩
    · rw [b2.y, a2.y, List.append_assoc]; rfl
    · rw [b2.o i (by omega) h2]; exact a2.o i h1 h2
    · unfold SubL
      exact ⟨Sub.same t (fun x h1 h2 => b2.o x (by omega) (by omega)) a3, b3⟩
end
/-- all lines of a tree -/
theorem run_all {sup : Nat → Prop} (t : Tr) (ok : t.ok) (hs : SupIn sup 0 (pre 0 t)) : okM sup 0 (pre 0 t) ⟨[], fun _ => []⟩ ∧ Sub (runM 0 (pre 0 t) ⟨[], fun _ => []⟩).low 0 t := by
  have c0 : Cnd sup ⟨[], fun _ => []⟩ 0 := ⟨Nat.le_refl _, fun _ => rfl, fun d h => by omega⟩
  cases t with
  | w n r o c dl rf sc sd =>
    rw [pre, okM, okM]
    exact ⟨⟨c0, trivial⟩, by unfold Sub; trivial⟩
  | s n r st mo sp dl ts =>
    rw [pre] at hs ⊢
    rw [okM, runM]
    have Z1 : St ((⟨[], fun _ => []⟩ : Ms).put 0 0) 1 0 0 := ⟨rfl, Nat.lt_succ_self 0, fun i h => rfl⟩
    have hk : sup 0 := hs 0 0 (.s n r st mo sp dl ts) rfl trivial
    have hs1 : SupIn sup 1 (preL 1 ts) := SupIn.right (xs := [(0, .s n r st mo sp dl ts)]) hs
    obtain ⟨a1, a2, a3⟩ := run_list ts 0 1 0 _ Z1 (by show 0 + ts.length ≤ 12; have := ok.2.2.2.2.2.2.1; omega) hk ok.2.2.2.2.2.2.2 hs1
    refine ⟨⟨c0, a1⟩, ?_⟩
    unfold Sub
    refine ⟨?_, a3⟩
    rw [a2.y]; rfl
end K08
/-! calls f(**d), C(**d): all by name, the names those of a dict -/
namespace StD
open PySem PySem.Spec PyProof.Rows L2
section
variable {P : Program} {w : World} {A : Around} {E : Value → Shared → Prop} {s : Shared} {K : Type} [DecidableEq K] {knd : KeyKind P w K}
theorem no_idx {es : Array DictEntry} {kvs : List (K × Value)} {k : K} (hp : Pairs knd es.toList kvs) (h : k ∉ kvs.map (·.1)) : (es.findIdx? fun e => knd.is k e.key) = none := by
  have hidx : (es.findIdx? fun e => knd.is k e.key) = kvs.findIdx? fun kv => decide (kv.1 = k) := by
    rw [← hp.findIdx k]; obtain ⟨l⟩ := es; simp
  rw [hidx, List.findIdx?_eq_none_iff]
  intro kv hkv
  exact decide_eq_false fun e => h (List.mem_map.mpr ⟨kv, hkv, e⟩)
theorem find_fresh {d : Addr} {kvs : List (K × Value)} {k : K} {key : Value} {Q : Option Nat → Shared → Prop} (hkey : knd.is k key = true) (hm : s.heap.DictOf knd d kvs) (h : k ∉ kvs.map (·.1)) (hQ : Q none s) :
    wpAny (model P w) A (dictFind d key (knd.hash k)) Q E s := by
  obtain ⟨o, es, ep, ho, hc, hd, hk, hp, hn⟩ := hm
  refine wpAny_dictFind_of hkey ho hd hk ?_
  rw [no_idx hp h]
  exact hQ
theorem put_fresh {d : Addr} {kvs : List (K × Value)} {k : K} {key v : Value} {Q : Unit → Shared → Prop} (hkey : knd.is k key = true) (hm : s.heap.DictOf knd d kvs) (h : k ∉ kvs.map (·.1)) (hsz : kvs.length ≤ sizeLine)
    (hQ : ∀ h', h'.DictOf knd d (kvs ++ [(k, v)]) → Heap.SameBut d s.heap h' → Q () { s with heap := h' }) :
    wpAny (model P w) A (dictPut d (knd.hash k) key v) Q E s := by
  obtain ⟨o, es, ep, ho, hc, hd, hk, hp, hn⟩ := hm
  have hes : es.size ≤ sizeLine := by
    have e1 := hp.length
    have e2 : es.toList.length = es.size := by simp
    omega
  unfold dictPut
  refine wpAny_bind (wpAny_dictFind_of hkey ho hd hk ?_)
  rw [no_idx hp h]
  refine wpAny_updateDictKeys (hz := hes) ho hd (hQ _ ⟨_, _, ep + 1, Heap.get?_update_self _ ho (Obj.isFreed_of_dict (Obj.data_mapDictKeys hd _)),
      hc.mapDictKeys _, Obj.data_mapDictKeys hd _, hk.push hkey _, ?_, ?_⟩ (Heap.SameBut.update ..))
  · have := hp.append hkey (knd.hash k) v
    obtain ⟨l⟩ := es
    simpa using this
  · rw [List.map_append, List.nodup_append]
    refine ⟨hn, by simp, ?_⟩
    intro a ha b hb
    simp only [List.map_cons, List.map_nil, List.mem_singleton] at hb
    subst hb
    exact fun e => h (e ▸ ha)
end
section
variable {P : Program} {w : World} {A : Around} {E : Value → Shared → Prop} {s : Shared}
theorem merge_new {d o : Addr} {more : List (Key × Value)} {Q : Unit → Shared → Prop} (hdo : d ≠ o) (hoS : (o == sysModules) = false)
    (hd : s.heap.DictOf (mixKind P w) d []) (ho : s.heap.DictOf (mixKind P w) o more) (hsz : more.length ≤ sizeLine)
    (hQ : ∀ h', h'.DictOf (mixKind P w) d more → Heap.SameBut d s.heap h' → Q () { s with heap := h' }) :
    wpAny (model P w) A (mergeMapping d (.ref o) true) Q E s := by
  obtain ⟨od, esd, epd, hod, hcd, hdd, hkd, hpd, hnd⟩ := id hd
  obtain ⟨oo, eso, epo, hoo, hco, hdo', hko, hpo, hno⟩ := id ho
  have hemp : esd.isEmpty = true := by
    have e1 := hpd.length
    have e2 : esd.toList.length = esd.size := by simp
    rw [Array.isEmpty_iff_size_eq_zero]
    rw [List.length_nil] at e1
    omega
  have hlen : more.length = eso.size := by rw [← hpo.length]; simp
  unfold mergeMapping
  refine wpAny_bind (wpAny_isInstance ho.typeIs isSubtype_dict_dict ?_)
  simp only [if_true]
  refine wpAny_bind (wpAny_specialOf ho.typeIs F.slot_dict_iter.lookup ?_)
  refine wpAny_bind (wpAny_pure ?_)
  simp only [beq_self_eq_true]
  rw [if_neg (by rw [hoS]; exact Bool.false_ne_true)]
  refine wpAny_bind (wpAny_dictEntries hod hdd ?_)
  rw [if_pos hemp]
  refine wpAny_bind (wpAny_dictEntries hoo hdo' ?_)
  refine wpAny_bind ?_
  rw [← Array.forIn_toList]
  have nref : ∀ e ∈ eso.toList, ∀ a, e.key ≠ .ref a := fun e he a q => by
    obtain ⟨k, hk1, _⟩ := hko e (by simpa using he)
    rw [q] at hk1
    cases k <;> exact Bool.noConfusion hk1
  refine wpAny_forIn_list _ (fun rest _ s' => s' = s ∧ ∀ e ∈ rest, e ∈ eso.toList) _ ?_ ?_ _ _ ⟨rfl, fun e h => h⟩
  · rintro e rest b s' ⟨rfl, hr⟩
    have n := nref e (hr e List.mem_cons_self)
    have z : wpAny (model P w) A (pure (ForInStep.yield PUnit.unit)) (fun r s'' => match r with | .yield _ => s'' = s' ∧ ∀ e ∈ rest, e ∈ eso.toList | .done _ => False) E s' := wpAny_pure ⟨rfl, fun e h => hr e (List.mem_cons_of_mem _ h)⟩
    split
    · rename_i a q
      exact absurd q (n a)
    · exact wpAny_pure ⟨rfl, fun e h => hr e (List.mem_cons_of_mem _ h)⟩
  rintro _ s' ⟨rfl, _⟩
  refine wpAny_bind (wpAny_dictEntries hoo hdo' ?_)
  refine wpAny_bind (wpAny_dictEpoch hoo hdo' ?_)
  refine wpAny_bind ?_
  refine wpAny_forIn_list _
    (fun rest _ s2 => ∃ h' i, s2 = { s' with heap := h' } ∧ rest = (List.range eso.size).drop i ∧ i ≤ eso.size ∧ h'.DictOf (mixKind P w) d (more.take i) ∧ h'.get? o = some oo ∧ Heap.SameBut d s'.heap h')
    _ ?_ ?_ _ _ ⟨s'.heap, 0, rfl, rfl, Nat.zero_le _, hd, hoo, Heap.SameBut.refl _ _⟩
  · rintro x rest b s2 ⟨h', i, rfl, hr, hi, hd', hoo', hs'⟩
    have hlt : i < eso.size := by
      rcases Nat.lt_or_ge i eso.size with h | h
      · exact h
      · rw [List.drop_of_length_le (by rw [List.length_range]; exact h)] at hr; cases hr
    rw [List.drop_eq_getElem_cons (by rw [List.length_range]; exact hlt)] at hr
    injection hr with h1 h2'
    rw [List.getElem_range] at h1
    subst h1
    refine wpAny_bind (wpAny_dictEntries hoo' hdo' ?_)
    rw [Array.getElem?_eq_getElem hlt]
    obtain ⟨kv, hkv⟩ : ∃ kv, more[x]? = some kv := ⟨more[x]'(by rw [hlen]; exact hlt), List.getElem?_eq_getElem _⟩
    obtain ⟨k, v⟩ := kv
    obtain ⟨hkey, hval⟩ := hpo.get? (e := eso[x]) (by simp [hlt]) hkv
    obtain ⟨k', hkey', hhash⟩ := hko eso[x] (Array.getElem_mem hlt)
    obtain rfl : k' = k := (mixKind P w).inj _ _ _ hkey' hkey
    have fresh : k' ∉ (more.take x).map (·.1) := fun hm => by
      have e1 : more = more.take x ++ more.drop x := (List.take_append_drop x more).symm
      have e2 : (k', v) ∈ more.drop x := by
        rw [List.drop_eq_getElem_cons (by rw [hlen]; exact hlt)]
        rw [List.getElem?_eq_getElem (by rw [hlen]; exact hlt)] at hkv
        rw [Option.some.inj hkv]
        exact List.mem_cons_self
      rw [e1, List.map_append, List.nodup_append] at hno
      exact hno.2.2 _ hm _ (List.mem_map.mpr ⟨_, e2, rfl⟩) rfl
    have hmx : (more.take x).length ≤ sizeLine := by
      rw [List.length_take]; omega
    refine wpAny_bind (wpAny_holding ?_)
    rw [hhash, hval]
    refine wpAny_bind (find_fresh (s := { s' with heap := h' }) hkey hd' fresh ?_)
    rw [if_neg (by simp)]
    refine put_fresh (s := { s' with heap := h' }) hkey hd' fresh hmx fun h2 hd2 hs2 => ?_
    have hoo2 : h2.get? o = some oo := (hs2.2 o (Ne.symm hdo)).trans hoo'
    refine wpAny_bind (wpAny_dictEpoch (s := { s' with heap := h2 }) hoo2 hdo' ?_)
    rw [if_neg (by simp)]
    refine wpAny_pure ⟨h2, x + 1, rfl, h2', hlt, ?_, hoo2, hs'.trans hs2⟩
    rw [List.take_add_one, hkv]
    exact hd2
  · rintro b s2 ⟨h', i, rfl, hr, hi, hd', hoo', hs'⟩
    have hin : i = eso.size := by
      rcases Nat.lt_or_ge i eso.size with h | h
      · rw [List.drop_eq_getElem_cons (by rw [List.length_range]; exact h)] at hr; cases hr
      · exact Nat.le_antisymm hi h
    refine wpAny_pure (hQ h' ?_ hs')
    rw [hin, ← hlen, List.take_length] at hd'
    exact hd'
/-- the dict of all keywords where there is a ** alone -/
theorem merged_one {f : Value} {x : Sem Value} {Q : Addr → Shared → Prop}
    (hx : wpAny (model P w) A x (fun v s1 => ∃ (o : Addr) (more : List (Key × Value)), v = .ref o ∧ o ≠ s.heap.objs.size ∧ (o == sysModules) = false ∧ s1.heap.DictOf (mixKind P w) s.heap.objs.size [] ∧ s1.heap.DictOf (mixKind P w) o more ∧ more.length ≤ sizeLine ∧
      ∀ h', h'.DictOf (mixKind P w) s.heap.objs.size more → Heap.SameBut s.heap.objs.size s1.heap h' → Q s.heap.objs.size { s1 with heap := h' }) E { s with heap := s.heap.push { cls := .type "dict", data := .dict #[] } }) :
    wpAny (model P w) A (mergedKeywords f [(none, x)]) Q E s := by
  unfold mergedKeywords
  refine wpAny_bind (wpAny_alloc ?_)
  refine wpAny_bind (wpAny_holding ?_)
  dsimp only
  rw [List.forIn_cons]
  refine wpAny_bind (wpAny_bind ?_)
  dsimp only
  rw [if_pos (show ([] : List (Str × Sem Value)).isEmpty = true from rfl)]
  refine wpAny_bind (wpAny_pure ?_)
  refine wpAny_bind (wpAny_mono hx (fun v s1 z => ?_) fun _ _ z => z)
  obtain ⟨o, more, rfl, hdo, hoS, hd, ho, hsz, hQ⟩ := z
  refine wpAny_bind (wpAny_onRaise (wpAny_holding (wpAny_tryCatch (wpAny_onRaise (merge_new (Ne.symm hdo) hoS hd ho hsz fun h' hd' hs' => ?_)))))
  refine wpAny_pure ?_
  dsimp only
  rw [List.forIn_nil]
  refine wpAny_pure ?_
  rw [if_pos (show ([] : List (Str × Sem Value)).isEmpty = true from rfl)]
  exact wpAny_pure (wpAny_pure (hQ h' hd' hs'))
theorem keywords_in {f : Value} {d : Addr} {kvs : List (Key × Value)} {ks : List Str} {Q : List (Str × Value) → Shared → Prop} (hd : s.heap.DictOf (mixKind P w) d kvs) (hk : kvs.map (·.1) = ks.map Sum.inr) (hQ : Q (ks.zip (kvs.map (·.2))) s) :
    wpAny (model P w) A (keywordsIn f d) Q E s := by
  obtain ⟨o, es, ep, ho, hc, hdat, hko, hp, hn⟩ := hd
  unfold keywordsIn
  refine wpAny_bind (wpAny_dictEntries ho hdat ?_)
  refine wpAny_bind ?_
  rw [← Array.forIn_toList]
  refine wpAny_forIn_list _ (fun rest kw s' => s' = s ∧ ∃ (kvs2 : List (Key × Value)) (ks2 : List Str), Pairs (mixKind P w) rest kvs2 ∧ kvs2.map (·.1) = ks2.map Sum.inr ∧ kw ++ ks2.zip (kvs2.map (·.2)) = ks.zip (kvs.map (·.2))) _ ?_ ?_ _ _ ⟨rfl, kvs, ks, hp, hk, rfl⟩
  · rintro ⟨hsh, key, val⟩ rest kw s' ⟨rfl, kvs2, ks2, p, q, r⟩
    cases p with
    | @cons _ kv _ kvs3 h1 h2 h3 =>
      cases ks2 with
      | nil => cases q
      | cons k ks3 =>
        rw [List.map_cons, List.map_cons] at q
        injection q with q1 q2
        obtain ⟨k0, v0⟩ := kv
        dsimp only at q1 h1 h2
        subst q1
        have sh : ∃ t, key = Value.str k t := by
          rcases keyIs_shape (show keyIs (Sum.inr k) key = true from h1) with ⟨i, t, e1, _⟩ | ⟨x, t, e1, e2⟩
          · exact nomatch e1
          · injection e1 with e1; rw [e1]; exact ⟨t, e2⟩
        obtain ⟨t, rfl⟩ := sh
        refine wpAny_pure ⟨rfl, kvs3, ks3, h3, q2, ?_⟩
        rw [← r, h2]
        simp
  · rintro kw s' ⟨rfl, kvs2, ks2, p, q, r⟩
    cases p
    cases ks2 with
    | nil =>
      refine wpAny_pure ?_
      have e : kw = ks.zip (kvs.map (·.2)) := by simpa using r
      rw [e]
      exact hQ
    | cons k ks3 => cases q
theorem kd_call {f : Value} {pos : Pos} {Q : Value → Shared → Prop} {P : Heap → Prop} {M : Model} {kws : List (Option Str × Sem Value)} (hst : kws.any (·.1.isNone) = true)
    (hk : ∀ h, P h → ∃ k, (k = Keeper.frame ∨ k = Keeper.machine ∨ k = Keeper.boundFrame) ∧ PySem.W.Looks M h (keeperOf f) k)
    (h : wpAny M A (evalArgs f true [] kws) (fun a s₁ => P s₁.heap ∧ wpAny M A (call f a.pos a.kw) Q E s₁) E s) : wpAny M A (callWith pos f [] [] kws) Q E s := by
  unfold callWith
  refine wpAny_bind (wpAny_holding (wpAny_mono h (fun a s₁ h₁ => wpAny_bind (wpAny_standAt ?_)) fun _ _ x => x))
  obtain ⟨k, hk', L⟩ := hk _ h₁.1
  simp only [hst, Bool.or_true]
  refine wpAny_bind (L.here ?_)
  have tail : ∀ {t : Sem Value}, wpAny M A t Q E s₁ → wpAny M A (t >>= fun r => holding [r] point >>= fun _ => pure r) Q E s₁ :=
    fun ht => wpAny_bind (wpAny_mono ht (fun r s₂ hr => wpAny_bind (wpAny_holding (wpAny_point (wpAny_pure hr)))) fun _ _ x => x)
  have marked (mk : Value) : wpAny M A (callMarked mk f a.pos a.kw) Q E s₁ := by unfold callMarked; exact Calls.wpAny_keep h₁.2
  rcases hk' with rfl | rfl | rfl <;> dsimp only <;> first | exact tail (marked _) | exact tail (wpAny_operating h₁.2)
theorem args_one {f : Value} {x : Sem Value} {ks : List Str} {Q : Args → Shared → Prop}
    (hx : wpAny (model P w) A x (fun v s1 => ∃ (o : Addr) (more : List (Key × Value)), more.map (·.1) = ks.map Sum.inr ∧ v = .ref o ∧ o ≠ s.heap.objs.size ∧ (o == sysModules) = false ∧ s1.heap.DictOf (mixKind P w) s.heap.objs.size [] ∧ s1.heap.DictOf (mixKind P w) o more ∧ more.length ≤ sizeLine ∧
      ∀ h', h'.DictOf (mixKind P w) s.heap.objs.size more → Heap.SameBut s.heap.objs.size s1.heap h' → Q ⟨[], ks.zip (more.map (·.2))⟩ { s1 with heap := h' }) E { s with heap := s.heap.push { cls := .type "dict", data := .dict #[] } }) :
    wpAny (model P w) A (evalArgs f true [] [(none, x)]) Q E s := by
  unfold evalArgs
  refine wpAny_bind (wpAny_pure (wpAny_bind (wpAny_pure ?_)))
  refine wpAny_holding ?_
  dsimp only
  rw [if_neg (show ¬ ([(none, x)] : List (Option Str × Sem Value)).all (fun x => x.1.isSome) = true by simp)]
  refine wpAny_bind (merged_one (wpAny_mono hx (fun v s1 z => ?_) fun _ _ z => z))
  obtain ⟨o, more, hks, e1, hdo, hoS, hd, ho, hsz, hQ⟩ := z
  refine ⟨o, more, e1, hdo, hoS, hd, ho, hsz, fun h' hd' hs' => ?_⟩
  refine wpAny_bind (wpAny_pure ?_)
  refine wpAny_bind (wpAny_holding (keywords_in (s := { s1 with heap := h' }) hd' hks ?_))
  exact wpAny_pure (hQ h' hd' hs')
end
/-- **e alone: a new dict stands, empty, while e is made; then all of e's names and values are in it -/
def tSS (ks : List Str) (te : TE) (k : List V → Hp → Prop) : L2.St → Hp → Prop := fun σ H => ∀ d, H d = none → te σ (upd H d (.dK [])) fun y H1 => H1 d = some (.dK []) ∧ ∃ (o : Addr) (kvs : List (Key × V)), y = .ref o ∧ o ≠ d ∧ H1 o = some (.dK kvs) ∧ kvs.map (·.1) = ks.map Sum.inr ∧ k (kvs.map (·.2)) (upd H1 d (.dK kvs))
section
variable {X : Cx} {CX : CXT} {k : Nat} {f C : Addr} {fd : FuncData} {ps ks : List Str} {sp : Sp} {E : XK} {x : Str} {p pos kp : Pos} {e : Expr} {te : TE} {g : List Value → List Value → List Value} {gV : List V → List V → List V}
theorem kv_vals : ∀ {kvs : List (Key × V)} {vs : List (Key × Value)}, KV kvs vs → Vals (kvs.map (·.2)) (vs.map (·.2)) ∧ vs.map (·.1) = kvs.map (·.1)
  | [], _, r => by cases r; exact ⟨.nil, rfl⟩
  | _ :: _, _, r => by
    cases r with
    | cons h t =>
      obtain ⟨a, b⟩ := kv_vals t
      exact ⟨.cons h.2 a, by rw [List.map_cons, List.map_cons, b, h.1]⟩
theorem run_ss {pins : List (Addr × Obj)} {σ : L2.St} {H : Hp} {s : Shared} {fv : Value} {Q : List V → Hp → Prop} {R : Args → Shared → Prop} (I : Inv X pins σ H s) (he : PE X e te) (h : tSS ks te Q σ H)
    (hR : ∀ zs ws H2 s2, Inv X pins σ H2 s2 → Vals zs ws → zs.length = ks.length → Q zs H2 → R ⟨[], ks.zip ws⟩ s2) :
    wpAny (model X.prog X.w) X.A (evalArgs fv true [] [(none, (do let v ← eval e X.env; standAt pos; pure v))]) R X.xe s := by
  have hn := I.hok.fresh (Nat.le_refl s.heap.objs.size)
  have I1 := I.laid (a := s.heap.objs.size) (o := .dK []) (h' := s.heap.push { cls := .type "dict", data := .dict #[] }) (t' := s.toks) (fun _ _ q => Heap.get?_push_of_some _ q) (Nat.le_refl _) (dk_empty s.heap I.big)
  have hx : wpAny (model X.prog X.w) X.A (do let v ← eval e X.env; standAt pos; pure v) (fun v s2 => ∃ (o : Addr) (kvs : List (Key × V)) (H1 : Hp), v = .ref o ∧ o ≠ s.heap.objs.size ∧ H1 s.heap.objs.size = some (.dK []) ∧ H1 o = some (.dK kvs) ∧ kvs.map (·.1) = ks.map Sum.inr ∧ Inv X pins σ H1 s2 ∧ Q (kvs.map (·.2)) (upd H1 s.heap.objs.size (.dK kvs))) X.xe { s with heap := s.heap.push { cls := .type "dict", data := .dict #[] } } := by
    refine wpAny_bind (thn (he.run pins _ σ _ _ I1 (h _ hn)) fun v s2 z => ?_)
    obtain ⟨y, H1, I2, ry, ed, o, kvs, ey, hne, eo, hk, q⟩ := z
    subst ey
    obtain rfl : v = Value.ref o := ry
    exact wpAny_bind (wpAny_standAt (wpAny_pure ⟨o, kvs, H1, rfl, hne, ed, eo, hk, I2, q⟩))
  refine args_one (ks := ks) (wpAny_mono hx (fun v s2 z => ?_) fun _ _ z => z)
  obtain ⟨o, kvs, H1, rfl, hne, ed, eo, hk, I2, q⟩ := z
  obtain ⟨_, hd, vs0, r0, dd⟩ := dk_of I2.hok ed
  cases r0
  obtain ⟨zo, hoS, vs, rel, dv⟩ := dk_of I2.hok eo
  obtain ⟨rv, ek⟩ := kv_vals rel
  refine ⟨o, vs, ek.trans hk, rfl, hne, hoS, dd, dv, by rw [← rel.length]; exact zo, fun h' hd' hs' => ?_⟩
  have he' : ∃ q, h'.get? s.heap.objs.size = some q := let ⟨q, _, _, hq, _⟩ := hd'; ⟨q, hq⟩
  have I3 : Inv X pins σ (upd H1 s.heap.objs.size (.dK kvs)) { s2 with heap := h' } := d_write I2 (by rw [ed]; exact True.intro) hs' he' (dk_new zo hd rel hd')
  refine hR _ _ _ _ I3 rv ?_ q
  have l1 := congrArg List.length hk
  rw [List.length_map, List.length_map] at l1
  rw [List.length_map]
  exact l1
/-- C(**e) -/
theorem pe_makeD (M : Mk X.K C f) (F : FnOk X.prog X.w X.K X.mg X.base CX k f fd ps sp) (hr : Room (k + 1) X.A) (hg : Gl X x) (hm : X.mg x = some (.ref C)) (hb : KBn X.K fd ps 1 ks g gV) (hx : Passes CX X E) (he : PE X e te) (hdb : (x == ("__debug__" : Str)) = false := by decide) :
    PE X (.Call (.Name x p) [] [⟨none, e, kp⟩] pos) (fun σ H Q => tSS ks te (fun zs H2 => ∀ y dx, H2 y = none → H2 dx = none → dx ≠ y → sp (gV [.ref y] zs) (upd (upd H2 dx (.own y)) y (.ins C dx [])) (fun v H3 => v = .non ∧ Q (.ref y) H3) E) σ H) := by
  refine ⟨fun pins s σ H Q I h => ?_⟩
  refine wpAny_Call_Name_kw (ld_glob I hg hm ?_ hdb)
  refine kd_call (P := X.K.In) rfl (PySem.W.keeps_K M.kp) (run_ss I he h fun zs ws H2 s2 I2 rz lz q => ⟨I2.kIn, ?_⟩)
  exact run_makeK (us := []) (vs := []) M F hr hb hx I2 .nil rz rfl lz q
/-- f(**e) -/
theorem pe_callD (F : FnOk X.prog X.w X.K X.mg X.base CX k f fd ps sp) (hr : Room k X.A) (hg : Gl X x) (hm : X.mg x = some (.ref f)) (hk : PySem.W.keepIn X.K (.ref f) = true) (hb : KBn X.K fd ps 0 ks g gV) (hx : Passes CX X E) (he : PE X e te) (hdb : (x == ("__debug__" : Str)) = false := by decide) :
    PE X (.Call (.Name x p) [] [⟨none, e, kp⟩] pos) (fun σ H Q => tSS ks te (fun zs H2 => sp (gV [] zs) H2 Q E) σ H) := by
  refine ⟨fun pins s σ H Q I h => ?_⟩
  refine wpAny_Call_Name_kw (ld_glob I hg hm ?_ hdb)
  refine kd_call (P := X.K.In) rfl (PySem.W.keeps_K hk) (run_ss I he h fun zs ws H2 s2 I2 rz lz q => ⟨I2.kIn, ?_⟩)
  exact run_fnN F hr hb hx I2 .nil rz rfl lz q
end
end StD
/-! C(e, *y, k = v, ..): a starred argument beside names -/
namespace StD
open PySem PySem.Spec PyProof.Rows L2
section
variable {M : Model} {A : Around} {E : Value → Shared → Prop} {s : Shared}
theorem ks_call2 {f : Value} {pos : Pos} {Q : Value → Shared → Prop} {P : Heap → Prop} {args : List (Bool × Sem Value)} {kws : List (Option Str × Sem Value)} (hst : (args.any (·.1) || kws.any (·.1.isNone)) = true)
    (hk : ∀ h, P h → ∃ k, (k = Keeper.frame ∨ k = Keeper.machine ∨ k = Keeper.boundFrame) ∧ PySem.W.Looks M h (keeperOf f) k)
    (h : wpAny M A (evalArgs f true args kws) (fun a s₁ => P s₁.heap ∧ wpAny M A (call f a.pos a.kw) Q E s₁) E s) : wpAny M A (callWith pos f [] args kws) Q E s := by
  unfold callWith
  refine wpAny_bind (wpAny_holding (wpAny_mono h (fun a s₁ h₁ => wpAny_bind (wpAny_standAt ?_)) fun _ _ x => x))
  obtain ⟨k, hk', L⟩ := hk _ h₁.1
  simp only [hst]
  refine wpAny_bind (L.here ?_)
  have tail : ∀ {t : Sem Value}, wpAny M A t Q E s₁ → wpAny M A (t >>= fun r => holding [r] point >>= fun _ => pure r) Q E s₁ :=
    fun ht => wpAny_bind (wpAny_mono ht (fun r s₂ hr => wpAny_bind (wpAny_holding (wpAny_point (wpAny_pure hr)))) fun _ _ x => x)
  have marked (mk : Value) : wpAny M A (callMarked mk f a.pos a.kw) Q E s₁ := by unfold callMarked; exact Calls.wpAny_keep h₁.2
  rcases hk' with rfl | rfl | rfl <;> dsimp only <;> first | exact tail (marked _) | exact tail (wpAny_operating h₁.2)
end
section
variable {X : Cx} {CX : CXT} {k : Nat} {f C : Addr} {ks : List Str} {sp : SpK} {E : XK} {x : Str} {p pos : Pos} {e : Expr} {es : List Expr} {kws : List Keyword} {t tk : TA}
theorem pe_makeRKS (M : Mk X.K C f) (F : FnRK X.prog X.w X.K X.mg X.base CX k f ks sp) (hr : Room (k + 1) X.A) (hg : Gl X x) (hm : X.mg x = some (.ref C)) (hx : Passes CX X E)
    (ha : PA X (e :: es) t) (hkw : PK X kws tk) (hall : (backToKw pos (keywordEach kws X.env)).all (·.1.isSome) = true := by rfl) (hks : (backToKw pos (keywordEach kws X.env)).filterMap (·.1) = ks := by rfl)
    (hdb : (x == ("__debug__" : Str)) = false := by decide) (he : starEach (e :: es) X.env = (false, eval e X.env) :: starEach es X.env := by rfl)
    (hpl : ((backTo pos (starEach (e :: es) X.env)).any (·.1) || (backToKw pos (keywordEach kws X.env)).any (·.1.isNone)) = true := by rfl) :
    PE X (.Call (.Name x p) (e :: es) kws pos) (tMakeRK C ks.length sp E t tk) := by
  refine ⟨fun pins s σ H Q I h => wpAny_Call_Name_kw (ld_glob I hg hm ?_ hdb)⟩
  refine ks_call2 (P := X.K.In) hpl (PySem.W.keeps_K M.kp) (PyProof.Rows.evalArgs_kw2 hall (thn (ha.run pos pins s σ H _ I h) fun us s1 ⟨vs, H1, I1, r, q⟩ => thn (hkw.run pos pins s1 σ H1 _ I1 q) fun ws s2 ⟨zs, H2, I2, rz, l2, q2⟩ => ⟨I2.kIn, ?_⟩) he)
  rw [hks]
  exact run_makeRK M F hr hx I2 r rz l2 q2
end
end StD
/-! def f(a, .., **d), called with names -/
namespace StD
open PySem PySem.Spec PyProof.Rows L2
section
variable {P : Program} {w : World} {A : Around} {E : Value → Shared → Prop} {s : Shared}
theorem nsSet_fresh {d : Addr} {kvs : List (Key × Value)} {name : Str} {v : Value} {Q : Unit → Shared → Prop} (hm : s.heap.DictOf (mixKind P w) d kvs) (h : (Sum.inr name : Key) ∉ kvs.map (·.1))
    (hQ : ∀ h' t', h'.DictOf (mixKind P w) d (kvs ++ [(Sum.inr name, v)]) → Heap.SameBut d s.heap h' → Q () { s with heap := h', toks := t' }) :
    wpAny (model P w) A (nsSet d name v) Q E s := by
  obtain ⟨o, es, ep, ho, hc, hd, hk, hp, hn⟩ := hm
  intro Γ p hΓ
  have hnone := no_idx hp h
  have hi : (es.findIdx? fun e => e.key.isStr name) = none := by
    rw [← hnone]
    congr 1
    funext e
    show e.key.isStr name = keyIs (Sum.inr name) e.key
    cases e.key <;> simp [keyIs, Value.isStr, Value.isStrOf, eq_comm]
  have hany : es.any (·.refKey) = false := by
    rw [Array.any_eq_false']
    intro e he
    obtain ⟨k, hk1, _⟩ := hk e he
    rcases keyIs_shape (show keyIs k e.key = true from hk1) with ⟨i, t, _, e2⟩ | ⟨x, t, _, e2⟩ <;> simp [DictEntry.refKey, e2]
  simp only [nsSet, strHash, Sem.wp_bind', Sem.wp_cmd_ask, Sem.wp_pure', Sem.wp_cmd_mkText]
  rw [Sem.wp_loadPart_of (model P w) Γ (fun e _ s' => E e s') p { s with toks := s.toks + 1 } (o := o) _ ho]
  simp only [hd, aRefKeyMayBeTheName_eq, aRefKeyMayBeTheNameByArray, hany, Bool.and_false, Bool.false_eq_true, if_false, Sem.wp_cmd_updatePart]
  have kis : (mixKind P w).is (Sum.inr name) (.str name s.toks) = true := keyIs_str name s.toks
  have hh : (if name.cps.isEmpty = true then 0 else reduceHash ((model P w).w.params.strHash name.cps)) = (mixKind P w).hash (Sum.inr name) := rfl
  rw [hh]
  refine ⟨by rw [ho]; rfl, hQ _ _ ?_ (Heap.SameBut.update ..)⟩
  have e1 : ∀ u : Obj, u = o → Obj.putName name ((mixKind P w).hash (Sum.inr name)) (.str name s.toks) v u = Obj.mapDictKeys (·.push ⟨(mixKind P w).hash (Sum.inr name), .str name s.toks, v⟩) u := by
    rintro u rfl
    obtain ⟨c, dd, dt, sl⟩ := u
    dsimp only at hd
    subst hd
    simp only [Obj.putName_eq, Obj.putNameByArray, hi]
    rfl
  refine ⟨Obj.mapDictKeys (·.push ⟨(mixKind P w).hash (Sum.inr name), .str name s.toks, v⟩) o, _, ep + 1, ?_, hc.mapDictKeys _, Obj.data_mapDictKeys hd _, hk.push kis _, ?_, ?_⟩
  · have z := Heap.get?_update_self (h := s.heap) (Obj.putName name ((mixKind P w).hash (Sum.inr name)) (.str name s.toks) v) ho (by rw [e1 o rfl]; exact Obj.isFreed_of_dict (Obj.data_mapDictKeys hd _))
    rw [e1 o rfl] at z
    exact z
  · have := hp.append kis ((mixKind P w).hash (Sum.inr name)) v
    obtain ⟨l⟩ := es
    simpa using this
  · rw [List.map_append, List.nodup_append]
    refine ⟨hn, by simp, ?_⟩
    intro a ha b hb
    simp only [List.map_cons, List.map_nil, List.mem_singleton] at hb
    subst hb
    exact fun e => h (e ▸ ha)
/-- names and values put into a dict, one behind the other -/
def putAll (d : Addr) (l : List (Str × Value)) : Sem PUnit := forIn l PUnit.unit fun x _ => match x with | (k, v) => do nsSet d k v; pure (ForInStep.yield PUnit.unit)
theorem put_all {d : Addr} : ∀ (ks : List Str) (ws : List Value) (kvs : List (Key × Value)) (s : Shared) (Q : PUnit → Shared → Prop), s.heap.DictOf (mixKind P w) d kvs → ((kvs.map Prod.fst : List Key) ++ (ks.map Sum.inr : List Key)).Nodup → ws.length = ks.length →
    (∀ h' t', h'.DictOf (mixKind P w) d (kvs ++ (ks.map Sum.inr : List Key).zip ws) → Heap.SameBut d s.heap h' → Q PUnit.unit { s with heap := h', toks := t' }) → wpAny (model P w) A (putAll d (ks.zip ws)) Q E s
  | [], ws, kvs, s, Q, hm, _, _, hQ => by
    have z := hQ s.heap s.toks (by simpa using hm) (Heap.SameBut.refl _ _)
    unfold putAll
    rw [List.zip_nil_left, List.forIn_nil]
    exact wpAny_pure z
  | k :: ks, [], _, _, _, _, _, hl, _ => by cases hl
  | k :: ks, v :: ws, kvs, s, Q, hm, hn, hl, hQ => by
    have fresh : (Sum.inr k : Key) ∉ kvs.map (·.1) := fun q => by
      rw [List.map_cons, List.nodup_append] at hn
      exact hn.2.2 _ q _ List.mem_cons_self rfl
    unfold putAll
    rw [List.zip_cons_cons, List.forIn_cons]
    refine wpAny_bind (wpAny_bind (nsSet_fresh hm fresh fun h' t' hd' hs' => wpAny_pure ?_))
    have z := put_all ks ws (kvs ++ [(Sum.inr k, v)]) { s with heap := h', toks := t' } Q hd' (by simpa using hn) (Nat.succ.inj hl) fun h2 t2 hd2 hs2 => hQ h2 t2 (by simpa using hd2) (hs'.trans hs2)
    exact z
theorem kv_zip : ∀ {ks : List Str} {zs : List V} {ws : List Value}, Vals zs ws → KV ((ks.map Sum.inr : List Key).zip zs) ((ks.map Sum.inr : List Key).zip ws)
  | [], _, _, _ => .nil
  | _ :: _, [], _, r => by cases r; exact .nil
  | k :: ks, z :: zs, _, r => by
    cases r with
    | cons h t => exact .cons ⟨rfl, h⟩ (kv_zip t)
end
section
variable {P : Program} {w : World} {K : PySem.W.Frag} {mg : Str → Option Value} {base : Heap} {CX : CXT} {k : Nat} {f : Addr} {name qual : Str} {params : Arguments} {body : List Stmt} {scope : Scope} {dV kV doc pm cdv ct oc : Value} {an od : Option Addr} {osl : Array (Option Value)} {N ps ks : List Str} {sp : Sp}
theorem env0_laidG {A : Around} {outer : List Env} {s : Shared} {H : Hp} {h' : Heap} {t' : Nat} {u : HO} (e0 : Env0 P w K mg base A outer s H) (kp : ∀ b x, s.heap.get? b = some x → h'.get? b = some x) (sz : s.heap.objs.size ≤ h'.objs.size) (new : ObjOk P w (upd H s.heap.objs.size u) h' s.heap.objs.size u) :
    Env0 P w K mg base A outer { s with heap := h', toks := t' } (upd H s.heap.objs.size u) := by
  refine ⟨e0.frames, e0.mod, fun b x e => ⟨kp b x (e0.bs b x e).1, ?_⟩, Nat.le_trans e0.bsz sz, Heap.FunFrames.of_keeps (fun b x e _ => ⟨x, kp b x e, rfl⟩) e0.funs, fun b hb => ?_, e0.hok.laid kp (Nat.le_refl _) new, e0.bare⟩
  · rw [upd_ne (Nat.ne_of_lt (Heap.lt_size (e0.bs b x e).1))]
    exact (e0.bs b x e).2
  · obtain ⟨_, x, hx, _⟩ := e0.funs.mem hb
    rw [upd_ne (Nat.ne_of_lt (Heap.lt_size hx))]
    exact e0.frf b hb
/-- def f(a, .., **d), called with n values and with other names -/
theorem fn_kwD {pd : Str} (lk : K.lookup f = some ⟨oc, od, .func (PySem.W.fnOf name qual params body scope dV kV doc pm an cdv ct), osl⟩) (hcd : PySem.W.codeIn K cdv qual = true) (S : FnScope N (ps ++ [pd]) scope) (hCX : StX.CXUp CX) (hn : ks.Nodup) (few : ks.length ≤ 1000)
    (hb : ∀ us ws : List Value, us.length = ps.length → ws.length = ks.length → bindArgs (PySem.W.fnOf name qual params body scope dV kV doc pm an cdv ct) ⟨us, ks.zip ws⟩ =
      ((alloc ({ cls := .type "dict", data := .dict #[] } : Obj) : Sem Addr) >>= fun d => putAll d (ks.zip ws) >>= fun _ => pure (ps.zip us ++ [(pd, Value.ref d)])))
    (hbody : ∀ (A : Around) (outer : List Env) (s : Shared) (H : Hp) (vs : List V) (Q : VK) (E : XK), Room k (A.deeper (envOfC qual scope s.heap.objs.size f cdv)) → sp vs H Q E →
      ∃ t, PSs (cxOf CX P w K mg base N qual scope f cdv A outer s H E) body t ∧ t { nx := fun _ H' => Q .non H', rt := Q } (start N vs) H) :
    FnRK P w K mg base CX (k + 1) f ks (fun vs zs H Q E => vs.length = ps.length ∧ ∀ d, H d = none → sp (vs ++ [V.ref d]) (upd H d (.dK ((ks.map Sum.inr : List Key).zip zs))) Q E) := by
  intro A outer s H us ws vs zs Q E hr e0 r rz lz hsp
  obtain ⟨hl, hq⟩ := hsp
  have hnone : H s.heap.objs.size = none := e0.hok.fresh (Nat.le_refl _)
  have n1 : us.length = ps.length := by rw [← r.length]; exact hl
  have n3 : ws.length = ks.length := by rw [← rz.length]; exact lz
  refine StX.run_bnd lk hcd S hr e0 (G := fun ys H2 => ∃ d, H d = none ∧ ys = vs ++ [V.ref d] ∧ H2 = upd H d (.dK ((ks.map Sum.inr : List Key).zip zs))) (fun A' Ex Q' h => ?_) fun s2 H2 ys ⟨d, hd, ex, eH⟩ hr' => ?_
  · rw [hb us ws n1 n3]
    refine wpAny_bind (wpAny_alloc ?_)
    have hd0 : (s.heap.push ({ cls := .type "dict", data := .dict #[] } : Obj)).DictOf (mixKind P w) s.heap.objs.size [] := Heap.DictOf.new s.heap
    refine wpAny_bind (put_all ks ws [] { s with heap := s.heap.push ({ cls := .type "dict", data := .dict #[] } : Obj) } _ hd0 (by rw [List.map_nil, List.nil_append]; exact List.Pairwise.map _ (fun a b n q => n (Sum.inr.inj q)) hn) n3 fun h' t' hd' hs' => wpAny_pure ?_)
    rw [List.nil_append] at hd'
    have kp : ∀ b x, s.heap.get? b = some x → h'.get? b = some x := fun b x e => (hs'.2 b (Nat.ne_of_lt (Heap.lt_size e))).trans (Heap.get?_push_of_some _ e)
    have sz : s.heap.objs.size ≤ h'.objs.size := by
      have e1 := hs'.1
      dsimp only at e1
      rw [e1, Heap.size_push]
      exact Nat.le_succ _
    have lzz : ((ks.map Sum.inr : List Key).zip zs).length ≤ sizeLine := by
      rw [List.length_zip, List.length_map, lz, Nat.min_self, sizeLine_eq]; omega
    have new : ObjOk P w (upd H s.heap.objs.size (.dK ((ks.map Sum.inr : List Key).zip zs))) h' s.heap.objs.size (.dK ((ks.map Sum.inr : List Key).zip zs)) :=
      dk_new lzz (beq_eq_false_iff_ne.mpr (Ne.symm (Nat.ne_of_lt (StX.env0_big e0)))) (kv_zip rz) hd'
    have un : Un (frs outer) [] H (upd H s.heap.objs.size (.dK ((ks.map Sum.inr : List Key).zip zs))) s.heap h' := Un.laid kp (Nat.le_refl _) hnone
    have z := h { s with heap := h', toks := t' } _ (vs ++ [V.ref s.heap.objs.size]) (us ++ [Value.ref s.heap.objs.size]) (env0_laidG e0 kp sz new) un rfl (fun e s' => hCX outer s H _ _ E e s' un kp rfl) (r.append (.cons rfl .nil)) (by rw [List.length_append, List.length_append, hl] <;> rfl) ⟨_, hnone, rfl, rfl⟩
    rw [List.zip_append n1.symm] at z
    exact z
  · subst ex eH
    exact hbody A outer s2 _ _ Q E hr' (hq d hd)
end
/-- f(e, .., k = v, ..), f's promise being one by place and by these names -/
def tCallRK (m : Nat) (sp : SpK) (E : XK) (t tk : TA) : TE := fun σ H Q => t σ H fun vs H1 => tk σ H1 fun zs H2 => zs.length = m ∧ sp vs zs H2 Q E
section
variable {X : Cx} {CX : CXT} {k : Nat} {f : Addr} {ks : List Str} {sp : SpK} {E : XK} {x : Str} {p pos : Pos} {e : Expr} {es : List Expr} {kws : List Keyword} {t tk : TA}
theorem pe_callRK (F : FnRK X.prog X.w X.K X.mg X.base CX k f ks sp) (hr : Room k X.A) (hg : Gl X x) (hm : X.mg x = some (.ref f)) (hk : PySem.W.keepIn X.K (.ref f) = true) (hx : Passes CX X E)
    (ha : PA X (e :: es) t) (hkw : PK X kws tk) (hall : (backToKw pos (keywordEach kws X.env)).all (·.1.isSome) = true := by rfl) (hks : (backToKw pos (keywordEach kws X.env)).filterMap (·.1) = ks := by rfl)
    (hdb : (x == ("__debug__" : Str)) = false := by decide) (he : starEach (e :: es) X.env = (false, eval e X.env) :: starEach es X.env := by rfl)
    (hpl : ((backTo pos (starEach (e :: es) X.env)).any (·.1) || (backToKw pos (keywordEach kws X.env)).any (·.1.isNone)) = false := by rfl) :
    PE X (.Call (.Name x p) (e :: es) kws pos) (tCallRK ks.length sp E t tk) := by
  refine ⟨fun pins s σ H Q I h => wpAny_Call_Name_kw (ld_glob I hg hm ?_ hdb)⟩
  refine PySem.W.callWith_KW (h₀ := X.base) I.ok.mod.kin hk hall (thn (ha.run pos pins s σ H _ I h) fun us s1 ⟨vs, H1, I1, r, q⟩ => thn (hkw.run pos pins s1 σ H1 _ I1 q) fun ws s2 ⟨zs, H2, I2, rz, l2, q2⟩ => ⟨I2.kIn, ?_⟩) hpl he
  rw [hks]
  refine wpAny_call (codeAny_mono (F X.A X.stack s2 H2 us ws vs zs Q E hr I2.env0 r rz l2 q2) fun r s' hq => ?_)
  cases r with
  | error e => exact hx pins σ H2 s2 e s' I2 hq
  | ok fl =>
    cases fl with
    | ret u => exact I2.after hq
    | next => exact False.elim hq
    | brk => exact False.elim hq
    | cont => exact False.elim hq
end
end StD
/-! _settings_of, _supervisor, with_children -/
namespace K08
open PySem PySem.Spec PyProof.Rows L2
section
variable {P : Program} {w : World} {K : PySem.W.Frag} {mg : Str → Option Value} {base : Heap}
abbrev s_settings_of : Stmt := (top 74)
def N_settings_of : List Str := ["plan"]
theorem sc_settings_of : FnScope N_settings_of ["plan"] (defScope s_settings_of) := ⟨rfl, rfl, rfl, by decide +kernel, rfl, by decide +kernel, by decide +kernel⟩
abbrev s_supervisor : Stmt := (top 75)
def N_supervisor : List Str := ["name", "children", "restart", "strategy", "most", "span", "deadline"]
theorem sc_supervisor : FnScope N_supervisor ["name", "children", "restart", "strategy", "most", "span", "deadline"] (defScope s_supervisor) := ⟨rfl, rfl, rfl, by decide +kernel, rfl, by decide +kernel, by decide +kernel⟩
abbrev s_with_children : Stmt := (top 72)
def N_with_children : List Str := ["plan", "children", "wanted"]
theorem sc_with_children : FnScope N_with_children ["plan", "children"] (defScope s_with_children) := ⟨rfl, rfl, rfl, by decide +kernel, rfl, by decide +kernel, by decide +kernel⟩
abbrev wAll : List Str := ["name", "restart", "opening", "closing", "deadline", "refused", "script"]
abbrev sAll : List Str := ["name", "restart", "strategy", "most", "span", "deadline"]
/-- names with values -/
def tab (ns : List Str) (vs : List V) : List (Key × V) := (ns.map Sum.inr : List Key).zip vs
/-- the settings of the plan, its children being none -/
def setV : Tr → List V
  | .w n r o c dl rf sc _ => [.str n, .str r, .int o, .int c, dl, .int rf, sc]
  | .s n r st mo sp dl _ => [.str n, .str r, .str st, .int mo, .int sp, dl]
def Tr.keys : Tr → List Str
  | .w .. => wAll
  | .s .. => sAll
theorem merge_w {v1 v2 v3 v4 v5 v6 v7 : V} : mergeK [] (tab wAll [v1, v2, v3, v4, v5, v6, v7]) = tab wAll [v1, v2, v3, v4, v5, v6, v7] := by
  have q01 : ¬ (("name" : Str) = "restart") := by decide +kernel
  have q02 : ¬ (("name" : Str) = "opening") := by decide +kernel
  have q03 : ¬ (("name" : Str) = "closing") := by decide +kernel
  have q04 : ¬ (("name" : Str) = "deadline") := by decide +kernel
  have q05 : ¬ (("name" : Str) = "refused") := by decide +kernel
  have q06 : ¬ (("name" : Str) = "script") := by decide +kernel
  have q12 : ¬ (("restart" : Str) = "opening") := by decide +kernel
  have q13 : ¬ (("restart" : Str) = "closing") := by decide +kernel
  have q14 : ¬ (("restart" : Str) = "deadline") := by decide +kernel
  have q15 : ¬ (("restart" : Str) = "refused") := by decide +kernel
  have q16 : ¬ (("restart" : Str) = "script") := by decide +kernel
  have q23 : ¬ (("opening" : Str) = "closing") := by decide +kernel
  have q24 : ¬ (("opening" : Str) = "deadline") := by decide +kernel
  have q25 : ¬ (("opening" : Str) = "refused") := by decide +kernel
  have q26 : ¬ (("opening" : Str) = "script") := by decide +kernel
  have q34 : ¬ (("closing" : Str) = "deadline") := by decide +kernel
  have q35 : ¬ (("closing" : Str) = "refused") := by decide +kernel
  have q36 : ¬ (("closing" : Str) = "script") := by decide +kernel
  have q45 : ¬ (("deadline" : Str) = "refused") := by decide +kernel
  have q46 : ¬ (("deadline" : Str) = "script") := by decide +kernel
  have q56 : ¬ (("refused" : Str) = "script") := by decide +kernel
  simp [mergeK, tab, putK, q01, q02, q03, q04, q05, q06, q12, q13, q14, q15, q16, q23, q24, q25, q26, q34, q35, q36, q45, q46, q56]
theorem merge_s {v1 v2 v3 v4 v5 v6 : V} : mergeK [] (tab sAll [v1, v2, v3, v4, v5, v6]) = tab sAll [v1, v2, v3, v4, v5, v6] := by
  have q01 : ¬ (("name" : Str) = "restart") := by decide +kernel
  have q02 : ¬ (("name" : Str) = "strategy") := by decide +kernel
  have q03 : ¬ (("name" : Str) = "most") := by decide +kernel
  have q04 : ¬ (("name" : Str) = "span") := by decide +kernel
  have q05 : ¬ (("name" : Str) = "deadline") := by decide +kernel
  have q12 : ¬ (("restart" : Str) = "strategy") := by decide +kernel
  have q13 : ¬ (("restart" : Str) = "most") := by decide +kernel
  have q14 : ¬ (("restart" : Str) = "span") := by decide +kernel
  have q15 : ¬ (("restart" : Str) = "deadline") := by decide +kernel
  have q23 : ¬ (("strategy" : Str) = "most") := by decide +kernel
  have q24 : ¬ (("strategy" : Str) = "span") := by decide +kernel
  have q25 : ¬ (("strategy" : Str) = "deadline") := by decide +kernel
  have q34 : ¬ (("most" : Str) = "span") := by decide +kernel
  have q35 : ¬ (("most" : Str) = "deadline") := by decide +kernel
  have q45 : ¬ (("span" : Str) = "deadline") := by decide +kernel
  simp [mergeK, tab, putK, q01, q02, q03, q04, q05, q12, q13, q14, q15, q23, q24, q25, q34, q35, q45]
/-- _settings_of: both; the values of the settings, the script being the worker's own -/
def SetsOf (K : PySem.W.Frag) (H : Hp) : Tr → List V → Prop
  | .w n r o c dl rf _ sd, zs => ∃ sc, zs = [.str n, .str r, .int o, .int c, dl, .int rf, sc] ∧ Dd K H sc sd ∧ solidD sd = true
  | .s n r st mo sp dl _, zs => zs = [.str n, .str r, .str st, .int mo, .int sp, dl]
def spSetOf (K : PySem.W.Frag) : Sp := fun vs H Q _ => ∃ v t, vs = [v] ∧ PTr K H v t ∧ ∀ p zs H', Same H H' → H p = none → SetsOf K H t zs → H' p = some (.dK (tab t.keys zs)) → Q (.ref p) H'
theorem ok_settings_of (F : Has K mg "_settings_of" s_settings_of) (T : Txt K mg) (L : Pl K) : FnQ P w K mg base CX0 1 "_settings_of" ["plan"] (spSetOf K) := by
  refine F.q sc_settings_of (fun _ _ _ _ _ _ us hl => match us, hl with | [_], _ => rfl) (fun vs H Q E h => by obtain ⟨_, _, rfl, _⟩ := h; rfl) (fun cdv A outer s H vs Q E hr h => ?_)
  obtain ⟨v, t, rfl, hv, k⟩ := h
  have gI : mg "isinstance" = none := T.fr _ (by simp [frees])
  refine ⟨_, PSs.nox (pss_cons (ps_if (pt_val (pe_callB call_isi (by rfl) gI boot_isinstance (pa_cons (pv 0) (pa_cons (C8.pe_gc (by rfl) T.c_WorkerPlan) pa_nil))))
  (pss_one (ps_ret (pe_disp (pps_cons pe_str (pe_fld (pv 0) rfl) (pps_cons pe_str (pe_fld (pv 0) rfl) (pps_cons pe_str (pe_fld (pv 0) rfl) (pps_cons pe_str (pe_fld (pv 0) rfl) (pps_cons pe_str (pe_fld (pv 0) rfl) (pps_cons pe_str (pe_fld (pv 0) rfl) (pps_cons pe_str (pe_fld (pv 0) rfl) pps_nil))))))) rfl rfl (by simp) (by decide))))
  pss_nil)
  (pss_one (ps_ret (pe_disp (pps_cons pe_str (pe_fld (pv 0) rfl) (pps_cons pe_str (pe_fld (pv 0) rfl) (pps_cons pe_str (pe_fld (pv 0) rfl) (pps_cons pe_str (pe_fld (pv 0) rfl) (pps_cons pe_str (pe_fld (pv 0) rfl) (pps_cons pe_str (pe_fld (pv 0) rfl) pps_nil)))))) rfl rfl (by simp) (by decide))))), ?_⟩
  refine ⟨_, rfl, _, _, _, _, _, rfl, .own _, hv.pt.ty T.pk, T.pk.kit _ 5 (kt_lt _) (by decide), _, rfl, ?_⟩
  cases hv with
  | @w a dx n r o c dl rf sc0 sc sd h hd so =>
    refine if_yes rfl fun p np => ?_
    have s1 : Same H (upd H p (.dK [])) := Same.new np
    have h1 := s1 _ _ h
    have e1 : (upd H p (.dK [])) p = some (.dK []) := upd_same
    refine ⟨_, rfl, a, wkA K, dx, _, .str n, rfl, h1, L.cw, L.nw _ (by simp), by kernel_rfl, ?_⟩
    refine ⟨_, rfl, a, wkA K, dx, _, .str r, rfl, h1, L.cw, L.nw _ (by simp), by kernel_rfl, ?_⟩
    refine ⟨_, rfl, a, wkA K, dx, _, .int o, rfl, h1, L.cw, L.nw _ (by simp), by kernel_rfl, ?_⟩
    refine ⟨_, rfl, a, wkA K, dx, _, .int c, rfl, h1, L.cw, L.nw _ (by simp), by kernel_rfl, ?_⟩
    refine ⟨_, rfl, a, wkA K, dx, _, dl, rfl, h1, L.cw, L.nw _ (by simp), by kernel_rfl, ?_⟩
    refine ⟨_, rfl, a, wkA K, dx, _, .int rf, rfl, h1, L.cw, L.nw _ (by simp), by kernel_rfl, ?_⟩
    refine ⟨_, rfl, a, wkA K, dx, _, sc, rfl, h1, L.cw, L.nw _ (by simp), by kernel_rfl, ?_⟩
    refine ⟨e1, tab wAll [.str n, .str r, .int o, .int c, dl, .int rf, sc], rfl, (by show 7 ≤ 15; decide), ?_⟩
    rw [merge_w, upd_upd]
    exact k p _ _ (Same.new np) np ⟨sc, rfl, hd, so⟩ upd_same
  | @s a dx c n r st mo sp dl vs ks h q ha =>
    refine if_no rfl fun p np => ?_
    have s1 : Same H (upd H p (.dK [])) := Same.new np
    have h1 := s1 _ _ h
    have e1 : (upd H p (.dK [])) p = some (.dK []) := upd_same
    refine ⟨_, rfl, a, suA K, dx, _, .str n, rfl, h1, L.cs, L.ns _ (by simp), by kernel_rfl, ?_⟩
    refine ⟨_, rfl, a, suA K, dx, _, .str r, rfl, h1, L.cs, L.ns _ (by simp), by kernel_rfl, ?_⟩
    refine ⟨_, rfl, a, suA K, dx, _, .str st, rfl, h1, L.cs, L.ns _ (by simp), by kernel_rfl, ?_⟩
    refine ⟨_, rfl, a, suA K, dx, _, .int mo, rfl, h1, L.cs, L.ns _ (by simp), by kernel_rfl, ?_⟩
    refine ⟨_, rfl, a, suA K, dx, _, .int sp, rfl, h1, L.cs, L.ns _ (by simp), by kernel_rfl, ?_⟩
    refine ⟨_, rfl, a, suA K, dx, _, dl, rfl, h1, L.cs, L.ns _ (by simp), by kernel_rfl, ?_⟩
    refine ⟨e1, tab sAll [.str n, .str r, .str st, .int mo, .int sp, dl], rfl, (by show 6 ≤ 15; decide), ?_⟩
    rw [merge_s, upd_upd]
    exact k p _ _ (Same.new np) np rfl upd_same
end
end K08
/-! _supervisor, with_children -/
namespace K08
open PySem PySem.Spec PyProof.Rows L2
section
variable {P : Program} {w : World} {K : PySem.W.Frag} {mg : Str → Option Value} {base : Heap}
/-- what becomes of settings and children: a new plan, or BadSetting with the first wrong one -/
structure SupTo (K : PySem.W.Frag) (H : Hp) (v1 v2 v3 v4 v5 v6 : V) (d1 d2 d3 d4 d5 d6 : Dt) (xs : List V) (ts : List Tr) (Q : VK) (E : XK) : Prop where
  h1 : Dd K H v1 d1
  h2 : Dd K H v2 d2
  h3 : Dd K H v3 d3
  h4 : Dd K H v4 d4
  h5 : Dd K H v5 d5
  h6 : Dd K H v6 d6
  hx : PTrs K H xs ts
  l4 : ts.length ≤ 12
  sz : 1 + Pn.sizes (Tr.pns ts) ≤ 200
  lv : Pn.lvs (Tr.pns ts) + 1 ≤ 20
  ok : firstBad (sset d1 d2 d3 d4 d5 d6) = none → ∀ x dx p H', Same H H' → H x = none → H' x = some (.ins (suA K) dx (sflds v1 (.ref p) v2 v3 v4 v5 v6)) → SqT K H' p xs → Q (.ref x) H'
  no : ∀ f, firstBad (sset d1 d2 d3 d4 d5 d6) = some f → ∀ e H', Same H H' → H e = none → H' e = some (.xd [("setting", .str f)]) → E (.ref (He.ga K "BadSetting")) (some e) H'
theorem none_back {H G : Hp} {e : Addr} (s : Same H G) (n : G e = none) : H e = none := by
  cases q : H e with
  | none => rfl
  | some o => rw [s _ _ q] at n; cases n
theorem SupTo.same {H H' : Hp} {v1 v2 v3 v4 v5 v6 : V} {d1 d2 d3 d4 d5 d6 : Dt} {xs : List V} {ts : List Tr} {Q : VK} {E : XK} (s : Same H H') (Z : SupTo K H v1 v2 v3 v4 v5 v6 d1 d2 d3 d4 d5 d6 xs ts Q E) : SupTo K H' v1 v2 v3 v4 v5 v6 d1 d2 d3 d4 d5 d6 xs ts Q E :=
  ⟨Z.h1.same s, Z.h2.same s, Z.h3.same s, Z.h4.same s, Z.h5.same s, Z.h6.same s, Z.hx.same s, Z.l4, Z.sz, Z.lv, fun f x dx p G g n => Z.ok f x dx p G (s.trans g) (none_back s n), fun f e x G g n => Z.no f e x G (s.trans g) (none_back s n)⟩
theorem made_sup {H : Hp} {v1 v2 v3 v4 v5 v6 : V} {d1 d2 d3 d4 d5 d6 : Dt} {xs : List V} {ts : List Tr} {Q : VK} {E : XK} (Z : SupTo K H v1 v2 v3 v4 v5 v6 d1 d2 d3 d4 d5 d6 xs ts Q E) :
    ∀ x dx, H x = none → H dx = none → dx ≠ x → spSMade K (.ref x :: v1 :: xs) [v2, v3, v4, v5, v6] (upd (upd H dx (.own x)) x (.ins (suA K) dx [])) (fun v H3 => v = .non ∧ Q (.ref x) H3) E := by
  intro x dx nx nd ne
  have lx := Z.hx.len
  have l4 := Z.l4
  refine ⟨[.ref x, v1], xs, rfl, rfl, Nat.le_trans (show xs.length ≤ 12 by omega) (by decide), fun p np => ?_⟩
  have s0 : Same H (upd (upd H dx (.own x)) x (.ins (suA K) dx [])) := (Same.new nd).trans (Same.new (by rw [upd_ne (Ne.symm ne)]; exact nx))
  have px : p ≠ x := fun z => by rw [z, upd_same] at np; cases np
  have s1 := s0.trans (Same.new (o := HO.tup xs) np)
  have lp : (Tr.pns ts).length = ts.length := pns_len ts
  have fk := firstKid_ok (Tr.pns ts) 0 1 (by omega) Z.sz Z.lv
  have lv := Z.lv
  have sz := Z.sz
  refine ⟨x, dx, v1, v2, v3, v4, v5, v6, d1, d2, d3, d4, d5, d6, p, xs, (Tr.pns ts).map .pn, rfl, by rw [upd_ne (Ne.symm px)]; exact upd_same, Z.h1.same s1, Z.h2.same s1, Z.h3.same s1, Z.h4.same s1, Z.h5.same s1, Z.h6.same s1, SqT.of upd_same, kids_of ((Z.hx.pt).same s1) (by omega) (by omega),
    fun fb _ H' s' => ⟨rfl, ?_⟩, fun f e e2 H' s' n q => Z.no f e e2 H' (s1.trans s') (none_back s1 n) q, fun _ i e => ?_⟩
  · have s2 : ∀ fs, Same H (upd H' x (.ins (suA K) dx fs)) := fun fs => same_putN (s1.trans s') nx
    have at_p : ∀ fs, upd H' x (.ins (suA K) dx fs) p = some (.tup xs) := fun fs => by rw [upd_ne px]; exact s' _ _ upd_same
    exact Z.ok fb x dx p _ (s2 _) nx upd_same (SqT.of (at_p _))
  · rw [fk] at e; cases e
def spSv (K : PySem.W.Frag) : Sp := fun vs H Q E => ∃ v1 v2 v3 v4 v5 v6 d1 d2 d3 d4 d5 d6 c xs ts, vs = [v1, .ref c, v2, v3, v4, v5, v6] ∧ (SqT K H c xs ∨ SqL K H c xs) ∧ SupTo K H v1 v2 v3 v4 v5 v6 d1 d2 d3 d4 d5 d6 xs ts Q E
theorem ok_supervisor (F : Has K mg "_supervisor" s_supervisor) (T : Txt K mg) (WS : Su K mg) (FS : FnRK P w K mg base (L2.CX P w) 25 (He.ma K (suA K) "__init__") sKs (spSMade K)) : FnQ P w K mg base (L2.CX P w) 27 "_supervisor" ["name", "children", "restart", "strategy", "most", "span", "deadline"] (spSv K) := by
  refine F.q sc_supervisor (fun _ _ _ _ _ _ us hl => match us, hl with | [_, _, _, _, _, _, _], _ => rfl) (fun vs H Q E h => by obtain ⟨_, _, _, _, _, _, _, _, _, _, _, _, _, _, _, rfl, _⟩ := h; rfl) (fun cdv A outer s H vs Q E hr h => ?_)
  obtain ⟨v1, v2, v3, v4, v5, v6, d1, d2, d3, d4, d5, d6, c, xs, ts, rfl, hc, Z⟩ := h
  refine ⟨_, (pss_cons (ps_ret (StD.pe_makeRKS WS.mkr FS (hr.mono (by decide)) rfl WS.gl (passes_call (E := E) (takes_of rfl rfl rfl rfl) (fun _ _ _ _ h => h)) (pa_cons (pv 0) (StX.pa_star (pv 1) pa_nil)) (pk_cons (pv 2) (pk_cons (pv 3) (pk_cons (pv 4) (pk_cons (pv 5) (pk_cons (pv 6) pk_nil)))))))
  pss_nil), ?_⟩
  exact ⟨_, rfl, _, rfl, c, xs, rfl, hc, _, rfl, _, rfl, _, rfl, _, rfl, _, rfl, rfl, by
    rw [List.append_nil]
    exact made_sup Z⟩
end
end K08
/-! with_children -/
namespace K08
open PySem PySem.Spec PyProof.Rows L2
section
variable {P : Program} {w : World} {K : PySem.W.Frag} {mg : Str → Option Value} {base : Heap}
abbrev svPs : List Str := ["name", "children", "restart", "strategy", "most", "span", "deadline"]
abbrev svKs : List Str := ["name", "restart", "strategy", "most", "span", "deadline", "children"]
/-- _supervisor, called by names in the order of a dict of settings -/
structure SvK (P : Program) (w : World) (K : PySem.W.Frag) (mg : Str → Option Value) (base : Heap) : Prop where
  gl : mg "_supervisor" = some (.ref (He.ga K "_supervisor"))
  kp : PySem.W.keepIn K (.ref (He.ga K "_supervisor")) = true
  fn : ∃ fd mv, FnOk P w K mg base (L2.CX P w) 27 (He.ga K "_supervisor") fd svPs (spSv K) ∧ KBn K fd svPs 0 svKs (fun us ws => us ++ mv ++ (ws.take 1 ++ ws.drop 6 ++ (ws.drop 1).take 5)) (fun vs zs => vs ++ [] ++ (zs.take 1 ++ zs.drop 6 ++ (zs.drop 1).take 5))
theorem sv_k (Hs : Has K mg "_supervisor" s_supervisor) (F : FnQ P w K mg base (L2.CX P w) 27 "_supervisor" svPs (spSv K)) : SvK P w K mg base := by
  refine ⟨F.gl, F.kp, ?_⟩
  obtain ⟨fd, G, _, oc, od, osl, lk⟩ := F.fn
  obtain ⟨fd', D⟩ := Hs.df
  obtain ⟨oc', od', osl', lk'⟩ := lookD D
  have e : fd = fd' := by
    have z := lk.symm.trans lk'
    cases z
    rfl
  subst e
  obtain ⟨oc2, od2, dV, kV, doc, pm, an, cdv, ct, osl2, rfl, lk2, hcd, hD, hK⟩ := D.ex
  rcases hD with ⟨_, rfl⟩ | ⟨e, _⟩
  rotate_left
  · exact absurd rfl e
  refine ⟨_, [], G, ⟨fun s us ws X l1 l2 => BindsTo.of_looks fun M => .of_pure ?_, fun r1 r2 => ((r1.append .nil).append (((Vals.take 1 r2).append (Vals.drop 6 r2)).append (Vals.take 5 (Vals.drop 1 r2))))⟩⟩
  match us, ws, l1, l2 with
  | [], [_, _, _, _, _, _, _], _, _ => rfl
theorem put_children {v1 v2 v3 v4 v5 v6 c : V} : putK (tab sAll [v1, v2, v3, v4, v5, v6]) (Sum.inr "children") c = tab svKs [v1, v2, v3, v4, v5, v6, c] := by
  have q0 : ¬ (("name" : Str) = "children") := by decide +kernel
  have q1 : ¬ (("restart" : Str) = "children") := by decide +kernel
  have q2 : ¬ (("strategy" : Str) = "children") := by decide +kernel
  have q3 : ¬ (("most" : Str) = "children") := by decide +kernel
  have q4 : ¬ (("span" : Str) = "children") := by decide +kernel
  have q5 : ¬ (("deadline" : Str) = "children") := by decide +kernel
  simp [tab, putK, q0, q1, q2, q3, q4, q5]
/-- a supervisor's plan with its settings and with other children -/
def spWc (K : PySem.W.Frag) : Sp := fun vs H Q E => ∃ v l n r st mo sp dl ks xs ts, vs = [v, .ref l] ∧ PTr K H v (.s n r st mo sp dl ks) ∧ H l = some (.lst xs) ∧ PTrs K H xs ts ∧ (Tr.s n r st mo sp dl ts).ok ∧ 1 + Pn.sizes (Tr.pns ts) ≤ 200 ∧ Pn.lvs (Tr.pns ts) + 1 ≤ 20 ∧
  ∀ u H', Same H H' → PTr K H' u (.s n r st mo sp dl ts) → Q u H'
theorem ok_with_children (F : Has K mg "with_children" s_with_children) (T : Txt K mg) (F_settings_of : FnQ P w K mg base CX0 1 "_settings_of" ["plan"] (spSetOf K)) (Z : SvK P w K mg base) : FnQ P w K mg base (L2.CX P w) 28 "with_children" ["plan", "children"] (spWc K) := by
  obtain ⟨fd, mv, FSv, hbSv⟩ := Z.fn
  refine F.q sc_with_children (fun _ _ _ _ _ _ us hl => match us, hl with | [_, _], _ => rfl) (fun vs H Q E h => by obtain ⟨_, _, _, _, _, _, _, _, _, _, _, rfl, _⟩ := h; rfl) (fun cdv A outer s H vs Q E hr h => ?_)
  obtain ⟨v, l, n, r, st, mo, sp, dl, ks, xs, ts, rfl, hv, el, hx, ok, sz, lv, k⟩ := h
  refine ⟨_, (pss_cons (ps_set (i := 2) sc_with_children.nd rfl (by first | exact .inl rfl | exact .inr rfl) (pe_f F_settings_of hr pass0 (pa_cons (pv 0) pa_nil)))
  (pss_cons (ps_dput (hu_of hr) (pv 2) pe_str (pv 1) rfl)
  (pss_cons (ps_ret (StD.pe_callD (ks := svKs) FSv (hr.mono (by decide)) rfl Z.gl Z.kp hbSv (passes_call (E := E) (takes_of rfl rfl rfl rfl) (fun _ _ _ _ h => h)) (pv 2)))
  pss_nil))), ?_⟩
  refine ⟨_, rfl, v, _, rfl, hv, fun p zs H1 s1 n1 ezs e1 => ?_⟩
  obtain rfl : zs = [.str n, .str r, .str st, .int mo, .int sp, dl] := ezs
  replace e1 : H1 p = some (.dK (tab sAll [.str n, .str r, .str st, .int mo, .int sp, dl])) := e1
  refine ⟨_, rfl, _, rfl, p, _, rfl, .inl ⟨_, Sum.inr "children", e1, rfl, (by show 6 < sizeLine; decide), rfl⟩, fun d nd => ?_⟩
  rw [put_children]
  have s2 : Solid H1 (upd H1 p (.dK (tab svKs [.str n, .str r, .str st, .int mo, .int sp, dl, .ref l]))) := Solid.upd (.inr ⟨_, e1⟩)
  have pd : p ≠ d := fun z => by rw [z, put_children] at nd; rw [upd_same] at nd; cases nd
  have ep : (upd (upd H1 p (.dK (tab svKs [.str n, .str r, .str st, .int mo, .int sp, dl, .ref l]))) d (.dK [])) p = some (.dK (tab svKs [.str n, .str r, .str st, .int mo, .int sp, dl, .ref l])) := by
    rw [upd_ne pd]; exact upd_same
  refine ⟨_, rfl, upd_same, p, _, rfl, pd, ep, rfl, ?_⟩
  rw [upd_upd]
  rw [put_children] at nd
  have sG : Same H (upd (upd H1 p (.dK (tab svKs [.str n, .str r, .str st, .int mo, .int sp, dl, .ref l]))) d (.dK (tab svKs [.str n, .str r, .str st, .int mo, .int sp, dl, .ref l]))) := (same_putN s1 n1).trans (Same.new nd)
  have ok' := ok
  obtain ⟨o1, o2, o3, o4, o5, o6, o7, o8⟩ := ok'
  refine ⟨.str n, .str r, .str st, .int mo, .int sp, dl, .str n, .str r, .str st, .int mo, .int sp, dlD dl, l, xs, ts, rfl, .inr (SqL.of (sG _ _ el)), ⟨nm_dd o1, rs_dd o2, st_dd o3, .int _, .int _, dl_dd o6, hx.same sG, by omega, sz, lv, fun _ x dx q H' s' nx ex hq => ?_, fun f e => ?_⟩⟩
  · exact k (.ref x) H' (sG.trans s') (.s ex hq (hx.same (sG.trans s')))
  · rw [sset_tr ok] at e; cases e
end
end K08
/-! _with_settings -/
namespace K08
open PySem PySem.Spec PyProof.Rows L2
/-! ### tables of settings -/
theorem tab_cons {n : Str} {ns : List Str} {v : V} {vs : List V} : tab (n :: ns) (v :: vs) = (Sum.inr n, v) :: tab ns vs := rfl
theorem val_tab : ∀ {N : List Str} {vs : List V} {i : Nat} {k : Str}, N.Nodup → N.length = vs.length → N[i]? = some k → valV (tab N vs) (Sum.inr k) = vs[i]?
  | [], _, i, k, _, _, e => by simp at e
  | n :: ns, [], _, _, _, l, _ => by cases l
  | n :: ns, v :: vs, 0, k, nd, l, e => by
    simp at e; subst e
    rw [tab_cons, valV_pos rfl]; rfl
  | n :: ns, v :: vs, i + 1, k, nd, l, e => by
    have e' : ns[i]? = some k := by simpa using e
    have m : k ∈ ns := List.mem_of_getElem? e'
    have ne : ¬ (Sum.inr n : Key) = Sum.inr k := fun z => by
      injection z with z
      rw [z] at nd
      exact (List.nodup_cons.mp nd).1 m
    have z := val_tab (List.nodup_cons.mp nd).2 (Nat.succ.inj l) e'
    rw [tab_cons]
    simp only [valV, List.find?_cons, decide_eq_false ne] at z ⊢
    simpa using z
theorem val_out : ∀ {N : List Str} {vs : List V} {k : Str}, k ∉ N → valV (tab N vs) (Sum.inr k) = none
  | [], _, k, _ => by simp [tab, valV]
  | n :: ns, [], k, _ => by simp [tab, valV]
  | n :: ns, v :: vs, k, h => by
    have ne : ¬ (Sum.inr n : Key) = Sum.inr k := fun z => by
      injection z with z
      exact h (by rw [z]; exact List.mem_cons_self)
    have z := val_out (N := ns) (vs := vs) (k := k) fun m => h (List.mem_cons_of_mem _ m)
    rw [tab_cons]
    simp only [valV, List.find?_cons, decide_eq_false ne] at z ⊢
    simpa using z
theorem idx_of {N : List Str} {k : Str} (h : k ∈ N) : N[N.idxOf k]? = some k := by
  rw [List.getElem?_eq_getElem (List.idxOf_lt_length_of_mem h), List.getElem_idxOf]
theorem val_in {N : List Str} {vs : List V} {k : Str} (nd : N.Nodup) (l : N.length = vs.length) (h : k ∈ N) : ∃ v, valV (tab N vs) (Sum.inr k) = some v := by
  have lt : N.idxOf k < vs.length := by rw [← l]; exact List.idxOf_lt_length_of_mem h
  exact ⟨_, (val_tab nd l (idx_of h)).trans (List.getElem?_eq_getElem lt)⟩
theorem map_tab : ∀ {N : List Str} {vs : List V} {k : Str} {v : V}, N.Nodup → N.length = vs.length → k ∈ N → (tab N vs).map (fun kv => if kv.1 = Sum.inr k then (kv.1, v) else kv) = tab N (vs.set (N.idxOf k) v)
  | [], _, k, v, _, _, h => by cases h
  | n :: ns, [], _, _, _, l, _ => by cases l
  | n :: ns, u :: us, k, v, nd, l, h => by
    obtain ⟨n1, n2⟩ := List.nodup_cons.mp nd
    rw [tab_cons, List.map_cons]
    by_cases c : n = k
    · subst c
      have id : ∀ (ns : List Str) (us : List V), n ∉ ns → (tab ns us).map (fun kv => if kv.1 = (Sum.inr n : Key) then (kv.1, v) else kv) = tab ns us := by
        intro ns
        induction ns with
        | nil => intro us _; rfl
        | cons m ms ih =>
          intro us hn
          cases us with
          | nil => rfl
          | cons u us =>
            have ne : ¬ (Sum.inr m : Key) = Sum.inr n := fun z => by injection z with z; exact hn (by rw [z]; exact List.mem_cons_self)
            rw [tab_cons, List.map_cons, if_neg ne, ih us fun q => hn (List.mem_cons_of_mem _ q)]
      rw [if_pos rfl, id ns us n1, List.idxOf_cons_self]
      rfl
    · have ne : ¬ (Sum.inr n : Key) = Sum.inr k := fun z => by injection z with z; exact c z
      have h' : k ∈ ns := by
        rcases List.mem_cons.mp h with q | q
        · exact absurd q.symm c
        · exact q
      rw [if_neg ne, map_tab n2 (Nat.succ.inj l) h', show (n :: ns).idxOf k = ns.idxOf k + 1 by rw [List.idxOf_cons, show (n == k) = false from beq_eq_false_iff_ne.mpr c]; rfl]
      rfl
theorem put_tab {N : List Str} {vs : List V} {k : Str} {v : V} (nd : N.Nodup) (l : N.length = vs.length) (h : k ∈ N) : putK (tab N vs) (Sum.inr k) v = tab N (vs.set (N.idxOf k) v) := by
  have any : ((tab N vs).any fun kv => decide (kv.1 = Sum.inr k)) = true := by
    obtain ⟨u, e⟩ := val_in nd l h
    unfold valV at e
    cases q : (tab N vs).find? fun kv => decide (kv.1 = Sum.inr k) with
    | none => rw [q] at e; cases e
    | some kv =>
      have z := List.find?_some q
      exact List.any_eq_true.mpr ⟨kv, List.mem_of_find?_eq_some q, z⟩
  unfold putK
  rw [if_pos any]
  exact map_tab nd l h
/-- settings put into others, one by one -/
def foldN {α : Type} (N : List Str) : List Str → List α → List α → List α
  | k :: ks, z :: zs, vs => foldN N ks zs (vs.set (N.idxOf k) z)
  | _, _, vs => vs
theorem foldN_len {α : Type} {N : List Str} : ∀ {ks : List Str} {zs vs : List α}, (foldN N ks zs vs).length = vs.length
  | [], _, _ => by simp [foldN]
  | _ :: _, [], _ => by simp [foldN]
  | k :: ks, z :: zs, vs => by rw [foldN, foldN_len, List.length_set]
theorem foldN_take {α : Type} {N : List Str} : ∀ {ks : List Str} {zs vs : List α} {i : Nat} {k : Str} {z : α}, ks[i]? = some k → zs[i]? = some z → foldN N (ks.take (i + 1)) (zs.take (i + 1)) vs = (foldN N (ks.take i) (zs.take i) vs).set (N.idxOf k) z
  | [], _, _, i, k, z, e, _ => by simp at e
  | _ :: _, [], _, i, k, z, _, e => by simp at e
  | k0 :: ks, z0 :: zs, vs, 0, k, z, e1, e2 => by
    simp at e1 e2
    subst e1 e2
    simp [foldN]
  | k0 :: ks, z0 :: zs, vs, i + 1, k, z, e1, e2 => by
    rw [List.take_succ_cons, List.take_succ_cons, List.take_succ_cons, List.take_succ_cons, foldN, foldN]
    exact foldN_take (by simpa using e1) (by simpa using e2)
def firstOut (N : List Str) : List Str → Option Str
  | [] => none
  | k :: ks => if k ∈ N then firstOut N ks else some k
section
variable {K : PySem.W.Frag} {H H' : Hp} {a : Addr}
/-- all stays but what stands at a -/
def Off (a : Addr) (H H' : Hp) : Prop := ∀ b o, H b = some o → b ≠ a → H' b = some o
theorem Off.sqT {kvs : List (Key × V)} {b : Addr} {xs : List V} (s : Off a H H') (ha : H a = some (.dK kvs)) (h : SqT K H b xs) : SqT K H' b xs := by
  rcases h with (h | ⟨o, h⟩) | h
  · exact .inl (.inl (s _ _ h (by rintro rfl; rw [ha] at h; cases h)))
  · exact .inl (.inr ⟨o, s _ _ h (by rintro rfl; rw [ha] at h; cases h)⟩)
  · exact .inr h
theorem Off.sqL {kvs : List (Key × V)} {b : Addr} {xs : List V} (s : Off a H H') (ha : H a = some (.dK kvs)) (h : SqL K H b xs) : SqL K H' b xs := by
  rcases h with (h | ⟨o, h⟩) | h
  · exact .inl (.inl (s _ _ h (by rintro rfl; rw [ha] at h; cases h)))
  · exact .inl (.inr ⟨o, s _ _ h (by rintro rfl; rw [ha] at h; cases h)⟩)
  · exact .inr h
mutual
theorem Dd.off {p : Key × V} {r : List (Key × V)} (s : Off a H H') (ha : H a = some (.dK (p :: r))) : ∀ {v : V} {d : Dt}, Dd K H v d → Dd K H' v d
  | _, _, .non => .non
  | _, _, .bl b => .bl b
  | _, _, .int i => .int i
  | _, _, .str x h => .str x h
  | _, _, .lst h t => .lst (s.sqL ha h) (DdAll.off s ha t)
  | _, _, .tup h t => .tup (s.sqT ha h) (DdAll.off s ha t)
  | _, _, .dic h => .dic (s _ _ h (by rintro rfl; rw [ha] at h; cases h))
  | _, _, .wrk h l t o => .wrk (s _ _ h (by rintro rfl; rw [ha] at h; cases h)) l (Dd.off s ha t) o
  | _, _, .sup h => .sup (s _ _ h (by rintro rfl; rw [ha] at h; cases h))
theorem DdAll.off {p : Key × V} {r : List (Key × V)} (s : Off a H H') (ha : H a = some (.dK (p :: r))) : ∀ {vs : List V} {ds : List Dt}, DdAll K H vs ds → DdAll K H' vs ds
  | _, _, .nil => .nil
  | _, _, .cons h t => .cons (Dd.off s ha h) (DdAll.off s ha t)
end
theorem DdAll.set : ∀ {vs : List V} {ds : List Dt} {v : V} {d : Dt}, DdAll K H vs ds → Dd K H v d → ∀ i : Nat, DdAll K H (vs.set i v) (ds.set i d)
  | _, _, _, _, .nil, _, _ => .nil
  | _, _, _, _, .cons h t, g, 0 => .cons g t
  | _, _, _, _, .cons h t, g, i + 1 => .cons h (DdAll.set t g i)
theorem DdAll.fold {N : List Str} : ∀ {ks : List Str} {zs vs : List V} {es ds : List Dt}, DdAll K H zs es → DdAll K H vs ds → DdAll K H (foldN N ks zs vs) (foldN N ks es ds)
  | [], _, _, _, _, _, g => by simpa [foldN] using g
  | _ :: _, _, _, _, _, .nil, g => by simpa [foldN] using g
  | k :: ks, _, _, _, _, .cons h t, g => by
    rw [foldN, foldN]
    exact DdAll.fold t (DdAll.set g h _)
end
end K08
/-! _with_settings -/
namespace K08
open PySem PySem.Spec PyProof.Rows L2
section
variable {P : Program} {w : World} {K : PySem.W.Frag} {mg : Str → Option Value} {base : Heap}
abbrev s_with_settings : Stmt := (top 73)
def N_with_settings : List Str := ["plan", "settings", "wanted", "setting"]
theorem sc_with_settings : FnScope N_with_settings ["plan", "settings"] (defScope s_with_settings) := ⟨rfl, rfl, rfl, by decide +kernel, rfl, by decide +kernel, by decide +kernel⟩
/-- WorkerPlan(**settings) -/
theorem wk_bindD {dS : Addr} {fd : FuncData} (F : FunD K "__init__" "WorkerPlan.__init__" (defArgs s_WorkerPlan___init__) (defBody s_WorkerPlan___init__) (defScope s_WorkerPlan___init__) [] (wDef dS) (He.ma K (wkA K) "__init__") fd) :
    ∃ mv : List Value, KBn K fd wPs 1 wAll (fun us ws => us ++ mv ++ ws) (fun vs zs => vs ++ [] ++ zs) := by
  refine F.kbinds0 1 wAll [] (fun a b c => a ++ b ++ c) (by simp [wDef]) (by simp) (fun r1 r2 r3 => (r1.append r2).append r3) ?_
  intro D doc pm an cdv ct us mv ws l1 l2 l3
  match us, mv, ws, l1, l2, l3 with
  | [_], [], [_, _, _, _, _, _, _], _, _, _ => rfl

/-- the tree with another restart -/
def setR (r : Str) : Tr → Tr
  | .w n _ o c dl rf sc sd => .w n r o c dl rf sc sd
  | .s n _ st mo sp dl ts => .s n r st mo sp dl ts
def rS : Str := "restart"
theorem keys_nodup (t : Tr) : t.keys.Nodup := by
  cases t
  · exact (by decide +kernel : wAll.Nodup)
  · exact (by decide +kernel : sAll.Nodup)
theorem keys_r (t : Tr) : t.keys.idxOf ("restart" : Str) = 1 ∧ ("restart" : Str) ∈ t.keys := by
  cases t
  · exact (by decide +kernel : wAll.idxOf ("restart" : Str) = 1 ∧ ("restart" : Str) ∈ wAll)
  · exact (by decide +kernel : sAll.idxOf ("restart" : Str) = 1 ∧ ("restart" : Str) ∈ sAll)
theorem sets_len {H : Hp} {t : Tr} {zs : List V} (h : SetsOf K H t zs) : t.keys.length = zs.length := by
  cases t with
  | w => obtain ⟨_, rfl, _⟩ := h; rfl
  | s => obtain rfl : zs = _ := h; rfl
def spWs (K : PySem.W.Frag) : Sp := fun vs H Q _ => ∃ v t da r, vs = [v, .ref da] ∧ PTr K H v t ∧ t.ok ∧ t.pn.size ≤ 200 ∧ t.pn.lv ≤ 19 ∧ H da = some (.dK [(Sum.inr "restart", .str r)]) ∧ r ∈ restartsS ∧ ∀ u H', Same H H' → PTr K H' u (setR r t) → Q u H'
theorem ok_with_settings {fd : FuncData} {mvW : List Value} (F : Has K mg "_with_settings" s_with_settings) (T : Txt K mg) (L : Pl K) (TE : Err K mg "BadSetting" "setting") (W : Wk K mg) (FW : FnOk P w K mg base (L2.CX P w) 11 (He.ma K (wkA K) "__init__") fd wPs (spWInit K)) (hbW : KBn K fd wPs 1 wAll (fun us ws => us ++ mvW ++ ws) (fun vs zs => vs ++ [] ++ zs))
    (F_settings_of : FnQ P w K mg base CX0 1 "_settings_of" ["plan"] (spSetOf K)) (Z : SvK P w K mg base) : FnQ P w K mg base (L2.CX P w) 28 "_with_settings" ["plan", "settings"] (spWs K) := by
  obtain ⟨fdS, mv, FSv, hbSv⟩ := Z.fn
  refine F.q sc_with_settings (fun _ _ _ _ _ _ us hl => match us, hl with | [_, _], _ => rfl) (fun vs H Q E h => by obtain ⟨_, _, _, _, rfl, _⟩ := h; rfl) (fun cdv A outer s H vs Q E hr h => ?_)
  obtain ⟨v, t, da, r, rfl, hv, ok, sz, lv, ed, hr1, kk⟩ := h
  have gI : mg "isinstance" = none := T.fr _ (by simp [frees])
  refine ⟨_, (pss_cons (ps_set (i := 2) sc_with_settings.nd rfl (by first | exact .inl rfl | exact .inr rfl) (pe_f F_settings_of hr pass0 (pa_cons (pv 0) pa_nil)))
  (pss_cons (ps_lock (ps_for (passes_of rfl) rfl (pi_keys (pv 1)) (pg_name (i := 3) sc_with_settings.nd rfl (.inl rfl)) (pss_cons (ps_if (pt_cmp (pc_dnotin (hu_of hr) (pv 3) (pv 2))) (pss_one (ps_raise rfl (takes_of rfl rfl rfl rfl) (pmk_xc PySem.F.excBase_ValueError PySem.F.store_ValueError TE.cl TE.xi fn_setting TE.ty hr (by decide) TE.gl (pv 3)))) pss_nil) (pss_one (ps_dput (hu_of hr) (pv 2) (pv 3) (pe_dget (hu_of hr) (pv 1) (pv 3) (fun _ _ => rfl)) rfl)))))
  (pss_cons (ps_if (pt_val (pe_callB call_isi (by rfl) gI boot_isinstance (pa_cons (pv 0) (pa_cons (C8.pe_gc (by rfl) T.c_WorkerPlan) pa_nil))))
  (pss_one (ps_ret (StD.pe_makeD (ks := wAll) W.mkr FW (hr.mono (by decide)) rfl W.gl hbW (passes_call (E := E) (takes_of rfl rfl rfl rfl) (fun _ _ _ _ h => h)) (pv 2))))
  pss_nil)
  (pss_cons (ps_dput (hu_of hr) (pv 2) pe_str (pe_fld (pv 0) rfl) rfl)
  (pss_cons (ps_ret (StD.pe_callD (ks := svKs) FSv (hr.mono (by decide)) rfl Z.gl Z.kp hbSv (passes_call (E := E) (takes_of rfl rfl rfl rfl) (fun _ _ _ _ h => h)) (pv 2)))
  pss_nil))))), ?_⟩
  refine ⟨_, rfl, v, _, rfl, hv, fun p zs H1 s1 n1 Zs e1 => ?_⟩
  have e1d := s1 _ _ ed
  refine ⟨da, _, e1d, trivial, fun od => ?_⟩
  have pda : p ≠ da := fun z => by rw [z, ed] at n1; cases n1
  have nda : t.keys.Nodup := keys_nodup t
  have kl := sets_len Zs
  obtain ⟨kr1, kr2⟩ := keys_r t
  have kl10 : zs.length ≤ 10 := by rw [← kl]; cases t <;> (show _ ≤ _; simp [Tr.keys])
  refine ⟨_, rfl, da, od, rfl, .inl ⟨[(Sum.inr "restart", .str r)], upd_same, for_it walk_keys (fun i σ G => (∃ v3, σ = [some v, some (.ref da), some (.ref p), v3]) ∧ G da = some (.frz od (.dK [(Sum.inr "restart", .str r)])) ∧ G p = some (.dK (tab t.keys (if i = 0 then zs else zs.set 1 (.str r)))) ∧ Off da H G)
    ⟨⟨none, rfl⟩, upd_same, by rw [upd_ne pda]; simpa using e1, fun b o e n => by rw [upd_ne n]; exact s1 _ _ e⟩ (fun i σ G _ h => h.2.1) ?_ ?_⟩⟩
  · rintro i x σ G1 G2 hi ⟨⟨v3, rfl⟩, gd, gp, off⟩ ⟨rfl, k, z, ex, rfl⟩
    obtain rfl : i = 0 := by have : i < 1 := hi; omega
    obtain ⟨rfl, rfl⟩ : k = (Sum.inr ("restart" : Str) : Key) ∧ z = V.str r := by simpa using ex.symm
    rw [if_pos rfl] at gp
    refine ⟨_, rfl, _, rfl, p, _, rfl, DGet.k (k := Sum.inr "restart") gp, _, rfl, ?_⟩
    obtain ⟨u, eu⟩ := val_in nda kl kr2
    refine if_no (by rw [eu]; rfl) ?_
    refine ⟨_, rfl, _, rfl, da, .str r, rfl, .inl ⟨_, Sum.inr "restart", .inr ⟨_, gd⟩, rfl, (show some (V.str r) = valV [((Sum.inr ("restart" : Str) : Key), V.str r)] (Sum.inr ("restart" : Str)) from (valV_pos (p := ((Sum.inr ("restart" : Str) : Key), V.str r)) rfl).symm)⟩, _, rfl, _, rfl, p, _, rfl, DPut.k (k := Sum.inr "restart") gp (by rw [show (tab t.keys zs).length = t.keys.length by unfold tab; rw [List.length_zip, List.length_map, kl, Nat.min_self], kl]; exact Nat.lt_of_le_of_lt kl10 (by decide)), ⟨_, rfl⟩, ?_, ?_, ?_⟩
    · rw [upd_ne (Ne.symm pda)]; exact gd
    · rw [upd_same, put_tab nda kl kr2, kr1, if_neg (by omega)]
    · intro b o e n
      rw [upd_ne (ne_of_none e n1)]
      exact off b o e n
  · rintro σ G ⟨⟨v3, rfl⟩, gd, gp, off⟩
    replace gp : G p = some (.dK (tab t.keys (zs.set 1 (.str r)))) := gp
    have S : Same H (upd G da (.dK [(Sum.inr "restart", .str r)])) := fun b o e => by
      by_cases m : b = da
      · subst m; rw [upd_same, ← ed]; exact e
      · rw [upd_ne m]; exact off b o e m
    have gp2 : (upd G da (.dK [(Sum.inr "restart", .str r)])) p = some (.dK (tab t.keys (zs.set 1 (.str r)))) := by rw [upd_ne pda]; exact gp
    refine ⟨gd, _, rfl, _, _, _, _, _, rfl, .own _, (hv.pt.same S).ty T.pk, T.pk.kit _ 5 (kt_lt _) (by decide), _, rfl, ?_⟩
    cases hv with
    | @w a dx n r0 o c dl rf sc0 scq sd h hd so =>
      obtain ⟨sc, rfl, hdz, sol⟩ := Zs
      replace gp2 : (upd G da (.dK [(Sum.inr "restart", .str r)])) p = some (.dK (tab wAll [.str n, .str r, .int o, .int c, dl, .int rf, sc])) := gp2
      obtain ⟨o1, o2, o3, o4, o5, o6, o7⟩ := id ok
      have okn : (Tr.w n r o c dl rf sc0 sd).ok := ⟨o1, hr1, o3, o4, o5, o6, o7⟩
      refine if_yes rfl fun d nd' => ?_
      have pd : p ≠ d := fun z => by rw [z] at gp2; rw [gp2] at nd'; cases nd'
      refine ⟨_, rfl, upd_same, p, _, rfl, pd, by rw [upd_ne pd]; exact gp2, rfl, ?_⟩
      rw [upd_upd]
      intro y dx ny nx nxy
      have S2 : Same H (upd (upd G da (.dK [(Sum.inr "restart", .str r)])) d (.dK (tab wAll [.str n, .str r, .int o, .int c, dl, .int rf, sc]))) := S.trans (Same.new nd')
      have S3 := S2.trans ((Same.new (o := HO.own y) nx).trans (Same.new (o := HO.ins (wkA K) dx []) (by rw [upd_ne (Ne.symm nxy)]; exact ny)))
      refine ⟨y, dx, .str n, .str r, .int o, .int c, dl, .int rf, sc, .str n, .str r, .int o, .int c, dlD dl, .int rf, sd, rfl, upd_same, nm_dd o1, rs_dd hr1, .int _, .int _, dl_dd o5, .int _, hdz.same S3, fun fb H' s' => ⟨rfl, ?_⟩, fun f fb => ?_⟩
      · exact kk (.ref y) _ (same_putN (S3.trans s') (none_back S2 ny)) (.w upd_same (hdz.same (same_putN (S3.trans s') (none_back S2 ny))) sol)
      · rw [wset_tr okn] at fb; cases fb
    | @s a dx c n r0 st mo sp dl vs ts h q ha =>
      obtain rfl : zs = [.str n, .str r0, .str st, .int mo, .int sp, dl] := Zs
      obtain ⟨o1, o2, o3, o4, o5, o6, o7, o8⟩ := id ok
      have okn : (Tr.s n r st mo sp dl ts).ok := ⟨o1, hr1, o3, o4, o5, o6, o7, o8⟩
      replace gp2 : (upd G da (.dK [(Sum.inr "restart", .str r)])) p = some (.dK (tab sAll [.str n, .str r, .str st, .int mo, .int sp, dl])) := gp2
      have h2' := S _ _ h
      refine if_no rfl ⟨_, rfl, a, suA K, dx, _, .ref c, rfl, h2', L.cs, L.ns _ (by simp), by kernel_rfl, _, rfl, p, _, rfl, .inl ⟨_, Sum.inr "children", gp2, rfl, (by show 6 < sizeLine; decide), rfl⟩, fun d nd' => ?_⟩
      rw [put_children] at nd'
      rw [put_children]
      have pd : p ≠ d := fun z => by rw [z, upd_same] at nd'; cases nd'
      refine ⟨_, rfl, upd_same, p, _, rfl, pd, by rw [upd_ne pd]; exact upd_same, rfl, ?_⟩
      rw [upd_upd]
      have S3 : Same H (upd (upd (upd G da (.dK [(Sum.inr "restart", .str r)])) p (.dK (tab svKs [.str n, .str r, .str st, .int mo, .int sp, dl, .ref c]))) d (.dK (tab svKs [.str n, .str r, .str st, .int mo, .int sp, dl, .ref c]))) := (same_putN S n1).trans (Same.new nd')
      have zz : 1 + Pn.sizes (Tr.pns ts) ≤ 200 := sz
      have ll : 1 + Pn.lvs (Tr.pns ts) ≤ 19 := lv
      refine ⟨.str n, .str r, .str st, .int mo, .int sp, dl, .str n, .str r, .str st, .int mo, .int sp, dlD dl, c, vs, ts, rfl, .inl (S3.sqT q), ⟨nm_dd o1, rs_dd hr1, st_dd o3, .int _, .int _, dl_dd o6, ha.same S3, ?_, zz, by omega, fun fb x dx' p' H' s' nx ex hq => kk (.ref x) H' (S3.trans s') (.s ex hq (ha.same (S3.trans s'))), fun f fb => ?_⟩⟩
      · omega
      · rw [sset_tr okn] at fb; cases fb
end
end K08
/-! xs[i], xs a list or a tuple -/
namespace L2
open PySem PySem.Spec PyProof.Rows
def rIxE (K : PySem.W.Frag) : R2 := fun x y H Q => rIxL K x y H Q ∨ rIxT K x y H Q
theorem ix_either {X : Cx} : IxR X (rIxE X.K) := by
  intro value slice pins s σ H x y v u Q I rx ry h hs
  rcases h with h | h
  · exact ix_list value slice pins s σ H x y v u Q I rx ry h hs
  · exact ix_tup value slice pins s σ H x y v u Q I rx ry h hs
/-- a list or a tuple of these values -/
def SqE (K : PySem.W.Frag) (H : Hp) (p : Addr) (xs : List V) : Prop := SqL K H p xs ∨ SqT K H p xs
theorem SqE.same {K : PySem.W.Frag} {H H' : Hp} {p : Addr} {xs : List V} (s : Same H H') (h : SqE K H p xs) : SqE K H' p xs := by
  rcases h with h | h
  · rcases h with (h | ⟨o, h⟩) | h
    · exact .inl (.inl (.inl (s _ _ h)))
    · exact .inl (.inl (.inr ⟨o, s _ _ h⟩))
    · exact .inl (.inr h)
  · exact .inr (s.sqT h)
theorem ixE_at {K : PySem.W.Frag} {H : Hp} {p : Addr} {xs : List V} {i : Int} {v : V} {Q : VK} (h : SqE K H p xs) (e : atI xs i = some v) (q : Q v H) : rIxE K (.ref p) (.int i) H Q := by
  rcases h with h | h
  · exact .inl ⟨p, xs, i, v, rfl, rfl, h, e, q⟩
  · exact .inr ⟨p, xs, i, v, rfl, rfl, h, e, q⟩
end L2
/-! a name in a plan; the place of the first child in which it is -/
namespace K08
open PySem PySem.Spec PyProof.Rows L2
section
variable {P : Program} {w : World} {K : PySem.W.Frag} {mg : Str → Option Value} {base : Heap}
abbrev s_WorkerPlan___contains__ : Stmt := (inClass (top 53) 3)
def N_WorkerPlan___contains__ : List Str := ["self", "name"]
theorem sc_WorkerPlan___contains__ : FnScope N_WorkerPlan___contains__ ["self", "name"] (defScope s_WorkerPlan___contains__) := ⟨rfl, rfl, rfl, by decide +kernel, rfl, by decide +kernel, by decide +kernel⟩
abbrev s_SupervisorPlan___contains__ : Stmt := (inClass (top 54) 3)
def N_SupervisorPlan___contains__ : List Str := ["self", "name"]
theorem sc_SupervisorPlan___contains__ : FnScope N_SupervisorPlan___contains__ ["self", "name"] (defScope s_SupervisorPlan___contains__) := ⟨rfl, rfl, rfl, by decide +kernel, rfl, by decide +kernel, by decide +kernel⟩
abbrev s_turn_to : Stmt := (top 64)
def N_turn_to : List Str := ["children", "place", "turn"]
theorem sc_turn_to : FnScope N_turn_to ["children", "place"] (defScope s_turn_to) := ⟨rfl, rfl, rfl, by decide +kernel, rfl, by decide +kernel, by decide +kernel⟩
/-- whether a value is a name in it -/
def spIn (K : PySem.W.Frag) : Sp := fun vs H Q _ => ∃ v y t d, vs = [v, y] ∧ PTr K H v t ∧ t.pn.lv ≤ 7 ∧ t.names.length ≤ 100000 ∧ Dd K H y d ∧ ∀ H', Same H H' → Q (.bl (isOne t.names d)) H'
theorem ok_in_w {fd : FuncData} (F : FunD K "__contains__" "WorkerPlan.__contains__" (defArgs s_WorkerPlan___contains__) (defBody s_WorkerPlan___contains__) (defScope s_WorkerPlan___contains__) [] [] (He.ma K (wkA K) "__contains__") fd) (T : Txt K mg)
    (F_names : FnQ P w K mg base CX0 9 "names" ["plan"] (spNames K 7)) (F_is_one_of : FnQ P w K mg base CX0 1 "is_one_of" ["value", "words"] (spOne K)) :
    FnR P w K mg base CX0 10 (He.ma K (wkA K) "__contains__") (spIn K) := by
  refine fnR_of (ps := ["self", "name"]) (F.ok sc_WorkerPlan___contains__ (fun vs H Q E h => by obtain ⟨_, _, _, _, rfl, _⟩ := h; rfl) (fun cdv A outer s H vs Q E hr h => ?_)) (FunD.bindsN F fun _ _ _ _ _ _ us hl => match us, hl with | [_, _], _ => rfl)
  obtain ⟨v, y, t, d, rfl, hv, lv, sz, hd, k⟩ := h
  refine ⟨_, PSs.nox (pss_one (ps_ret (pe_f F_is_one_of hr pass0 (pa_cons (pv 1) (pa_cons (pe_f F_names hr pass0 (pa_cons (pv 0) pa_nil)) pa_nil))))), ?_⟩
  exact ⟨_, rfl, _, rfl, v, t, rfl, hv, lv, sz, fun p G s1 hp => ⟨y, d, p, _, rfl, hd.same s1, hp, fun G2 s2 => k G2 (s1.trans s2)⟩⟩
theorem ok_in_s {fd : FuncData} (F : FunD K "__contains__" "SupervisorPlan.__contains__" (defArgs s_SupervisorPlan___contains__) (defBody s_SupervisorPlan___contains__) (defScope s_SupervisorPlan___contains__) [] [] (He.ma K (suA K) "__contains__") fd) (T : Txt K mg)
    (F_names : FnQ P w K mg base CX0 9 "names" ["plan"] (spNames K 7)) (F_is_one_of : FnQ P w K mg base CX0 1 "is_one_of" ["value", "words"] (spOne K)) :
    FnR P w K mg base CX0 10 (He.ma K (suA K) "__contains__") (spIn K) := by
  refine fnR_of (ps := ["self", "name"]) (F.ok sc_SupervisorPlan___contains__ (fun vs H Q E h => by obtain ⟨_, _, _, _, rfl, _⟩ := h; rfl) (fun cdv A outer s H vs Q E hr h => ?_)) (FunD.bindsN F fun _ _ _ _ _ _ us hl => match us, hl with | [_, _], _ => rfl)
  obtain ⟨v, y, t, d, rfl, hv, lv, sz, hd, k⟩ := h
  refine ⟨_, PSs.nox (pss_one (ps_ret (pe_f F_is_one_of hr pass0 (pa_cons (pv 1) (pa_cons (pe_f F_names hr pass0 (pa_cons (pv 0) pa_nil)) pa_nil))))), ?_⟩
  exact ⟨_, rfl, _, rfl, v, t, rfl, hv, lv, sz, fun p G s1 hp => ⟨y, d, p, _, rfl, hd.same s1, hp, fun G2 s2 => k G2 (s1.trans s2)⟩⟩
/-- where the two classes have their __contains__ -/
structure Ins (K : PySem.W.Frag) : Prop where
  w1 : PySem.W.findIn K (.ref (wkA K)) "__contains__" = some (some (.ref (He.ma K (wkA K) "__contains__")))
  w2 : PySem.W.typeIn K (.ref (He.ma K (wkA K) "__contains__")) = some (.type "function")
  s1 : PySem.W.findIn K (.ref (suA K)) "__contains__" = some (some (.ref (He.ma K (suA K) "__contains__")))
  s2 : PySem.W.typeIn K (.ref (He.ma K (suA K) "__contains__")) = some (.type "function")
/-- all that in asks -/
structure InF (P : Program) (w : World) (K : PySem.W.Frag) (mg : Str → Option Value) (base : Heap) : Prop where
  at' : Ins K
  fw : FnR P w K mg base CX0 10 (He.ma K (wkA K) "__contains__") (spIn K)
  fs : FnR P w K mg base CX0 10 (He.ma K (suA K) "__contains__") (spIn K)
theorem in_at {H : Hp} {v y : V} {t : Tr} {d : Dt} {Q : VK} {neg : Bool} (L : InF P w K mg base) (hv : PTr K H v t) (lv : t.pn.lv ≤ 7) (sz : t.names.length ≤ 100000) (hd : Dd K H y d)
    (k : ∀ H', Same H H' → Q (.bl (if neg then !isOne t.names d else isOne t.names d)) H') : rInOwn P w K mg base CX0 10 (fun _ _ _ => False) neg y v H Q := by
  have hv' := hv
  cases hv with
  | w h q s => exact ⟨_, wkA K, _, _, _, spIn K, rfl, h, L.at'.w1, L.at'.w2, L.fw, _, _, _, d, rfl, hv', lv, sz, hd, fun H' s => ⟨_, rfl, k H' s⟩⟩
  | s h q s => exact ⟨_, suA K, _, _, _, spIn K, rfl, h, L.at'.s1, L.at'.s2, L.fs, _, _, _, d, rfl, hv', lv, sz, hd, fun H' s => ⟨_, rfl, k H' s⟩⟩
/-- the place of the first in which the name is -/
def turnOf (x : Str) : List Tr → Nat
  | [] => 0
  | t :: ts => if x ∈ t.names then 0 else turnOf x ts + 1
theorem turn_lt : ∀ {x : Str} {ts : List Tr}, x ∈ Tr.namesL ts → turnOf x ts < ts.length
  | x, [], h => by cases h
  | x, t :: ts, h => by
    unfold turnOf
    by_cases c : x ∈ t.names
    · rw [if_pos c]; exact Nat.succ_pos _
    · rw [if_neg c]
      have h2 : x ∈ t.names ++ Tr.namesL ts := h
      have := turn_lt ((List.mem_append.mp h2).resolve_left c)
      rw [List.length_cons]; omega
theorem turn_at : ∀ {x : Str} {ts : List Tr}, x ∈ Tr.namesL ts → ∃ t, ts[turnOf x ts]? = some t ∧ x ∈ t.names
  | x, [], h => by cases h
  | x, t :: ts, h => by
    unfold turnOf
    by_cases c : x ∈ t.names
    · rw [if_pos c]; exact ⟨t, rfl, c⟩
    · rw [if_neg c]
      have h2 : x ∈ t.names ++ Tr.namesL ts := h
      obtain ⟨u, e, m⟩ := turn_at ((List.mem_append.mp h2).resolve_left c)
      exact ⟨u, by simpa using e, m⟩
theorem turn_not : ∀ {x : Str} {ts : List Tr} {i : Nat} {t : Tr}, i < turnOf x ts → ts[i]? = some t → x ∉ t.names
  | x, [], i, t, h, e => by simp at e
  | x, u :: us, i, t, h, e => by
    unfold turnOf at h
    by_cases c : x ∈ u.names
    · rw [if_pos c] at h; omega
    · rw [if_neg c] at h
      cases i with
      | zero => simp at e; subst e; exact c
      | succ i => exact turn_not (ts := us) (i := i) (by omega) (by simpa using e)
/-- of a list of children, one of which has the name -/
def spTurn (K : PySem.W.Frag) : Sp := fun vs H Q _ => ∃ p xs ts x, vs = [.ref p, .str x] ∧ SqE K H p xs ∧ PTrs K H xs ts ∧ x ∈ Tr.namesL ts ∧ x.length ≤ 20 ∧ Pn.lvs (Tr.pns ts) ≤ 7 ∧ (Tr.namesL ts).length ≤ 100000 ∧ ∀ H', Same H H' → Q (.int (turnOf x ts : Nat)) H'
theorem ok_turn_to (F : Has K mg "_turn_to" s_turn_to) (T : Txt K mg) (L : InF P w K mg base) : FnQ P w K mg base CX0 11 "_turn_to" ["children", "place"] (spTurn K) := by
  refine F.q sc_turn_to (fun _ _ _ _ _ _ us hl => match us, hl with | [_, _], _ => rfl) (fun vs H Q E h => by obtain ⟨_, _, _, _, rfl, _⟩ := h; rfl) (fun cdv A outer s H vs Q E hr h => ?_)
  obtain ⟨p, xs, ts, x, rfl, hp, hx, mx, lx, lv, sz, k⟩ := h
  refine ⟨_, PSs.nox (pss_cons (ps_set (i := 2) sc_turn_to.nd rfl (by first | exact .inl rfl | exact .inr rfl) pe_int)
  (pss_cons (ps_while PassesOwn.never (pt_cmpR (op_notInOwn (CX := CX0) (n := 10) (E := fun _ _ _ => False) (hr.mono (by decide)) pass0) (pv 1) (pe_ix ix_either (pv 0) (pv 2) (fun _ _ => rfl)) (by first | exact nomark _ | rfl))
  (pss_one (ps_aug (i := 2) sc_turn_to.nd rfl (.inl rfl) pe_int ip_add)))
  (pss_one (ps_ret (pv 2))))), ?_⟩
  refine ⟨fun m σ G => ∃ i : Nat, σ = [some (.ref p), some (.str x), some (.int i)] ∧ i ≤ turnOf x ts ∧ m = turnOf x ts - i ∧ Same H G, ⟨_, 0, rfl, Nat.zero_le _, rfl, Same.refl H⟩, ?_⟩
  rintro m σ G ⟨i, rfl, hi, rfl, s⟩
  have lt := turn_lt mx
  have lxs := hx.len
  have il : i < xs.length := by omega
  obtain ⟨t, et, ht⟩ := hx.get (List.getElem?_eq_getElem il)
  have sz1 := names_kid et
  have lv1 := Pn.lvs_get (pns_get et)
  refine ⟨_, rfl, _, rfl, _, rfl, ixE_at (hp.same s) (atI_nat (List.getElem?_eq_getElem il)) ?_⟩
  refine in_at L (ht.same s) (by omega) (by omega) (.str x (by omega)) fun G2 s2 => ?_
  have st := s.trans s2
  have e1 : isOne t.names (.str x) = true ↔ x ∈ t.names := by
    show t.names.contains x = true ↔ _
    exact List.contains_iff_mem
  by_cases c : x ∈ t.names
  · have ei : i = turnOf x ts := by
      rcases Nat.lt_or_ge i (turnOf x ts) with h | h
      · exact absurd c (turn_not h et)
      · omega
    refine ⟨false, by rw [e1.mpr c]; rfl, if_no rfl ⟨_, rfl, ?_⟩⟩
    rw [ei]
    exact k G2 st
  · have ni : i < turnOf x ts := by
      rcases Nat.lt_or_ge i (turnOf x ts) with h | h
      · exact h
      · obtain ⟨u, eu, mu⟩ := turn_at mx
        have e5 : i = turnOf x ts := by omega
        rw [← e5, et] at eu
        cases eu
        exact absurd mu c
    have e2 : isOne t.names (.str x) = false := by
      cases q : isOne t.names (.str x) with
      | false => rfl
      | true => exact absurd (e1.mp q) c
    refine ⟨true, by rw [e2]; rfl, if_yes rfl ⟨fun σ G3 => σ = [some (.ref p), some (.str x), some (.int ((i + 1 : Nat) : Int))] ∧ Same H G3, ?_, _, rfl, _, _, rfl, rfl, rfl, st⟩⟩
    rintro σ' G3 ⟨rfl, s3⟩
    exact ⟨turnOf x ts - (i + 1), by omega, i + 1, rfl, by omega, rfl, s3⟩
end
end K08
/-! _changed_below, with another restart -/
namespace K08
open PySem PySem.Spec PyProof.Rows L2
mutual
/-- the tree in which the first with the name x has another restart -/
def chgT (x r : Str) : Tr → Tr
  | .w n _ o c dl rf sc sd => .w n r o c dl rf sc sd
  | .s n r0 st mo sp dl ts => if n = x then .s n r st mo sp dl ts else .s n r0 st mo sp dl (chgL x r ts)
def chgL (x r : Str) : List Tr → List Tr
  | [] => []
  | t :: ts => if x ∈ t.names then chgT x r t :: ts else t :: chgL x r ts
end
theorem chgL_at : ∀ {x r : Str} {ts : List Tr} {t : Tr}, x ∈ Tr.namesL ts → ts[turnOf x ts]? = some t → chgL x r ts = ts.set (turnOf x ts) (chgT x r t)
  | x, r, [], t, h, _ => by cases h
  | x, r, v :: vs, t, h, e => by
    unfold chgL
    unfold turnOf at e ⊢
    by_cases c : x ∈ v.names
    · rw [if_pos c] at e ⊢
      rw [if_pos c]
      simp at e; rw [e]; rfl
    · rw [if_neg c] at e ⊢
      rw [if_neg c]
      have h2 : x ∈ v.names ++ Tr.namesL vs := h
      rw [chgL_at (r := r) ((List.mem_append.mp h2).resolve_left c) (by simpa using e)]
      rfl
mutual
theorem chg_pn (x r : Str) : ∀ t : Tr, (chgT x r t).pn = t.pn
  | .w _ _ _ _ _ _ _ _ => rfl
  | .s n _ _ _ _ _ ts => by
    rw [chgT]
    split
    · rfl
    · show Pn.sup (Tr.pns (chgL x r ts)) = Pn.sup (Tr.pns ts)
      rw [chgL_pns x r ts]
theorem chgL_pns (x r : Str) : ∀ ts : List Tr, Tr.pns (chgL x r ts) = Tr.pns ts
  | [] => rfl
  | t :: ts => by
    rw [chgL]
    split
    · show (chgT x r t).pn :: Tr.pns ts = t.pn :: Tr.pns ts
      rw [chg_pn x r t]
    · show t.pn :: Tr.pns (chgL x r ts) = t.pn :: Tr.pns ts
      rw [chgL_pns x r ts]
end
mutual
theorem chg_names (x r : Str) : ∀ t : Tr, (chgT x r t).names = t.names
  | .w _ _ _ _ _ _ _ _ => rfl
  | .s n _ _ _ _ _ ts => by
    rw [chgT]
    split
    · rfl
    · show n :: Tr.namesL (chgL x r ts) = n :: Tr.namesL ts
      rw [chgL_names x r ts]
theorem chgL_names (x r : Str) : ∀ ts : List Tr, Tr.namesL (chgL x r ts) = Tr.namesL ts
  | [] => rfl
  | t :: ts => by
    rw [chgL]
    split
    · show (chgT x r t).names ++ Tr.namesL ts = t.names ++ Tr.namesL ts
      rw [chg_names x r t]
    · show t.names ++ Tr.namesL (chgL x r ts) = t.names ++ Tr.namesL ts
      rw [chgL_names x r ts]
end
theorem chgL_len (x r : Str) : ∀ ts : List Tr, (chgL x r ts).length = ts.length
  | [] => rfl
  | t :: ts => by
    rw [chgL]
    split
    · rfl
    · rw [List.length_cons, List.length_cons, chgL_len x r ts]
mutual
theorem chg_ok {x r : Str} (hr : r ∈ restartsS) : ∀ t : Tr, t.ok → (chgT x r t).ok
  | .w _ _ _ _ _ _ _ _, ok => by
    obtain ⟨o1, o2, o3⟩ := ok
    rw [chgT]; exact ⟨o1, hr, o3⟩
  | .s n _ _ _ _ _ ts, ok => by
    obtain ⟨o1, o2, o3, o4, o5, o6, o7, o8⟩ := ok
    rw [chgT]
    split
    · exact ⟨o1, hr, o3, o4, o5, o6, o7, o8⟩
    · exact ⟨o1, o2, o3, o4, o5, o6, by rw [chgL_len]; exact o7, chgL_ok hr ts o8⟩
theorem chgL_ok {x r : Str} (hr : r ∈ restartsS) : ∀ ts : List Tr, Tr.oks ts → Tr.oks (chgL x r ts)
  | [], ok => ok
  | t :: ts, ok => by
    rw [chgL]
    split
    · exact ⟨chg_ok hr t ok.1, ok.2⟩
    · exact ⟨ok.1, chgL_ok hr ts ok.2⟩
end
theorem pns_set : ∀ {ts : List Tr} {i : Nat} {t u : Tr}, ts[i]? = some t → u.pn = t.pn → Tr.pns (ts.set i u) = Tr.pns ts
  | [], i, t, u, e, _ => by simp at e
  | v :: vs, 0, t, u, e, h => by
    simp at e; subst e
    show u.pn :: Tr.pns vs = v.pn :: Tr.pns vs
    rw [h]
  | v :: vs, i + 1, t, u, e, h => by
    show v.pn :: Tr.pns (vs.set i u) = v.pn :: Tr.pns vs
    rw [pns_set (ts := vs) (i := i) (by simpa using e) h]
theorem oks_set : ∀ {ts : List Tr} {i : Nat} {u : Tr}, Tr.oks ts → u.ok → Tr.oks (ts.set i u)
  | [], i, u, h, _ => h
  | v :: vs, 0, u, h, g => ⟨g, h.2⟩
  | v :: vs, i + 1, u, h, g => ⟨h.1, oks_set h.2 g⟩
theorem ptrs_set {K : PySem.W.Frag} {H : Hp} : ∀ {xs : List V} {ts : List Tr} {i : Nat} {y : V} {u : Tr}, PTrs K H xs ts → PTr K H y u → PTrs K H (xs.set i y) (ts.set i u)
  | _, _, i, _, _, .nil, _ => .nil
  | _, _, 0, _, _, .cons h t, g => .cons g t
  | _, _, i + 1, _, _, .cons h t, g => .cons h (ptrs_set t g)
section
variable {P : Program} {w : World} {K : PySem.W.Frag} {mg : Str → Option Value} {base : Heap}
abbrev s_changed_below : Stmt := (top 71)
def N_changed_below : List Str := ["plan", "place", "settings", "children", "turn"]
theorem sc_changed_below : FnScope N_changed_below ["plan", "place", "settings"] (defScope s_changed_below) := ⟨rfl, rfl, rfl, by decide +kernel, rfl, by decide +kernel, by decide +kernel⟩
abbrev oneS (r : Str) : List (Key × V) := [(Sum.inr "restart", .str r)]
def spCb (K : PySem.W.Frag) (n : Nat) : Sp := fun vs H Q _ => ∃ v t da r x, vs = [v, .str x, .ref da] ∧ PTr K H v t ∧ t.ok ∧ t.pn.size ≤ 200 ∧ t.pn.lv ≤ n ∧ n ≤ 7 ∧ t.names.length ≤ 200 ∧ x ∈ t.names ∧ x.length ≤ 20 ∧ H da = some (.dK (oneS r)) ∧ r ∈ restartsS ∧ ∀ u H', Same H H' → PTr K H' u (chgT x r t) → Q u H'
theorem ok_changed_below (F : Has K mg "_changed_below" s_changed_below) (T : Txt K mg) (L : Pl K) (F_with_settings : FnQ P w K mg base (L2.CX P w) 28 "_with_settings" ["plan", "settings"] (spWs K)) (F_turn_to : FnQ P w K mg base CX0 11 "_turn_to" ["children", "place"] (spTurn K)) (F_with_children : FnQ P w K mg base (L2.CX P w) 28 "with_children" ["plan", "children"] (spWc K)) :
    ∀ n, FnQ P w K mg base (L2.CX P w) (n + 29) "_changed_below" ["plan", "place", "settings"] (spCb K n) := by
  intro n
  induction n with
  | zero =>
    refine F.q sc_changed_below (fun _ _ _ _ _ _ us hl => match us, hl with | [_, _, _], _ => rfl) (fun vs H Q E h => by obtain ⟨_, _, _, _, _, rfl, _⟩ := h; rfl) (fun cdv A outer s H vs Q E hr h => ?_)
    obtain ⟨v, t, _, _, _, _, _, _, _, lv, _⟩ := h
    have := t.pn.lv_pos
    omega
  | succ n F_changed_below =>
    refine F.q sc_changed_below (fun _ _ _ _ _ _ us hl => match us, hl with | [_, _, _], _ => rfl) (fun vs H Q E h => by obtain ⟨_, _, _, _, _, rfl, _⟩ := h; rfl) (fun cdv A outer s H vs Q E hr h => ?_)
    obtain ⟨v, t, da, r, x, rfl, hv, ok, sz, lv, n7, nl, mx, lx, ed, hr1, k⟩ := h
    refine ⟨_, (pss_cons (ps_if (pt_cmpR op_eq (pe_fld (pv 0) rfl) (pv 1) (by first | exact nomark _ | rfl))
  (pss_one (ps_ret (pe_f F_with_settings (hr.mono (by omega)) (passes_call (E := E) (takes_of rfl rfl rfl rfl) (fun _ _ _ _ h => h)) (pa_cons (pv 0) (pa_cons (pv 2) pa_nil)) (hj := Nat.le_refl _))))
  pss_nil)
  (pss_cons (ps_set (i := 3) sc_changed_below.nd rfl (by first | exact .inl rfl | exact .inr rfl) (pe_callTy call_list_of (by rfl) (T.fr "list" (by simp [frees])) PyProof.Rows.boot_list (pa_cons (pe_fld (pv 0) rfl) pa_nil)))
  (pss_cons (ps_set (i := 4) sc_changed_below.nd rfl (by first | exact .inl rfl | exact .inr rfl) (pe_f F_turn_to (hr.mono (show 11 ≤ n + 29 by omega)) pass0 (pa_cons (pv 3) (pa_cons (pv 1) pa_nil)) (hj := Nat.le_refl _)))
  (pss_cons (ps_asg (pe_f F_changed_below hr (passes_call (E := E) (takes_of rfl rfl rfl rfl) (fun _ _ _ _ h => h)) (pa_cons (pe_ix ix_list (pv 3) (pv 4) (fun _ _ => rfl)) (pa_cons (pv 1) (pa_cons (pv 2) pa_nil))) (hj := Nat.le_refl _)) (pg_sub (pv 3) (pv 4) set_list))
  (pss_cons (ps_ret (pe_f F_with_children (hr.mono (by omega)) (passes_call (E := E) (takes_of rfl rfl rfl rfl) (fun _ _ _ _ h => h)) (pa_cons (pv 0) (pa_cons (pv 3) pa_nil)) (hj := Nat.le_refl _)))
  pss_nil))))), ?_⟩
    obtain ⟨a, C, dx, fs, rfl, ha, hc, hl⟩ := hv.nm
    refine ⟨_, rfl, a, C, dx, fs, _, rfl, ha, ?_, ?_, hl, _, rfl, ?_⟩
    · rcases hc with rfl | rfl
      · exact L.cw
      · exact L.cs
    · rcases hc with rfl | rfl
      · exact L.nw _ (by simp)
      · exact L.ns _ (by simp)
    refine ⟨rfl, _, rfl, ?_⟩
    by_cases c : t.name = x
    · have et : chgT x r t = setR r t := by
        cases t with
        | w => rfl
        | s m _ _ _ _ _ _ =>
          have c' : m = x := c
          rw [chgT, if_pos c']; rfl
      exact if_yes (by rw [c]; exact decide_eq_true rfl) ⟨_, rfl, _, rfl, _, t, da, r, rfl, hv, ok, sz, by omega, ed, hr1, fun u H' s p => k u H' s (by rw [et]; exact p)⟩
    · refine if_no (decide_eq_false fun z => c (by injection z)) ?_
      cases hv with
      | w h hd so =>
        exfalso
        rcases List.mem_cons.mp mx with q | q
        · exact c q.symm
        · cases q
      | @s _ dx' cp nm r0 st mo sp dl xs ts h hq hp =>
        have c' : ¬ nm = x := c
        have mt : x ∈ Tr.namesL ts := by
          rcases List.mem_cons.mp mx with q | q
          · exact absurd q.symm c'
          · exact q
        obtain ⟨tc, etc, mtc⟩ := turn_at mt
        have ltn := turn_lt mt
        have lxs := hp.len
        have e2 : chgT x r (Tr.s nm r0 st mo sp dl ts) = .s nm r0 st mo sp dl (ts.set (turnOf x ts) (chgT x r tc)) := by
          rw [chgT, if_neg c', chgL_at mt etc]
        have zt : (Tr.s nm r0 st mo sp dl ts).names.length = (Tr.namesL ts).length + 1 := rfl
        have zs1 : 1 + Pn.sizes (Tr.pns ts) ≤ 200 := sz
        have zl1 : 1 + Pn.lvs (Tr.pns ts) ≤ n + 1 := lv
        refine ⟨_, rfl, a, suA K, dx', _, .ref cp, rfl, h, L.cs, L.ns _ (by simp), by kernel_rfl, cp, xs, rfl, .inr hq, fun l nlz => ?_⟩
        have s1 : Same H (upd H l (.lst xs)) := Same.new nlz
        have el : (upd H l (.lst xs)) l = some (.lst xs) := upd_same
        refine ⟨_, rfl, _, rfl, l, xs, ts, x, rfl, .inl (SqL.of el), hp.same s1, mt, lx, by omega, by omega, fun H2 s2 => ?_⟩
        have el2 := s2 _ _ el
        have s12 := s1.trans s2
        have ix : xs[turnOf x ts]? = some (xs[turnOf x ts]'(by omega)) := List.getElem?_eq_getElem (by omega)
        obtain ⟨tc', etc', htc⟩ := hp.get ix
        rw [etc] at etc'
        cases etc'
        have okc : tc.ok := oks_get ok.2.2.2.2.2.2.2 etc
        have szc := sizes_get etc
        have lvc := lvs_get etc
        have nlc := names_kid etc
        refine ⟨_, rfl, _, rfl, l, xs, _, _, rfl, rfl, SqL.of el2, atI_nat ix, _, rfl, _, rfl, ?_⟩
        refine ⟨_, tc, da, r, x, rfl, htc.same s12, okc, by omega, by omega, by omega, by omega, mtc, lx, s12 _ _ ed, hr1, fun y H3 s3 p => ?_⟩
        have el3 := s3 _ _ el2
        have ixn : ixN xs.length ((turnOf x ts : Nat) : Int) = some (turnOf x ts) := by
          unfold ixN
          have h1 : (0 : Int) ≤ ((turnOf x ts : Nat) : Int) := by omega
          have h2 : turnOf x ts < xs.length := by omega
          simp [h2]
        refine ⟨_, rfl, _, rfl, l, xs, _, turnOf x ts, rfl, rfl, el3, ixn, _, rfl, _, rfl, ?_⟩
        have so : Solid H3 (upd H3 l (.lst (xs.set (turnOf x ts) y))) := Solid.upd (.inl ⟨_, el3⟩)
        have s13 := s12.trans s3
        have S : Same H (upd H3 l (.lst (xs.set (turnOf x ts) y))) := same_putN s13 nlz
        have pe : Tr.pns (ts.set (turnOf x ts) (chgT x r tc)) = Tr.pns ts := pns_set etc (chg_pn x r tc)
        have okn : (Tr.s nm r0 st mo sp dl (ts.set (turnOf x ts) (chgT x r tc))).ok := by
          obtain ⟨o1, o2, o3, o4, o5, o6, o7, o8⟩ := ok
          exact ⟨o1, o2, o3, o4, o5, o6, by rw [List.length_set]; exact o7, oks_set o8 (chg_ok hr1 tc okc)⟩
        refine ⟨.ref a, l, nm, r0, st, mo, sp, dl, ts, xs.set (turnOf x ts) y, ts.set (turnOf x ts) (chgT x r tc), rfl, .s (S _ _ h) (S.sqT hq) (hp.same S), upd_same, ptrs_set (PTrs.solid so (hp.same s13)) (PTr.solid so p), okn, by rw [pe]; exact zs1, by rw [pe]; omega, fun v H4 s4 pv => ?_⟩
        exact k v H4 (S.trans s4) (by rw [e2]; exact pv)
end
end K08
/-! changed -/
namespace K08
open PySem PySem.Spec PyProof.Rows L2
def leB : List Value := [.type "LookupError", .type "Exception", .type "BaseException", .type "object"]
/-- an own class below LookupError with one field -/
structure ErrL (K : PySem.W.Frag) (mg : Str → Option Value) (x f : Str) : Prop where
  gl : mg x = some (.ref (He.ga K x))
  cl : XCl K (He.ga K x) "LookupError.__new__" leB
  xi : XIn K (He.ga K x) (He.ma K (He.ga K x) "__init__") f
  ty : PySem.W.typeIn K (.ref (He.ga K x)) = some (.type "type")
theorem fn_place : FName "place" := ⟨fun _ _ _ _ _ _ _ _ _ _ _ _ => rfl, fun _ _ _ _ _ _ _ _ _ _ _ _ => rfl, rfl, rfl, rfl, by decide, by decide +kernel⟩
section
variable {P : Program} {w : World} {K : PySem.W.Frag} {mg : Str → Option Value} {base : Heap}
abbrev s_changed : Stmt := (top 70)
def N_changed : List Str := ["plan", "place", "settings"]
theorem sc_changed : FnScope N_changed ["plan", "place", "settings"] (defScope s_changed) := ⟨rfl, rfl, rfl, by decide +kernel, rfl, by decide +kernel, by decide +kernel⟩
/-- of the body, the settings being in a dict -/
def spCh3 (K : PySem.W.Frag) : Sp := fun vs H Q E => ∃ v t da r x, vs = [v, .str x, .ref da] ∧ PTr K H v t ∧ t.ok ∧ t.pn.size ≤ 200 ∧ t.pn.lv ≤ 7 ∧ t.names.length ≤ 200 ∧ x ∈ t.names ∧ x.length ≤ 20 ∧ H da = some (.dK (oneS r)) ∧ r ∈ restartsS ∧ ∀ u H', Same H H' → PTr K H' u (chgT x r t) → Q u H'
theorem ch_body {A : Around} {outer : List Env} {s : Shared} {H : Hp} {vs : List V} {Q : VK} {E : XK} {f : Addr} {cdv : Value} (T : Txt K mg) (L : InF P w K mg base) (TN : ErrL K mg "NoPlace" "place") (F_changed_below : FnQ P w K mg base (L2.CX P w) 36 "_changed_below" ["plan", "place", "settings"] (spCb K 7))
    (hr : Room 36 (A.deeper (envOfC "changed" (defScope s_changed) s.heap.objs.size f cdv))) (h : spCh3 K vs H Q E) :
    ∃ t, PSs (cxOf (L2.CX P w) P w K mg base N_changed "changed" (defScope s_changed) f cdv A outer s H E) (defBody s_changed) t ∧ t { nx := fun _ H' => Q .non H', rt := Q } (start N_changed vs) H := by
  obtain ⟨v, t, da, r, x, rfl, hv, ok, sz, lv, nl, mx, lx, ed, hr1, k⟩ := h
  refine ⟨_, (pss_cons (ps_if (pt_cmpR (op_notInOwn (CX := CX0) (n := 10) (E := fun _ _ _ => False) (hr.mono (by decide)) pass0) (pv 1) (pv 0) (by first | exact nomark _ | rfl))
  (pss_one (ps_raise rfl (takes_of rfl rfl rfl rfl) (pmk_xc PySem.F.excBase_LookupError PySem.F.store_LookupError TN.cl TN.xi fn_place TN.ty hr (by decide) TN.gl (pv 1))))
  pss_nil)
  (pss_cons (ps_ret (pe_f F_changed_below hr (passes_call (E := E) (takes_of rfl rfl rfl rfl) (fun _ _ _ _ h => h)) (pa_cons (pv 0) (pa_cons (pv 1) (pa_cons (pv 2) pa_nil)))))
  pss_nil)), ?_⟩
  refine ⟨_, rfl, _, rfl, in_at L hv lv (by omega) (.str x (by omega)) fun G s1 => ?_⟩
  have c : isOne t.names (.str x) = true := by
    show t.names.contains x = true
    exact List.contains_iff_mem.mpr mx
  refine ⟨false, by rw [c]; rfl, if_no rfl ⟨_, rfl, _, rfl, _, rfl, v, t, da, r, x, rfl, hv.same s1, ok, sz, lv, Nat.le_refl 7, nl, mx, lx, s1 _ _ ed, hr1, fun u H' s2 p => k u H' (s1.trans s2) p⟩⟩
/-- changed, called with two values and with another restart -/
def spChg (K : PySem.W.Frag) : SpK := fun vs zs H Q E => ∃ v t r x, vs = [v, .str x] ∧ zs = [.str r] ∧ PTr K H v t ∧ t.ok ∧ t.pn.size ≤ 200 ∧ t.pn.lv ≤ 7 ∧ t.names.length ≤ 200 ∧ x ∈ t.names ∧ x.length ≤ 20 ∧ r ∈ restartsS ∧ ∀ u H', Same H H' → PTr K H' u (chgT x r t) → Q u H'
/-- how two values and these names bind -/
def BindK (ks : List Str) : Prop := ∀ (kV doc pm : Value) (an : Option Addr) (cdv ct : Value) (us ws : List Value), us.length = 2 → ws.length = ks.length → bindArgs (PySem.W.fnOf "changed" "changed" (defArgs s_changed) (defBody s_changed) (defScope s_changed) .none kV doc pm an cdv ct) ⟨us, ks.zip ws⟩ =
  ((alloc ({ cls := .type "dict", data := .dict #[] } : Obj) : Sem Addr) >>= fun d => StD.putAll d (ks.zip ws) >>= fun _ => pure ((["plan", "place"] : List Str).zip us ++ [(("settings" : Str), Value.ref d)]))
theorem ok_changed (F : Has K mg "changed" s_changed) (T : Txt K mg) (L : InF P w K mg base) (TN : ErrL K mg "NoPlace" "place") (F_changed_below : FnQ P w K mg base (L2.CX P w) 36 "_changed_below" ["plan", "place", "settings"] (spCb K 7)) (hb : BindK ["restart"]) :
    FnRK P w K mg base (L2.CX P w) 37 (He.ga K "changed") ["restart"] (spChg K) := by
  obtain ⟨fd, D⟩ := F.df
  obtain ⟨oc, od, dV, kV, doc, pm, an, cdv, ct, osl, rfl, lk, hcd, hD, hK⟩ := D.ex
  rcases hD with ⟨_, rfl⟩ | ⟨e, _⟩
  rotate_left
  · exact absurd rfl e
  have z := StD.fn_kwD (N := N_changed) (ps := ["plan", "place"]) (ks := ["restart"]) (pd := "settings") (sp := spCh3 K) (P := P) (w := w) (mg := mg) (base := base) (k := 36) lk hcd sc_changed StX.cxUp (by decide +kernel) (by decide) (fun us ws l1 l2 => hb _ _ _ _ _ _ us ws l1 l2) fun A outer s H vs Q E hr h => ch_body T L TN F_changed_below hr h
  intro A outer s H us ws vs zs Q E hr e0 r rz lz h
  refine z A outer s H us ws vs zs Q E hr e0 r rz lz ?_
  obtain ⟨v, t, rs, x, rfl, rfl, hv, ok, sz, lv, nl, mx, lx, hr1, k⟩ := h
  refine ⟨rfl, fun da nda => ?_⟩
  have s1 : Same H (upd H da (.dK (tab ["restart"] [.str rs]))) := Same.new nda
  exact ⟨v, t, da, rs, x, rfl, hv.same s1, ok, sz, lv, nl, mx, lx, upd_same, hr1, fun u H' s2 p => k u H' (s1.trans s2) p⟩
theorem bind1 {k : Str} (h : ∀ (kV doc pm : Value) (an : Option Addr) (cdv ct a b x : Value), bindArgs (PySem.W.fnOf "changed" "changed" (defArgs s_changed) (defBody s_changed) (defScope s_changed) .none kV doc pm an cdv ct) ⟨[a, b], [(k, x)]⟩ =
  ((alloc ({ cls := .type "dict", data := .dict #[] } : Obj) : Sem Addr) >>= fun d => StD.putAll d [(k, x)] >>= fun _ => pure ([(("plan" : Str), a), (("place" : Str), b), (("settings" : Str), Value.ref d)]))) : BindK [k] := by
  intro kV doc pm an cdv ct us ws l1 l2
  match us, ws, l1, l2 with
  | [a, b], [x], _, _ => exact h kV doc pm an cdv ct a b x
theorem bind_restart : BindK ["restart"] := bind1 fun _ _ _ _ _ _ _ _ _ => rfl
end
end K08
/-! the way to a name: _way_to, plan_at, path_to -/
namespace K08
open PySem PySem.Spec PyProof.Rows L2
mutual
/-- the trees from the tree itself to the first with the name -/
def wayT (x : Str) : Tr → List Tr
  | .w n r o c dl rf sc sd => [.w n r o c dl rf sc sd]
  | .s n r st mo sp dl ts => if n = x then [.s n r st mo sp dl ts] else .s n r st mo sp dl ts :: wayL x ts
def wayL (x : Str) : List Tr → List Tr
  | [] => []
  | t :: ts => if x ∈ t.names then wayT x t else wayL x ts
end
theorem wayL_at : ∀ {x : Str} {ts : List Tr} {t : Tr}, x ∈ Tr.namesL ts → ts[turnOf x ts]? = some t → wayL x ts = wayT x t
  | x, [], t, h, _ => by cases h
  | x, u :: us, t, h, e => by
    unfold wayL
    unfold turnOf at e
    by_cases c : x ∈ u.names
    · rw [if_pos c] at e ⊢
      simp at e; rw [e]
    · rw [if_neg c] at e ⊢
      have h2 : x ∈ u.names ++ Tr.namesL us := h
      exact wayL_at ((List.mem_append.mp h2).resolve_left c) (by simpa using e)
theorem way_hit {x : Str} {t : Tr} (h : t.name = x) : wayT x t = [t] := by
  cases t with
  | w => rfl
  | s n _ _ _ _ _ _ =>
    have h' : n = x := h
    rw [wayT, if_pos h']
theorem PTrs.snoc {K : PySem.W.Frag} {H : Hp} {xs : List V} {ts : List Tr} {v : V} {t : Tr} (h : PTrs K H xs ts) (g : PTr K H v t) : PTrs K H (xs ++ [v]) (ts ++ [t]) := h.app (.cons g .nil)
section
variable {P : Program} {w : World} {K : PySem.W.Frag} {mg : Str → Option Value} {base : Heap}
abbrev s_way_to : Stmt := (top 63)
def N_way_to : List Str := ["plan", "place", "way", "children"]
theorem sc_way_to : FnScope N_way_to ["plan", "place"] (defScope s_way_to) := ⟨rfl, rfl, rfl, by decide +kernel, rfl, by decide +kernel, by decide +kernel⟩
abbrev s_plan_at : Stmt := (top 61)
def N_plan_at : List Str := ["plan", "place"]
theorem sc_plan_at : FnScope N_plan_at ["plan", "place"] (defScope s_plan_at) := ⟨rfl, rfl, rfl, by decide +kernel, rfl, by decide +kernel, by decide +kernel⟩
abbrev s_path_to : Stmt := (top 62)
def N_path_to : List Str := ["plan", "place", "one"]
theorem sc_path_to : FnScope N_path_to ["plan", "place"] (defScope s_path_to) := ⟨rfl, rfl, rfl, by decide +kernel, rfl, by decide +kernel, by decide +kernel⟩
def spWay (K : PySem.W.Frag) : Sp := fun vs H Q E => ∃ v t x, vs = [v, .str x] ∧ PTr K H v t ∧ t.pn.lv ≤ 7 ∧ t.names.length ≤ 1000 ∧ x.length ≤ 20 ∧
  (x ∉ t.names → ∀ e H', Same H H' → H e = none → H' e = some (.xd [("place", .str x)]) → E (.ref (He.ga K "NoPlace")) (some e) H') ∧
  (x ∈ t.names → ∀ l ys H', Same H H' → H' l = some (.lst ys) → PTrs K H' ys (wayT x t) → Q (.ref l) H')
theorem ok_way_to (F : Has K mg "_way_to" s_way_to) (T : Txt K mg) (PL : Pl K) (L : InF P w K mg base) (TN : ErrL K mg "NoPlace" "place") (F_turn_to : FnQ P w K mg base CX0 11 "_turn_to" ["children", "place"] (spTurn K)) : FnQ P w K mg base (L2.CX P w) 12 "_way_to" ["plan", "place"] (spWay K) := by
  refine F.q sc_way_to (fun _ _ _ _ _ _ us hl => match us, hl with | [_, _], _ => rfl) (fun vs H Q E h => by obtain ⟨_, _, _, rfl, _⟩ := h; rfl) (fun cdv A outer s H vs Q E hr h => ?_)
  obtain ⟨v, t, x, rfl, hv, lv, nl, lx, kx, k⟩ := h
  refine ⟨_, (pss_cons (ps_if (pt_cmpR (op_notInOwn (CX := CX0) (n := 10) (E := fun _ _ _ => False) (hr.mono (by decide)) pass0) (pv 1) (pv 0) (by first | exact nomark _ | rfl))
  (pss_one (ps_raise rfl (takes_of rfl rfl rfl rfl) (pmk_xc PySem.F.excBase_LookupError PySem.F.store_LookupError TN.cl TN.xi fn_place TN.ty hr (by decide) TN.gl (pv 1))))
  pss_nil)
  (PSs.nox (pss_cons (ps_set (i := 2) sc_way_to.nd rfl (by first | exact .inl rfl | exact .inr rfl) (pe_lstM (pa_cons (pv 0) pa_nil)))
  (pss_cons (ps_while PassesOwn.never (pt_cmpR op_ne (pe_fld (pe_ix ix_list (pv 2) (pe_un un_neg pe_int) (fun _ _ => rfl)) rfl) (pv 1) (by first | exact nomark _ | rfl))
  (pss_cons (ps_set (i := 3) sc_way_to.nd rfl (by first | exact .inl rfl | exact .inr rfl) (pe_fld (pe_ix ix_list (pv 2) (pe_un un_neg pe_int) (fun _ _ => rfl)) rfl))
  (pss_one (ps_expr (pe_bm PySem.F.plainAttrs_list PySem.F.slot_list_append PySem.F.type_list_append mt_append (pv 2) (pa_cons (pe_ix ix_either (pv 3) (pe_f F_turn_to hr pass0 (pa_cons (pv 3) (pa_cons (pv 1) pa_nil))) (fun _ _ => rfl)) pa_nil))))))
  (pss_one (ps_ret (pv 2))))))), ?_⟩
  refine ⟨_, rfl, _, rfl, in_at L hv lv (by omega) (.str x (by omega)) fun G s1 => ?_⟩
  have e0 : isOne t.names (.str x) = true ↔ x ∈ t.names := by
    show t.names.contains x = true ↔ _
    exact List.contains_iff_mem
  by_cases mx : x ∈ t.names
  · refine ⟨false, by rw [e0.mpr mx]; rfl, if_no rfl ?_⟩
    refine ⟨_, rfl, (by show 1 ≤ sizeLine; decide), fun l G2 s2 n2 e2 => ?_⟩
    have s12 := s1.trans s2
    refine ⟨fun m σ G => ∃ (c : Option V) (ys : List V) (us : List Tr) (y : V) (u : Tr), σ = [some v, some (.str x), some (.ref l), c] ∧ G l = some (.lst (ys ++ [y])) ∧ PTrs K G ys us ∧ PTr K G y u ∧ x ∈ u.names ∧ wayT x t = us ++ wayT x u ∧ u.pn.lv + ys.length ≤ 7 ∧ u.names.length ≤ 1000 ∧ m = u.pn.lv ∧ Same H G, ⟨_, none, [], [], v, t, rfl, e2, .nil, hv.same s12, mx, rfl, by show _ + 0 ≤ 7; omega, nl, rfl, s12⟩, ?_⟩
    rintro m σ G ⟨c, ys, us, y, u, rfl, el, hys, hy, mu, ew, lu, nu, rfl, s3⟩
    obtain ⟨a, C, dx, fs, rfl, ha, hc, hl⟩ := hy.nm
    refine ⟨_, rfl, _, rfl, l, _, _, _, rfl, rfl, SqL.of el, atI_last ys _, a, C, dx, fs, _, rfl, ha, ?_, ?_, hl, _, rfl, rfl, _, rfl, ?_⟩
    · rcases hc with rfl | rfl
      · exact PL.cw
      · exact PL.cs
    · rcases hc with rfl | rfl
      · exact PL.nw _ (by simp)
      · exact PL.ns _ (by simp)
    by_cases c0 : u.name = x
    · refine if_no (by rw [c0]; simp) ⟨_, rfl, k mx l _ G s3 el ?_⟩
      rw [ew, way_hit c0]
      exact hys.snoc hy
    · refine if_yes (by simp; exact c0) ?_
      cases hy with
      | w h hd so =>
        exfalso
        rcases List.mem_cons.mp mu with q | q
        · exact c0 q.symm
        · cases q
      | @s _ dx' cp nm r0 st mo sp dl xs ts h hq hp =>
        have c' : ¬ nm = x := c0
        have mt : x ∈ Tr.namesL ts := by
          rcases List.mem_cons.mp mu with q | q
          · exact absurd q.symm c'
          · exact q
        obtain ⟨tc, etc, mtc⟩ := turn_at mt
        have ltn := turn_lt mt
        have lxs := hp.len
        have zt : (Tr.s nm r0 st mo sp dl ts).names.length = (Tr.namesL ts).length + 1 := rfl
        have zl1 : (Tr.s nm r0 st mo sp dl ts).pn.lv = 1 + Pn.lvs (Tr.pns ts) := rfl
        have nlc := names_kid etc
        have lvc := lvs_get etc
        refine ⟨fun σ G' => ∃ (c : Option V) (y' : V), σ = [some v, some (.str x), some (.ref l), c] ∧ G' l = some (.lst ((ys ++ [.ref a]) ++ [y'])) ∧ PTrs K G' (ys ++ [.ref a]) (us ++ [.s nm r0 st mo sp dl ts]) ∧ PTr K G' y' tc ∧ Same H G', ?_, ?_⟩
        · rintro σ' G' ⟨c, y', rfl, e', h1, h2, s'⟩
          refine ⟨tc.pn.lv, by omega, c, _, _, y', tc, rfl, e', h1, h2, mtc, ?_, ?_, by omega, rfl, s'⟩
          · rw [ew, wayT, if_neg c', wayL_at mt etc, List.append_assoc]; rfl
          · rw [List.length_append]; show _ + (ys.length + 1) ≤ 7; omega
        · refine ⟨_, rfl, _, rfl, l, _, _, _, rfl, rfl, SqL.of el, atI_last ys _, a, suA K, dx', _, .ref cp, rfl, h, PL.cs, PL.ns _ (by simp), by kernel_rfl, ?_⟩
          have ix : xs[turnOf x ts]? = some (xs[turnOf x ts]'(by omega)) := List.getElem?_eq_getElem (by omega)
          obtain ⟨tc', etc', htc⟩ := hp.get ix
          rw [etc] at etc'
          cases etc'
          refine ⟨_, rfl, .inl ⟨rfl, _, SqL.of el⟩, _, rfl, _, rfl, _, rfl, cp, xs, ts, x, rfl, .inr hq, hp, mt, lx, by omega, by omega, fun G4 s4 => ixE_at (.inr (s4.sqT hq)) (atI_nat ix) ?_⟩
          have el4 := s4 _ _ el
          have n0 : H l = none := none_back s1 n2
          refine ⟨l, ys ++ [.ref a], _, rfl, rfl, el4, Nat.lt_of_le_of_lt (show _ ≤ 8 by rw [List.length_append]; show ys.length + 1 ≤ 8; omega) (by decide), ?_⟩
          have so : Solid G4 (upd G4 l (.lst ((ys ++ [.ref a]) ++ [xs[turnOf x ts]'(by omega)]))) := Solid.upd (.inl ⟨_, el4⟩)
          exact ⟨_, _, rfl, upd_same, PTrs.solid so ((hys.same s4).snoc ((PTr.s h hq hp).same s4)), PTr.solid so (htc.same s4), same_putN (s3.trans s4) n0⟩
  · have c : isOne t.names (.str x) = false := by
      cases q : isOne t.names (.str x) with
      | false => rfl
      | true => exact absurd (e0.mp q) mx
    exact ⟨true, by rw [c]; rfl, if_yes rfl ⟨_, rfl, fun e H' s n x2 => kx mx e H' (s1.trans s) (none_back s1 n) x2⟩⟩
/-- the first tree with the name -/
def atT (x : Str) (t : Tr) : Tr := ((wayT x t).getLast?).getD t
mutual
theorem way_ne (x : Str) : ∀ t : Tr, wayT x t ≠ []
  | .w _ _ _ _ _ _ _ _ => by rw [wayT]; simp
  | .s n _ _ _ _ _ ts => by
    rw [wayT]
    split <;> simp
end
theorem way_last (x : Str) (t : Tr) : ∃ us, wayT x t = us ++ [atT x t] := by
  have n := way_ne x t
  refine ⟨(wayT x t).dropLast, ?_⟩
  unfold atT
  rw [List.getLast?_eq_some_getLast n]
  exact (List.dropLast_concat_getLast n).symm
theorem PTrs.split {H : Hp} : ∀ {us : List Tr} {u : Tr} {ys : List V}, PTrs K H ys (us ++ [u]) → ∃ xs y, ys = xs ++ [y] ∧ PTr K H y u
  | [], u, ys, h => by
    cases h with
    | cons h t => cases t; exact ⟨[], _, rfl, h⟩
  | v :: us, u, ys, h => by
    cases h with
    | cons h t =>
      obtain ⟨xs, y, rfl, g⟩ := PTrs.split t
      exact ⟨_ :: xs, y, rfl, g⟩
def spAt (K : PySem.W.Frag) : Sp := fun vs H Q E => ∃ v t x, vs = [v, .str x] ∧ PTr K H v t ∧ t.pn.lv ≤ 7 ∧ t.names.length ≤ 1000 ∧ x.length ≤ 20 ∧
  (x ∉ t.names → ∀ e H', Same H H' → H e = none → H' e = some (.xd [("place", .str x)]) → E (.ref (He.ga K "NoPlace")) (some e) H') ∧
  (x ∈ t.names → ∀ y H', Same H H' → PTr K H' y (atT x t) → Q y H')
theorem ok_plan_at (F : Has K mg "plan_at" s_plan_at) (T : Txt K mg) (F_way_to : FnQ P w K mg base (L2.CX P w) 12 "_way_to" ["plan", "place"] (spWay K)) : FnQ P w K mg base (L2.CX P w) 13 "plan_at" ["plan", "place"] (spAt K) := by
  refine F.q sc_plan_at (fun _ _ _ _ _ _ us hl => match us, hl with | [_, _], _ => rfl) (fun vs H Q E h => by obtain ⟨_, _, _, rfl, _⟩ := h; rfl) (fun cdv A outer s H vs Q E hr h => ?_)
  obtain ⟨v, t, x, rfl, hv, lv, nl, lx, kx, k⟩ := h
  refine ⟨_, (pss_cons (ps_ret (pe_ix ix_list (pe_f F_way_to hr (passes_call (E := E) (takes_of rfl rfl rfl rfl) (fun _ _ _ _ h => h)) (pa_cons (pv 0) (pa_cons (pv 1) pa_nil))) (pe_un un_neg pe_int) (fun _ _ => rfl)))
  pss_nil), ?_⟩
  refine ⟨_, rfl, _, rfl, v, t, x, rfl, hv, lv, nl, lx, kx, fun mx l ys G s e hy => ?_⟩
  obtain ⟨us, ew⟩ := way_last x t
  rw [ew] at hy
  obtain ⟨xs, y, rfl, g⟩ := hy.split
  exact ⟨_, rfl, l, _, _, _, rfl, rfl, SqL.of e, atI_last xs y, k mx y G s g⟩
/-- the names on the way -/
def pathT (x : Str) (t : Tr) : List Str := (wayT x t).map Tr.name
def spPath (K : PySem.W.Frag) : Sp := fun vs H Q E => ∃ v t x, vs = [v, .str x] ∧ PTr K H v t ∧ t.pn.lv ≤ 7 ∧ t.names.length ≤ 1000 ∧ x.length ≤ 20 ∧
  (x ∉ t.names → ∀ e H', Same H H' → H e = none → H' e = some (.xd [("place", .str x)]) → E (.ref (He.ga K "NoPlace")) (some e) H') ∧
  (x ∈ t.names → ∀ p H', Same H H' → SqT K H' p ((pathT x t).map V.str) → Q (.ref p) H')
theorem wayT_len (x : Str) : ∀ t : Tr, (wayT x t).length ≤ t.pn.lv := by
  have go : ∀ (n : Nat) (t : Tr), t.pn.lv ≤ n → (wayT x t).length ≤ t.pn.lv := by
    intro n
    induction n with
    | zero => intro t h; have := t.pn.lv_pos; omega
    | succ n ih =>
      intro t h
      cases t with
      | w => rw [wayT]; exact Nat.le_refl _
      | s m r st mo sp dl ts =>
        have z : (Tr.s m r st mo sp dl ts).pn.lv = 1 + Pn.lvs (Tr.pns ts) := rfl
        rw [wayT]
        split
        · show 1 ≤ _; omega
        · rw [List.length_cons]
          by_cases mx : x ∈ Tr.namesL ts
          · obtain ⟨tc, etc, mtc⟩ := turn_at mx
            rw [wayL_at mx etc]
            have lvc := lvs_get etc
            have := ih tc (by omega)
            omega
          · have e : wayL x ts = [] := by
              clear ih h z
              induction ts with
              | nil => rfl
              | cons t ts ih2 =>
                have mx' : ¬ x ∈ t.names ++ Tr.namesL ts := mx
                rw [List.mem_append, not_or] at mx'
                rw [wayL, if_neg mx'.1]
                exact ih2 mx'.2
            rw [e]; show 0 + 1 ≤ _; omega
  exact fun t => go _ t (Nat.le_refl _)
theorem ok_path_to (F : Has K mg "path_to" s_path_to) (T : Txt K mg) (PL : Pl K) (F_way_to : FnQ P w K mg base (L2.CX P w) 12 "_way_to" ["plan", "place"] (spWay K)) : FnQ P w K mg base (L2.CX P w) 13 "path_to" ["plan", "place"] (spPath K) := by
  refine F.q sc_path_to (fun _ _ _ _ _ _ us hl => match us, hl with | [_, _], _ => rfl) (fun vs H Q E h => by obtain ⟨_, _, _, rfl, _⟩ := h; rfl) (fun cdv A outer s H vs Q E hr h => ?_)
  obtain ⟨v, t, x, rfl, hv, lv, nl, lx, kx, k⟩ := h
  refine ⟨_, (pss_cons (ps_ret (pe_callTy call_tuple_of (by rfl) (T.fr "tuple" (by simp [frees])) PyProof.Rows.boot_tuple (pa_cons (pe_lc (own := [("one", 2)]) (tt := tYes) rfl sc_path_to.nd (pi_list (pe_f F_way_to hr (passes_call (E := E) (takes_of rfl rfl rfl rfl) (fun _ _ _ _ h => h)) (pa_cons (pv 0) (pa_cons (pv 1) pa_nil)))) (blkOk_by (N := N_path_to) (sc := defScope s_path_to) (by decide +kernel)) (fun _ _ _ _ _ => (pg_name (i := 2) sc_path_to.nd rfl (by first | exact .inl rfl | exact .inr rfl))) (fun _ _ _ _ _ => pts_nil) (fun _ _ _ _ _ => (pe_fldK K (pv 2) rfl))) pa_nil)))
  pss_nil), ?_⟩
  have wl := wayT_len x t
  refine ⟨_, rfl, _, rfl, v, t, x, rfl, hv, lv, nl, lx, kx, fun mx l ys G s e hy => ⟨l, rfl, ⟨_, SqL.of e⟩, comp_val walk_list (f := fun i => .str (((pathT x t)[i]?).getD "")) ?_ (fun G' g => SqL.of (g _ _ e)) (fun i H x H' y b o e => by rw [y.1]; exact e) ?_ ?_⟩⟩
  · have := hy.len
    exact Nat.lt_of_le_of_lt (show _ ≤ 7 by omega) (by decide)
  · rintro i y G1 G2 R hi g1 ⟨rfl, ex⟩ kk
    obtain ⟨u, eu, hu⟩ := hy.get ex
    obtain ⟨a, C, dx, fs, rfl, ha, hc, hl⟩ := (hu.same g1).nm
    refine ⟨rfl, _, rfl, a, C, dx, fs, _, rfl, ha, ?_, ?_, hl, ?_⟩
    · rcases hc with rfl | rfl
      · exact PL.cw
      · exact PL.cs
    · rcases hc with rfl | rfl
      · exact PL.nw _ (by simp)
      · exact PL.ns _ (by simp)
    · have z := kk _ (Same.refl _)
      have e1 : (pathT x t)[i]? = some u.name := by unfold pathT; rw [List.getElem?_map, eu]; rfl
      rw [e1] at z
      exact z
  · intro q G3 s3 n3 e3
    have em : (List.range ys.length).map (fun i => V.str (((pathT x t)[i]?).getD "")) = (pathT x t).map V.str := by
      have lp : ys.length = (pathT x t).length := by unfold pathT; rw [List.length_map]; exact hy.len
      rw [lp]
      refine List.ext_getElem? fun i => ?_
      by_cases c : i < (pathT x t).length
      · simp [List.getElem?_range c, List.getElem?_eq_getElem c]
      · simp [List.getElem?_eq_none (Nat.le_of_not_lt c), List.getElem?_eq_none (l := List.range (pathT x t).length) (by simpa using Nat.le_of_not_lt c)]
    rw [em] at e3
    refine ⟨q, _, rfl, .inl ⟨SqL.of e3, fun t1 nt1 => ?_⟩⟩
    exact k mx t1 _ ((s.trans s3).trans (Same.new nt1)) (SqT.of upd_same)
end
end K08
/-! whether a plan can be a root: greatest_product, _broken_rule, check_root, is_root -/
namespace K08
open PySem PySem.Spec PyProof.Rows L2
mutual
def prodT : Tr → Int
  | .w _ _ _ _ _ _ _ _ => 1
  | .s _ _ _ mo _ _ ts => (mo + 1) * prodL ts
def prodL : List Tr → Int
  | [] => 1
  | t :: ts => max (prodT t) (prodL ts)
end
mutual
theorem prod_pos : ∀ t : Tr, t.ok → 1 ≤ prodT t
  | .w _ _ _ _ _ _ _ _, _ => by rw [prodT]; exact Int.le_refl 1
  | .s _ _ _ mo _ _ ts, ok => by
    obtain ⟨_, _, _, o4, _, _, _, o8⟩ := ok
    rw [prodT]
    have a : (1 : Int) ≤ mo + 1 := by omega
    have b := prodL_pos ts o8
    have c := Int.mul_le_mul a b (by decide) (by omega)
    omega
theorem prodL_pos : ∀ ts : List Tr, Tr.oks ts → 1 ≤ prodL ts
  | [], _ => by rw [prodL]; exact Int.le_refl 1
  | t :: ts, ok => by
    rw [prodL]
    have := prod_pos t ok.1
    omega
end
theorem prodL_max : ∀ {ts : List Tr} {m : Int}, Tr.oks ts → m ∈ ts.map prodT → (∀ x ∈ ts.map prodT, x ≤ m) → m = prodL ts
  | [], m, _, hm, _ => by cases hm
  | t :: ts, m, ok, hm, gr => by
    rw [prodL]
    have g0 : prodT t ≤ m := gr _ List.mem_cons_self
    have p0 := prod_pos t ok.1
    by_cases e : ts = []
    · subst e
      rw [prodL]
      have : m = prodT t := by simpa using hm
      omega
    · have gs : ∀ x ∈ ts.map prodT, x ≤ m := fun x hx => gr x (List.mem_cons_of_mem _ hx)
      rcases List.mem_cons.mp hm with h | h
      · obtain ⟨u, us, rfl⟩ := List.exists_cons_of_ne_nil e
        have le : ∀ (us : List Tr), Tr.oks us → (∀ x ∈ us.map prodT, x ≤ m) → 1 ≤ m → prodL us ≤ m := by
          intro us
          induction us with
          | nil => intro _ _ h; rw [prodL]; exact h
          | cons v vs ih =>
            intro ok g h
            rw [prodL]
            have a := g (prodT v) List.mem_cons_self
            have b := ih ok.2 (fun x hx => g x (List.mem_cons_of_mem _ hx)) h
            omega
        have := le (u :: us) ok.2 gs (by omega)
        omega
      · have := prodL_max ok.2 h gs
        omega
/-- the first rule by which the tree can't be a root's -/
def ruleT : Tr → Option Str
  | .w _ _ _ _ _ _ _ _ => some "plan"
  | .s n r st mo sp dl ts => if ¬ (Tr.s n r st mo sp dl ts).names.Nodup then some "names" else if 60 < (Tr.s n r st mo sp dl ts).names.length then some "size" else if 6 < (Tr.s n r st mo sp dl ts).pn.lv then some "levels" else if 1000 < prodT (.s n r st mo sp dl ts) then some "product" else none
theorem fn_rule : FName "rule" := ⟨fun _ _ _ _ _ _ _ _ _ _ _ _ => rfl, fun _ _ _ _ _ _ _ _ _ _ _ _ => rfl, rfl, rfl, rfl, by decide, by decide +kernel⟩
section
variable {P : Program} {w : World} {K : PySem.W.Frag} {mg : Str → Option Value} {base : Heap}
abbrev s_greatest_product : Stmt := (top 66)
def N_greatest_product : List Str := ["plan", "child"]
theorem sc_greatest_product : FnScope N_greatest_product ["plan"] (defScope s_greatest_product) := ⟨rfl, rfl, rfl, by decide +kernel, rfl, by decide +kernel, by decide +kernel⟩
abbrev s_broken_rule : Stmt := (top 67)
def N_broken_rule : List Str := ["value", "told"]
theorem sc_broken_rule : FnScope N_broken_rule ["value"] (defScope s_broken_rule) := ⟨rfl, rfl, rfl, by decide +kernel, rfl, by decide +kernel, by decide +kernel⟩
abbrev s_check_root : Stmt := (top 68)
def N_check_root : List Str := ["plan", "rule"]
theorem sc_check_root : FnScope N_check_root ["plan"] (defScope s_check_root) := ⟨rfl, rfl, rfl, by decide +kernel, rfl, by decide +kernel, by decide +kernel⟩
abbrev s_is_root : Stmt := (top 69)
def N_is_root : List Str := ["value"]
theorem sc_is_root : FnScope N_is_root ["value"] (defScope s_is_root) := ⟨rfl, rfl, rfl, by decide +kernel, rfl, by decide +kernel, by decide +kernel⟩
def spProd (K : PySem.W.Frag) (n : Nat) : Sp := fun vs H Q _ => ∃ v t, vs = [v] ∧ PTr K H v t ∧ t.ok ∧ t.pn.lv ≤ n ∧ ∀ H', Same H H' → Q (.int (prodT t)) H'
theorem range_prod (ts : List Tr) : (List.range ts.length).map (fun i => V.int ((ts[i]?.map prodT).getD 0)) = (ts.map prodT).map V.int := by
  refine List.ext_getElem? fun i => ?_
  by_cases c : i < ts.length
  · simp [List.getElem?_range c, List.getElem?_eq_getElem c]
  · simp [List.getElem?_eq_none (Nat.le_of_not_lt c), List.getElem?_eq_none (l := List.range ts.length) (by simpa using Nat.le_of_not_lt c)]
theorem ok_greatest_product (F : Has K mg "greatest_product" s_greatest_product) (T : Txt K mg) (L : Pl K) : ∀ n, FnQ P w K mg base CX0 (n + 1) "greatest_product" ["plan"] (spProd K n) := by
  intro n
  induction n with
  | zero =>
    refine F.q sc_greatest_product (fun _ _ _ _ _ _ us hl => match us, hl with | [_], _ => rfl) (fun vs H Q E h => by obtain ⟨_, _, rfl, _⟩ := h; rfl) (fun cdv A outer s H vs Q E hr h => ?_)
    obtain ⟨v, t, _, _, _, lv, _⟩ := h
    have := t.pn.lv_pos
    omega
  | succ n F_greatest_product =>
    refine F.q sc_greatest_product (fun _ _ _ _ _ _ us hl => match us, hl with | [_], _ => rfl) (fun vs H Q E h => by obtain ⟨_, _, rfl, _⟩ := h; rfl) (fun cdv A outer s H vs Q E hr h => ?_)
    obtain ⟨v, t, rfl, hv, ok, lv, k⟩ := h
    have gI : mg "isinstance" = none := T.fr _ (by simp [frees])
    have hp := hv.pt
    refine ⟨_, PSs.nox (pss_cons (ps_if (pt_val (pe_callB call_isi (by rfl) gI boot_isinstance (pa_cons (pv 0) (pa_cons (C8.pe_gc (by rfl) T.c_WorkerPlan) pa_nil))))
  (pss_one (ps_ret pe_int))
  pss_nil)
  (pss_one (ps_ret (pe_op op_mul (pe_op op_add (pe_fld (pv 0) rfl) pe_int) (pe_callBK (cr_maxDef rfl) (by rfl) (T.fr "max" (by simp [frees])) PyProof.Rows.boot_max (pa_cons (pe_lc (own := [("child", 1)]) (tt := tYes) rfl sc_greatest_product.nd (pi_tup (pe_fld (pv 0) rfl)) (blkOk_by (N := N_greatest_product) (sc := defScope s_greatest_product) (by decide +kernel)) (fun _ _ _ _ _ => (pg_name (i := 1) sc_greatest_product.nd rfl (by first | exact .inl rfl | exact .inr rfl))) (fun _ _ _ _ _ => pts_nil) (fun _ _ _ _ _ => (pe_f F_greatest_product hr pass0 (pa_cons (pv 1) pa_nil) (hj := Nat.le_refl _)))) pa_nil) (pk_cons pe_int pk_nil)))))), ?_⟩
    refine ⟨_, rfl, _, _, _, _, _, rfl, .own _, hp.ty T.pk, T.pk.kit _ 5 (kt_lt _) (by decide), _, rfl, ?_⟩
    cases hv with
    | w h hd so => exact if_yes rfl (by have z := k H (Same.refl H); rw [prodT] at z; exact z)
    | @s a dx p nm r st mo sp dl vs ts h hk ht =>
      have lt : vs.length = ts.length := ht.len
      obtain ⟨o1, o2, o3, o4, o5, o6, l4, o8⟩ := id ok
      refine if_no rfl ⟨_, rfl, a, suA K, dx, _, .int mo, rfl, h, L.cs, L.ns _ (by simp), by kernel_rfl, ?_⟩
      refine ⟨_, _, rfl, rfl, _, rfl, a, suA K, dx, _, .ref p, rfl, h, L.cs, L.ns _ (by simp), by kernel_rfl, p, rfl, ⟨_, hk⟩, comp_val walk_tup (f := fun i => .int ((ts[i]?.map prodT).getD 0)) (small1000 (by omega)) (fun G s => s.sqT hk) (fun i H x H' y b o e => by rw [y.1]; exact e) ?_ ?_⟩
      · rintro i x G1 G2 R hi g1 ⟨rfl, ex⟩ kk
        obtain ⟨tc, et, hx⟩ := ht.get ex
        have z := fun G3 s3 => kk G3 s3
        simp only [et, Option.map_some, Option.getD_some] at z
        exact ⟨rfl, _, rfl, x, tc, rfl, hx.same g1, oks_get o8 et, lv_kid et lv, z⟩
      · intro q G s1 n1 e1
        have em : (List.range vs.length).map (fun i => V.int ((ts[i]?.map prodT).getD 0)) = (ts.map prodT).map V.int := by
          rw [lt]; exact range_prod ts
        rw [em] at e1
        refine ⟨q, ts.map prodT, .int 1, rfl, rfl, SqL.of e1, fun z => ?_, fun m hm gr => ?_⟩
        · have tz : ts = [] := List.map_eq_nil_iff.mp z
          subst tz
          refine ⟨_, _, rfl, rfl, .inl ⟨by omega, by omega⟩, ?_⟩
          have y := k G s1
          rw [prodT, prodL] at y
          exact y
        · have e := prodL_max o8 hm gr
          subst e
          refine ⟨_, _, rfl, rfl, .inl ⟨by omega, by omega⟩, ?_⟩
          have y := k G s1
          rw [prodT] at y
          exact y
def ruleV : Option Str → V
  | some x => .str x
  | none => .non
def spRule (K : PySem.W.Frag) : Sp := fun vs H Q _ => ∃ v t, vs = [v] ∧ PTr K H v t ∧ t.ok ∧ t.pn.lv ≤ 7 ∧ t.names.length ≤ 1000 ∧ ∀ H', Same H H' → Q (ruleV (ruleT t)) H'
theorem ok_broken_rule (F : Has K mg "_broken_rule" s_broken_rule) (T : Txt K mg) (F_names : FnQ P w K mg base CX0 9 "names" ["plan"] (spNames K 7)) (F_levels_of : FnQ P w K mg base CX0 21 "levels_of" ["plan"] (spLevels K 20)) (F_greatest_product : FnQ P w K mg base CX0 8 "greatest_product" ["plan"] (spProd K 7)) :
    FnQ P w K mg base CX0 22 "_broken_rule" ["value"] (spRule K) := by
  refine F.q sc_broken_rule (fun _ _ _ _ _ _ us hl => match us, hl with | [_], _ => rfl) (fun vs H Q E h => by obtain ⟨_, _, rfl, _⟩ := h; rfl) (fun cdv A outer s H vs Q E hr h => ?_)
  obtain ⟨v, t, rfl, hv, ok, lv, nl, k⟩ := h
  have gI : mg "isinstance" = none := T.fr _ (by simp [frees])
  have gL : mg "len" = none := T.fr _ (by simp [frees])
  have hp := hv.pt
  refine ⟨_, PSs.nox (pss_cons (ps_if (pt_not (pt_val (pe_callB call_isi (by rfl) gI boot_isinstance (pa_cons (pv 0) (pa_cons (C8.pe_gc (by rfl) T.c_SupervisorPlan) pa_nil)))))
  (pss_one (ps_ret pe_str))
  pss_nil)
  (pss_cons (ps_set (i := 1) sc_broken_rule.nd rfl (by first | exact .inl rfl | exact .inr rfl) (pe_f F_names hr pass0 (pa_cons (pv 0) pa_nil)))
  (pss_cons (ps_if (pt_cmpR op_lt (pe_callB call_lenX (by rfl) gL boot_len (pa_cons (pe_callTy (cr_setOfT rfl) (by rfl) (T.fr "set" (by simp [frees])) PyProof.Rows.boot_set (pa_cons (pv 1) pa_nil)) pa_nil)) (pe_callB call_len_seq (by rfl) gL boot_len (pa_cons (pv 1) pa_nil)) (by first | exact nomark _ | rfl))
  (pss_one (ps_ret pe_str))
  pss_nil)
  (pss_cons (ps_if (pt_cmpR op_gt (pe_callB call_len_seq (by rfl) gL boot_len (pa_cons (pv 1) pa_nil)) (C8.pe_gc (by rfl) T.c_MOST_ROOT_PLANS) (by first | exact nomark _ | rfl))
  (pss_one (ps_ret pe_str))
  pss_nil)
  (pss_cons (ps_if (pt_cmpR op_gt (pe_f F_levels_of hr pass0 (pa_cons (pv 0) pa_nil)) (C8.pe_gc (by rfl) T.c_MOST_ROOT_LEVELS) (by first | exact nomark _ | rfl))
  (pss_one (ps_ret pe_str))
  pss_nil)
  (pss_cons (ps_if (pt_cmpR op_gt (pe_f F_greatest_product hr pass0 (pa_cons (pv 0) pa_nil)) (C8.pe_gc (by rfl) T.c_MOST_ROOT_PRODUCT) (by first | exact nomark _ | rfl))
  (pss_one (ps_ret pe_str))
  pss_nil)
  (pss_one (ps_ret pe_non)))))))), ?_⟩
  refine ⟨_, rfl, _, _, _, _, _, rfl, .own _, hp.ty T.pk, T.pk.kit _ 6 (kt_lt _) (by decide), _, rfl, ?_⟩
  have hv' := hv
  cases hv with
  | w h hd so => exact if_yes rfl (k H (Same.refl H))
  | @s a dx p nm r st mo sp dl vs ts h hk ht =>
    refine if_no rfl ?_
    have szz := Tr.size_names (.s nm r st mo sp dl ts)
    refine ⟨_, rfl, .ref a, .s nm r st mo sp dl ts, rfl, hv', lv, by omega, fun q G1 s1 hq => ?_⟩
    have eR : ruleT (.s nm r st mo sp dl ts) = if ¬ (Tr.s nm r st mo sp dl ts).names.Nodup then some ("names" : Str) else if 60 < (Tr.s nm r st mo sp dl ts).names.length then some ("size" : Str) else if 6 < (Tr.s nm r st mo sp dl ts).pn.lv then some ("levels" : Str) else if 1000 < prodT (.s nm r st mo sp dl ts) then some ("product" : Str) else none := by rw [ruleT]
    generalize hT : Tr.s nm r st mo sp dl ts = t at *
    clear hT
    refine ⟨_, rfl, q, t.names, rfl, hq, Nat.lt_of_le_of_lt (show _ ≤ 1001 by omega) (by decide), fun p2 c np lc => ⟨p2, t.names, c, rfl, upd_same, fun c1 c2 => ?_⟩⟩
    have s2 : Same G1 (upd G1 p2 (SetXO w p2 (fun y => decide (y ∈ t.names)) c)) := Same.new np
    have s12 := s1.trans s2
    refine ⟨_, rfl, q, _, rfl, .inr (s2.sqT hq), _, _, rfl, rfl, _, rfl, ?_⟩
    rw [List.length_map]
    by_cases nd : t.names.Nodup
    · rw [if_neg (not_not_intro nd)] at eR
      have e1 := c1 nd
      refine if_no (decide_eq_false (by omega)) ?_
      refine ⟨_, rfl, q, _, rfl, .inr (s2.sqT hq), _, _, rfl, rfl, _, rfl, ?_⟩
      rw [List.length_map]
      by_cases n60 : 60 < t.names.length
      · rw [if_pos n60] at eR
        exact if_yes (decide_eq_true (by omega)) (by have z := k _ s12; rw [eR] at z; exact z)
      · rw [if_neg n60] at eR
        refine if_no (decide_eq_false (by omega)) ?_
        refine ⟨_, rfl, .ref a, t.pn, rfl, hp.same s12, by omega, by omega, fun G3 s3 => ⟨_, _, rfl, rfl, _, rfl, ?_⟩⟩
        by_cases l6 : 6 < t.pn.lv
        · rw [if_pos l6] at eR
          exact if_yes (decide_eq_true (by omega)) (by have z := k G3 (s12.trans s3); rw [eR] at z; exact z)
        · rw [if_neg l6] at eR
          refine if_no (decide_eq_false (by omega)) ?_
          refine ⟨_, rfl, .ref a, t, rfl, (hv'.same s12).same s3, ok, lv, fun G4 s4 => ⟨_, _, rfl, rfl, _, rfl, ?_⟩⟩
          by_cases p1 : 1000 < prodT t
          · rw [if_pos p1] at eR
            exact if_yes (decide_eq_true p1) (by have z := k G4 ((s12.trans s3).trans s4); rw [eR] at z; exact z)
          · rw [if_neg p1] at eR
            exact if_no (decide_eq_false p1) (by have z := k G4 ((s12.trans s3).trans s4); rw [eR] at z; exact z)
    · rw [if_pos nd] at eR
      have e2 := c2 nd
      exact if_yes (decide_eq_true (by omega)) (by have z := k _ s12; rw [eR] at z; exact z)
def spChkR (K : PySem.W.Frag) : Sp := fun vs H Q E => ∃ v t, vs = [v] ∧ PTr K H v t ∧ t.ok ∧ t.pn.lv ≤ 7 ∧ t.names.length ≤ 1000 ∧
  (∀ x, ruleT t = some x → ∀ e H', Same H H' → H e = none → H' e = some (.xd [("rule", .str x)]) → E (.ref (He.ga K "BadRoot")) (some e) H') ∧ (ruleT t = none → ∀ H', Same H H' → Q .non H')
theorem ok_check_root (F : Has K mg "check_root" s_check_root) (T : Txt K mg) (TE : Err K mg "BadRoot" "rule") (F_broken_rule : FnQ P w K mg base CX0 22 "_broken_rule" ["value"] (spRule K)) : FnQ P w K mg base (L2.CX P w) 23 "check_root" ["plan"] (spChkR K) := by
  refine F.q sc_check_root (fun _ _ _ _ _ _ us hl => match us, hl with | [_], _ => rfl) (fun vs H Q E h => by obtain ⟨_, _, rfl, _⟩ := h; rfl) (fun cdv A outer s H vs Q E hr h => ?_)
  obtain ⟨v, t, rfl, hv, ok, lv, nl, kx, k⟩ := h
  refine ⟨_, (pss_cons (ps_set (i := 1) sc_check_root.nd rfl (by first | exact .inl rfl | exact .inr rfl) (pe_f F_broken_rule hr pass0 (pa_cons (pv 0) pa_nil)))
  (pss_cons (ps_if (pt_cmpR op_notN (pv 1) pe_non (by first | exact nomark _ | rfl))
  (pss_one (ps_raise rfl (takes_of rfl rfl rfl rfl) (pmk_xc PySem.F.excBase_ValueError PySem.F.store_ValueError TE.cl TE.xi fn_rule TE.ty hr (by decide) TE.gl (pv 1))))
  pss_nil)
  pss_nil)), ?_⟩
  refine ⟨_, rfl, v, t, rfl, hv, ok, lv, nl, fun G s1 => ?_⟩
  cases e : ruleT t with
  | none => exact ⟨_, rfl, rfl, _, rfl, if_no rfl (k e G s1)⟩
  | some x => exact ⟨_, rfl, rfl, _, rfl, if_yes rfl ⟨_, rfl, fun a H' s n x2 => kx x e a H' (s1.trans s) (none_back s1 n) x2⟩⟩
def spIsR (K : PySem.W.Frag) : Sp := fun vs H Q _ => ∃ v t, vs = [v] ∧ PTr K H v t ∧ t.ok ∧ t.pn.lv ≤ 7 ∧ t.names.length ≤ 1000 ∧ ∀ H', Same H H' → Q (.bl (ruleT t).isNone) H'
theorem ok_is_root (F : Has K mg "is_root" s_is_root) (T : Txt K mg) (F_broken_rule : FnQ P w K mg base CX0 22 "_broken_rule" ["value"] (spRule K)) : FnQ P w K mg base CX0 23 "is_root" ["value"] (spIsR K) := by
  refine F.q sc_is_root (fun _ _ _ _ _ _ us hl => match us, hl with | [_], _ => rfl) (fun vs H Q E h => by obtain ⟨_, _, rfl, _⟩ := h; rfl) (fun cdv A outer s H vs Q E hr h => ?_)
  obtain ⟨v, t, rfl, hv, ok, lv, nl, k⟩ := h
  refine ⟨_, PSs.nox (pss_one (ps_ret (pe_cmpR op_isN (pe_f F_broken_rule hr pass0 (pa_cons (pv 0) pa_nil)) pe_non (by first | exact nomark _ | rfl)))), ?_⟩
  refine ⟨_, rfl, v, t, rfl, hv, ok, lv, nl, fun G s1 => ⟨rfl, ?_⟩⟩
  have z := k G s1
  cases e : ruleT t with
  | none => rw [e] at z; exact z
  | some x => rw [e] at z; exact z
end
end K08
/-! trees: names, ways, renaming -/
namespace K08
open PySem PySem.Spec PyProof.Rows L2
mutual
theorem names_ok : ∀ t : Tr, t.ok → ∀ x ∈ t.names, NmOk x
  | .w _ _ _ _ _ _ _ _, ok, x, hx => by rw [List.mem_singleton.mp hx]; exact ok.1
  | .s _ _ _ _ _ _ ts, ok, x, hx => by
    rcases List.mem_cons.mp hx with h | h
    · rw [h]; exact ok.1
    · exact namesL_ok ts ok.2.2.2.2.2.2.2 x h
theorem namesL_ok : ∀ ts : List Tr, Tr.oks ts → ∀ x ∈ Tr.namesL ts, NmOk x
  | [], _, x, hx => by cases hx
  | t :: ts, ok, x, hx => by
    rcases List.mem_append.mp hx with h | h
    · exact names_ok t ok.1 x h
    · exact namesL_ok ts ok.2 x h
end
theorem name_mem (t : Tr) : t.name ∈ t.names := by
  obtain ⟨r, e⟩ := Tr.names_eq t
  rw [e]; exact List.mem_cons_self
theorem kid_names : ∀ {ts : List Tr} {i : Nat} {t : Tr}, ts[i]? = some t → ∀ x ∈ t.names, x ∈ Tr.namesL ts
  | [], i, t, e, _, _ => by simp at e
  | u :: us, 0, t, e, x, hx => by
    simp at e; subst e
    exact List.mem_append_left _ hx
  | u :: us, i + 1, t, e, x, hx => List.mem_append_right _ (kid_names (ts := us) (i := i) (by simpa using e) x hx)
/-- the way to a name, from above -/
inductive WayP (x : Str) : Tr → List Tr → Prop
  | hit {t : Tr} : t.name = x → WayP x t [t]
  | down {n r st : Str} {mo sp : Int} {dl : V} {ts : List Tr} {tc : Tr} {ws : List Tr} : ¬ n = x → x ∈ Tr.namesL ts → ts[turnOf x ts]? = some tc → WayP x tc ws → WayP x (.s n r st mo sp dl ts) (.s n r st mo sp dl ts :: ws)
theorem way_p {x : Str} : ∀ (n : Nat) (t : Tr), t.pn.lv ≤ n → x ∈ t.names → WayP x t (wayT x t) := by
  intro n
  induction n with
  | zero => intro t h; have := t.pn.lv_pos; omega
  | succ n ih =>
    intro t h mx
    by_cases c : t.name = x
    · rw [way_hit c]; exact .hit c
    · cases t with
      | w m _ _ _ _ _ _ _ => exact absurd (List.mem_singleton.mp mx).symm c
      | s m r st mo sp dl ts =>
        have c' : ¬ m = x := c
        have z : (Tr.s m r st mo sp dl ts).pn.lv = 1 + Pn.lvs (Tr.pns ts) := rfl
        have mt : x ∈ Tr.namesL ts := by
          rcases List.mem_cons.mp mx with q | q
          · exact absurd q.symm c'
          · exact q
        obtain ⟨tc, etc, mtc⟩ := turn_at mt
        have lvc := lvs_get etc
        rw [wayT, if_neg c', wayL_at mt etc]
        exact .down c' mt etc (ih tc (by omega) mtc)
theorem WayP.of {x : Str} {t : Tr} (h : x ∈ t.names) : WayP x t (wayT x t) := way_p _ t (Nat.le_refl _) h
theorem WayP.cons {x : Str} {t : Tr} {ws : List Tr} (h : WayP x t ws) : ∃ r, ws = t :: r := by
  cases h with
  | hit => exact ⟨_, rfl⟩
  | down => exact ⟨_, rfl⟩
theorem WayP.last {x : Str} {t : Tr} {ws : List Tr} (h : WayP x t ws) : ∃ us u, ws = us ++ [u] ∧ u.name = x ∧ (∀ y ∈ u.names, y ∈ t.names) ∧ (t.ok → u.ok) ∧ u.pn.lv ≤ t.pn.lv ∧ u.names.length ≤ t.names.length := by
  induction h with
  | @hit t c => exact ⟨[], _, rfl, c, fun _ h => h, id, Nat.le_refl _, Nat.le_refl _⟩
  | @down n r st mo sp dl ts tc ws c mt e w ih =>
    obtain ⟨us, u, rfl, a, b, d, f, g⟩ := ih
    have z : (Tr.s n r st mo sp dl ts).pn.lv = 1 + Pn.lvs (Tr.pns ts) := rfl
    have zt : (Tr.s n r st mo sp dl ts).names.length = (Tr.namesL ts).length + 1 := rfl
    have lvc := lvs_get e
    have nlc := names_kid e
    exact ⟨_ :: us, u, rfl, a, fun y hy => List.mem_cons_of_mem _ (kid_names e y (b y hy)), fun ok => d (oks_get ok.2.2.2.2.2.2.2 e), by omega, by omega⟩
theorem at_of_last {x : Str} {t u : Tr} {us : List Tr} (e : wayT x t = us ++ [u]) : atT x t = u := by
  unfold atT
  rw [e, List.getLast?_append]
  rfl
structure AtP (x : Str) (t : Tr) : Prop where
  nm : (atT x t).name = x
  sub : ∀ y ∈ (atT x t).names, y ∈ t.names
  ok : t.ok → (atT x t).ok
  lv : (atT x t).pn.lv ≤ t.pn.lv
  nl : (atT x t).names.length ≤ t.names.length
theorem at_p {x : Str} {t : Tr} (h : x ∈ t.names) : AtP x t := by
  obtain ⟨us, u, e, a, b, d, f, g⟩ := (WayP.of h).last
  have z := at_of_last e
  exact ⟨by rw [z]; exact a, by rw [z]; exact b, by rw [z]; exact d, by rw [z]; exact f, by rw [z]; exact g⟩
theorem path_ends {x : Str} {t : Tr} (h : x ∈ t.names) : (∃ r, pathT x t = t.name :: r) ∧ ∃ l, pathT x t = l ++ [x] := by
  obtain ⟨r, e⟩ := (WayP.of h).cons
  obtain ⟨us, u, e2, a, _⟩ := (WayP.of h).last
  unfold pathT
  refine ⟨⟨r.map Tr.name, by rw [e]; rfl⟩, us.map Tr.name, by rw [e2, List.map_append, ← a]; rfl⟩
/-! parts of parts -/
theorem turn_one : ∀ {x : Str} {ts : List Tr} {i : Nat} {t : Tr}, (Tr.namesL ts).Nodup → ts[i]? = some t → x ∈ t.names → turnOf x ts = i
  | x, [], i, t, _, e, _ => by simp at e
  | x, u :: us, 0, t, nd, e, hx => by
    simp at e; subst e
    rw [turnOf, if_pos hx]
  | x, u :: us, i + 1, t, nd, e, hx => by
    have e' : us[i]? = some t := by simpa using e
    have nd' : (u.names ++ Tr.namesL us).Nodup := nd
    obtain ⟨n1, n2, n3⟩ := List.nodup_append.mp nd'
    have c : x ∉ u.names := fun q => n3 x q x (kid_names e' x hx) rfl
    rw [turnOf, if_neg c, turn_one n2 e' hx]
theorem kid_nodup : ∀ {ts : List Tr} {i : Nat} {t : Tr}, (Tr.namesL ts).Nodup → ts[i]? = some t → t.names.Nodup
  | [], i, t, _, e => by simp at e
  | u :: us, 0, t, nd, e => by
    simp at e; subst e
    exact (List.nodup_append.mp (show (u.names ++ Tr.namesL us).Nodup from nd)).1
  | u :: us, i + 1, t, nd, e => kid_nodup (List.nodup_append.mp (show (u.names ++ Tr.namesL us).Nodup from nd)).2.1 (by simpa using e)
theorem at_down {y n r st : Str} {mo sp : Int} {dl : V} {ts : List Tr} {tc : Tr} (c : ¬ n = y) (m : y ∈ Tr.namesL ts) (e : ts[turnOf y ts]? = some tc) : atT y (.s n r st mo sp dl ts) = atT y tc := by
  obtain ⟨us, u, e2, _⟩ := (WayP.of (show y ∈ tc.names by
    obtain ⟨t, e1, m1⟩ := turn_at m
    rw [e] at e1; cases e1; exact m1)).last
  rw [at_of_last e2]
  refine at_of_last (us := .s n r st mo sp dl ts :: us) ?_
  rw [wayT, if_neg c, wayL_at m e, e2]; rfl
theorem at_at {x y : Str} {t : Tr} {ws : List Tr} (h : WayP x t ws) (nd : t.names.Nodup) (e : wayT x t = ws) (hy : y ∈ (atT x t).names) : atT y (atT x t) = atT y t := by
  induction h with
  | @hit t c =>
    have z : atT x t = t := at_of_last (us := []) (by rw [way_hit c]; rfl)
    rw [z]
  | @down n r st mo sp dl ts tc ws c mt etc w ih =>
    have mtc : x ∈ tc.names := by
      obtain ⟨t, e1, m1⟩ := turn_at mt
      rw [etc] at e1; cases e1; exact m1
    rw [at_down c mt etc] at hy ⊢
    have yt : y ∈ tc.names := (at_p mtc).sub y hy
    have nd' : (n :: Tr.namesL ts).Nodup := nd
    obtain ⟨n1, n2⟩ := List.nodup_cons.mp nd'
    have ym : y ∈ Tr.namesL ts := kid_names etc y yt
    have cy : ¬ n = y := fun q => n1 (q ▸ ym)
    have ty := turn_one n2 etc yt
    rw [at_down cy ym (by rw [ty]; exact etc)]
    exact ih (kid_nodup n2 etc) (by rw [wayT, if_neg c, wayL_at mt etc] at e; exact (List.cons.inj e).2) hy
/-! other names -/
mutual
def ren (f : Str → Str) : Tr → Tr
  | .w n r o c dl rf sc sd => .w (f n) r o c dl rf sc sd
  | .s n r st mo sp dl ts => .s (f n) r st mo sp dl (renL f ts)
def renL (f : Str → Str) : List Tr → List Tr
  | [] => []
  | t :: ts => ren f t :: renL f ts
end
theorem renL_map (f : Str → Str) : ∀ ts : List Tr, renL f ts = ts.map (ren f)
  | [] => rfl
  | t :: ts => by rw [renL, renL_map f ts, List.map_cons]
theorem renL_len (f : Str → Str) (ts : List Tr) : (renL f ts).length = ts.length := by rw [renL_map, List.length_map]
theorem ren_name (f : Str → Str) (t : Tr) : (ren f t).name = f t.name := by cases t <;> rfl
mutual
theorem ren_names (f : Str → Str) : ∀ t : Tr, (ren f t).names = t.names.map f
  | .w _ _ _ _ _ _ _ _ => rfl
  | .s n _ _ _ _ _ ts => by
    rw [ren]
    show f n :: Tr.namesL (renL f ts) = f n :: (Tr.namesL ts).map f
    rw [renL_names f ts]
theorem renL_names (f : Str → Str) : ∀ ts : List Tr, Tr.namesL (renL f ts) = (Tr.namesL ts).map f
  | [] => rfl
  | t :: ts => by
    rw [renL]
    show (ren f t).names ++ Tr.namesL (renL f ts) = (t.names ++ Tr.namesL ts).map f
    rw [ren_names f t, renL_names f ts, List.map_append]
end
mutual
theorem ren_pn (f : Str → Str) : ∀ t : Tr, (ren f t).pn = t.pn
  | .w _ _ _ _ _ _ _ _ => rfl
  | .s n _ _ _ _ _ ts => by
    rw [ren]
    show Pn.sup (Tr.pns (renL f ts)) = Pn.sup (Tr.pns ts)
    rw [renL_pns f ts]
theorem renL_pns (f : Str → Str) : ∀ ts : List Tr, Tr.pns (renL f ts) = Tr.pns ts
  | [] => rfl
  | t :: ts => by
    rw [renL]
    show (ren f t).pn :: Tr.pns (renL f ts) = t.pn :: Tr.pns ts
    rw [ren_pn f t, renL_pns f ts]
end
mutual
theorem ren_prod (f : Str → Str) : ∀ t : Tr, prodT (ren f t) = prodT t
  | .w _ _ _ _ _ _ _ _ => rfl
  | .s n _ _ _ _ _ ts => by rw [ren, prodT, prodT, renL_prod f ts]
theorem renL_prod (f : Str → Str) : ∀ ts : List Tr, prodL (renL f ts) = prodL ts
  | [] => rfl
  | t :: ts => by rw [renL, prodL, prodL, ren_prod f t, renL_prod f ts]
end
mutual
theorem ren_ok (f : Str → Str) : ∀ t : Tr, t.ok → (∀ x ∈ t.names, NmOk (f x)) → (ren f t).ok
  | .w n _ _ _ _ _ _ _, ok, h => by
    rw [ren]
    exact ⟨h n List.mem_cons_self, ok.2⟩
  | .s n _ _ _ _ _ ts, ok, h => by
    obtain ⟨o1, o2, o3, o4, o5, o6, o7, o8⟩ := ok
    rw [ren]
    exact ⟨h n List.mem_cons_self, o2, o3, o4, o5, o6, by rw [renL_len]; exact o7, renL_ok f ts o8 fun x hx => h x (List.mem_cons_of_mem _ hx)⟩
theorem renL_ok (f : Str → Str) : ∀ ts : List Tr, Tr.oks ts → (∀ x ∈ Tr.namesL ts, NmOk (f x)) → Tr.oks (renL f ts)
  | [], _, _ => by rw [renL]; trivial
  | t :: ts, ok, h => by
    rw [renL]
    exact ⟨ren_ok f t ok.1 fun x hx => h x (List.mem_append_left _ hx), renL_ok f ts ok.2 fun x hx => h x (List.mem_append_right _ hx)⟩
end
/-- different names get different ones -/
def InjS (f : Str → Str) (S : List Str) : Prop := ∀ a ∈ S, ∀ b ∈ S, f a = f b → a = b
theorem mem_ren {f : Str → Str} {S ns : List Str} {x : Str} (inj : InjS f S) (sub : ∀ a ∈ ns, a ∈ S) (hx : x ∈ S) : f x ∈ ns.map f ↔ x ∈ ns := by
  constructor
  · intro h
    obtain ⟨a, ha, e⟩ := List.mem_map.mp h
    rw [← inj a (sub a ha) x hx e]; exact ha
  · exact List.mem_map_of_mem
theorem turn_ren {f : Str → Str} {S : List Str} {x : Str} (inj : InjS f S) (hx : x ∈ S) : ∀ {ts : List Tr}, (∀ a ∈ Tr.namesL ts, a ∈ S) → turnOf (f x) (renL f ts) = turnOf x ts
  | [], _ => rfl
  | t :: ts, sub => by
    have s1 : ∀ a ∈ t.names, a ∈ S := fun a ha => sub a (List.mem_append_left _ ha)
    have s2 : ∀ a ∈ Tr.namesL ts, a ∈ S := fun a ha => sub a (List.mem_append_right _ ha)
    rw [renL, turnOf, turnOf, ren_names, turn_ren inj hx s2]
    by_cases c : x ∈ t.names
    · rw [if_pos c, if_pos ((mem_ren inj s1 hx).mpr c)]
    · rw [if_neg c, if_neg fun q => c ((mem_ren inj s1 hx).mp q)]
mutual
theorem way_ren {f : Str → Str} {S : List Str} {x : Str} (inj : InjS f S) (hx : x ∈ S) : ∀ t : Tr, (∀ a ∈ t.names, a ∈ S) → wayT (f x) (ren f t) = (wayT x t).map (ren f)
  | .w _ _ _ _ _ _ _ _, _ => rfl
  | .s n r st mo sp dl ts, sub => by
    have hn : n ∈ S := sub n List.mem_cons_self
    rw [ren, wayT, wayT]
    by_cases c : n = x
    · rw [if_pos c, if_pos (by rw [c]), List.map_cons, List.map_nil, ren]
    · rw [if_neg c, if_neg fun q => c (inj n hn x hx q), List.map_cons, wayL_ren inj hx ts fun a ha => sub a (List.mem_cons_of_mem _ ha), ren]
theorem wayL_ren {f : Str → Str} {S : List Str} {x : Str} (inj : InjS f S) (hx : x ∈ S) : ∀ ts : List Tr, (∀ a ∈ Tr.namesL ts, a ∈ S) → wayL (f x) (renL f ts) = (wayL x ts).map (ren f)
  | [], _ => rfl
  | t :: ts, sub => by
    have s1 : ∀ a ∈ t.names, a ∈ S := fun a ha => sub a (List.mem_append_left _ ha)
    rw [renL, wayL, wayL, ren_names]
    by_cases c : x ∈ t.names
    · rw [if_pos c, if_pos ((mem_ren inj s1 hx).mpr c), way_ren inj hx t s1]
    · rw [if_neg c, if_neg fun q => c ((mem_ren inj s1 hx).mp q), wayL_ren inj hx ts fun a ha => sub a (List.mem_append_right _ ha)]
end
theorem path_ren {f : Str → Str} {x : Str} {t : Tr} (inj : InjS f t.names) (hx : x ∈ t.names) : pathT (f x) (ren f t) = (pathT x t).map f := by
  unfold pathT
  rw [way_ren inj hx t fun _ h => h, List.map_map, List.map_map]
  congr 1
  funext u
  exact ren_name f u
theorem at_ren {f : Str → Str} {x : Str} {t : Tr} (inj : InjS f t.names) (hx : x ∈ t.names) : atT (f x) (ren f t) = ren f (atT x t) := by
  obtain ⟨us, e⟩ := way_last x t
  refine at_of_last (us := us.map (ren f)) ?_
  rw [way_ren inj hx t fun _ h => h, e, List.map_append]; rfl
mutual
theorem chg_ren {f : Str → Str} {S : List Str} {x r : Str} (inj : InjS f S) (hx : x ∈ S) : ∀ t : Tr, (∀ a ∈ t.names, a ∈ S) → chgT (f x) r (ren f t) = ren f (chgT x r t)
  | .w _ _ _ _ _ _ _ _, _ => rfl
  | .s n r0 st mo sp dl ts, sub => by
    have hn : n ∈ S := sub n List.mem_cons_self
    rw [ren, chgT, chgT]
    by_cases c : n = x
    · rw [if_pos c, if_pos (by rw [c]), ren]
    · rw [if_neg c, if_neg fun q => c (inj n hn x hx q), ren, chgL_ren inj hx ts fun a ha => sub a (List.mem_cons_of_mem _ ha)]
theorem chgL_ren {f : Str → Str} {S : List Str} {x r : Str} (inj : InjS f S) (hx : x ∈ S) : ∀ ts : List Tr, (∀ a ∈ Tr.namesL ts, a ∈ S) → chgL (f x) r (renL f ts) = renL f (chgL x r ts)
  | [], _ => rfl
  | t :: ts, sub => by
    have s1 : ∀ a ∈ t.names, a ∈ S := fun a ha => sub a (List.mem_append_left _ ha)
    rw [renL, chgL, chgL, ren_names]
    by_cases c : x ∈ t.names
    · rw [if_pos c, if_pos ((mem_ren inj s1 hx).mpr c), chg_ren inj hx t s1, renL]
    · rw [if_neg c, if_neg fun q => c ((mem_ren inj s1 hx).mp q), chgL_ren inj hx ts fun a ha => sub a (List.mem_append_right _ ha), renL]
end
theorem nodup_ren {f : Str → Str} : ∀ {ns S : List Str}, InjS f S → (∀ a ∈ ns, a ∈ S) → ((ns.map f).Nodup ↔ ns.Nodup)
  | [], _, _, _ => by simp
  | n :: ns, S, inj, sub => by
    have hn := sub n List.mem_cons_self
    have s2 : ∀ a ∈ ns, a ∈ S := fun a ha => sub a (List.mem_cons_of_mem _ ha)
    rw [List.map_cons, List.nodup_cons, List.nodup_cons, nodup_ren inj s2, mem_ren inj s2 hn]
theorem rule_ren {f : Str → Str} {t : Tr} (inj : InjS f t.names) : ruleT (ren f t) = ruleT t := by
  have e1 := ren_names f t
  have e2 := ren_pn f t
  have e3 := ren_prod f t
  have e4 := nodup_ren inj (fun a ha => ha)
  cases t with
  | w => rfl
  | s n r st mo sp dl ts =>
    rw [ren] at e1 e2 e3 ⊢
    rw [ruleT, ruleT, e1, e2, e3, List.length_map]
    by_cases c : (Tr.s n r st mo sp dl ts).names.Nodup
    · rw [if_neg (not_not_intro (e4.mpr c)), if_neg (not_not_intro c)]
    · rw [if_pos c, if_pos fun q => c (e4.mp q)]
mutual
theorem pre_ren (f : Str → Str) : ∀ (d : Nat) (t : Tr), pre d (ren f t) = (pre d t).map fun p => (p.1, ren f p.2)
  | d, .w _ _ _ _ _ _ _ _ => by rw [ren, pre, pre]; rfl
  | d, .s _ _ _ _ _ _ ts => by rw [ren, pre, pre, List.map_cons, preL_ren f (d + 1) ts, ren]
theorem preL_ren (f : Str → Str) : ∀ (d : Nat) (ts : List Tr), preL d (renL f ts) = (preL d ts).map fun p => (p.1, ren f p.2)
  | d, [] => by rw [renL, preL]; rfl
  | d, t :: ts => by rw [renL, preL, preL, List.map_append, pre_ren f d t, preL_ren f d ts]
end
end K08
namespace L2
open PySem PySem.Spec PyProof.Rows
/-- l == [] -/
def rEqNil : R2 := fun x y H Q => ∃ l b xs, x = .ref l ∧ y = .ref b ∧ H l = some (.lst xs) ∧ H b = some (.lst []) ∧ Q (.bl xs.isEmpty) H
theorem op_eqNil {X : Cx} (hu : X.A.units + 64 < cLine) : OpR X (compareOp .Eq) rEqNil := by
  intro pins s σ H x y v u Q I rx ry h
  obtain ⟨l, b, xs, rfl, rfl, e1, e2, q⟩ := h
  obtain rfl : v = Value.ref l := rx
  obtain rfl : u = Value.ref b := ry
  obtain ⟨_, its, n, rv, l0, z1⟩ := I.lstM e1
  obtain ⟨_, its2, n2, rv2, l02, z2⟩ := I.lstM e2
  have l1 : its.length = xs.length := l0.symm
  have h2 : its2 = [] := by
    exact List.length_eq_zero_iff.mp l02.symm
  subst h2
  cases xs with
  | nil =>
    have h3 : its = [] := List.length_eq_zero_iff.mp l1
    subst h3
    have z := SeqAt.RcAt.lists (A := X.A) (s := s) (l := l) (b := b) (items := [].toArray) (items2 := [].toArray) (e := fun _ => true) ⟨_, z1, rfl, _, rfl⟩ ⟨_, z2, rfl, _, rfl⟩ rfl (by omega) (fun j h _ => absurd h (by simp))
    exact z X.prog X.w X.xe _ ⟨.bl true, H, I, rfl, q⟩
  | cons a r =>
    have ne : (its.toArray.size != ([] : List Value).toArray.size) = true := by
      rw [List.size_toArray, l1]
      rfl
    exact (SeqAt.RcAt.lists_lengths (A := X.A) (s := s) (l := l) (b := b) (items := its.toArray) (items2 := ([] : List Value).toArray) ⟨_, z1, rfl, _, rfl⟩ ⟨_, z2, rfl, _, rfl⟩ ne (by omega)) X.prog X.w X.xe _ ⟨.bl false, H, I, rfl, q⟩
end L2
/-! y in x by an own __contains__, inside a comprehension -/
namespace L2
open PySem PySem.Spec PyProof.Rows
theorem op_inOwnK {X : Cx} {CX : CXT} {n : Nat} {E : XK} (P : Program) (w : World) (K : PySem.W.Frag) (mg : Str → Option Value) (base : Heap) (hr : Room n X.A) (hx : Passes CX X E) (h1 : X.prog = P := by rfl) (h2 : X.w = w := by rfl) (h3 : X.K = K := by rfl) (h4 : X.mg = mg := by rfl) (h5 : X.base = base := by rfl) :
    OpR X (compareOp .In) (rInOwn P w K mg base CX n E false) := by
  subst h1 h2 h3 h4 h5; exact op_inOwn hr hx
end L2
/-! the lines of a tree, and what is read back of them -/
namespace K08
open PySem PySem.Spec PyProof.Rows L2 TL
def numT (i : Int) : Str := Str.ofString (toString i)
def dlT : V → Str
  | .int i => numT i
  | _ => "-"
def wordsT : Tr → List Str
  | .w n r o c dl rf _ _ => ["worker", n, r, numT o, numT c, dlT dl, numT rf]
  | .s n r st mo sp dl _ => ["supervisor", n, r, st, numT mo, numT sp, dlT dl]
def bodyT (t : Tr) : Str := Txt.join " " (wordsT t)
def lineT (d : Nat) (t : Tr) : Str := Txt.mul "  " d ++ bodyT t
def linesT (d : Nat) (t : Tr) : List Str := (pre d t).map fun p => lineT p.1 p.2
/-- no blank and no end of a line in it, at most twenty signs -/
def Wd (x : Str) : Prop := (∀ c ∈ tl x, c ≠ 32 ∧ c ≠ 10) ∧ x.length ≤ 20
theorem sg_wd : ∀ c ∈ signsS.cps.toList, c ≠ 32 ∧ c ≠ 10 := by decide +kernel
theorem nm_wd {n : Str} (h : NmOk n) : Wd n := by
  have z := h.1
  simp only [isPlace, isWord, wordS, Bool.and_eq_true, List.all_eq_true, decide_eq_true_eq] at z
  exact ⟨fun c hc => sg_wd c (z.1.2 c hc), h.2⟩
theorem rs_wd {x : Str} (h : x ∈ restartsS) : Wd x := by
  have all : ∀ y ∈ restartsS, (∀ c ∈ tl y, c ≠ 32 ∧ c ≠ 10) ∧ y.length ≤ 20 := by decide +kernel
  exact all x h
theorem st_wd {x : Str} (h : x ∈ strategiesS) : Wd x := by
  have all : ∀ y ∈ strategiesS, (∀ c ∈ tl y, c ≠ 32 ∧ c ≠ 10) ∧ y.length ≤ 20 := by decide +kernel
  exact all x h
theorem tl_len (x : Str) : (tl x).length = x.length := Array.length_toList
theorem num_tl {i : Int} (h : 0 ≤ i) : tl (numT i) = numL i.toNat := by
  have e : ((i.toNat : Nat) : Int) = i := by omega
  have z := tl_num i.toNat
  rw [e] at z
  exact z
theorem num_wd {i : Int} (h0 : 0 ≤ i) (h1 : i ≤ 1000000000) : Wd (numT i) ∧ (numT i).length ≤ 10 := by
  have l : (numT i).length ≤ 10 := by
    rw [← tl_len, num_tl h0]
    exact numL_len (by decide) (Nat.lt_of_le_of_lt (show i.toNat ≤ 1000000000 by omega) (by decide))
  refine ⟨⟨fun c hc => ?_, by omega⟩, l⟩
  rw [num_tl h0] at hc
  have r := numL_digits _ c hc
  omega
theorem dl_wd {v : V} (h : DlOk v) : Wd (dlT v) := by
  rcases h with rfl | ⟨i, rfl, h0, h1⟩
  · have all : (∀ c ∈ tl ("-" : Str), c ≠ 32 ∧ c ≠ 10) ∧ ("-" : Str).length ≤ 20 := by decide +kernel
    exact all
  · exact (num_wd h0 h1).1
theorem kind_wd : Wd "worker" ∧ Wd "supervisor" := by
  have all : ((∀ c ∈ tl ("worker" : Str), c ≠ 32 ∧ c ≠ 10) ∧ ("worker" : Str).length ≤ 20) ∧ ((∀ c ∈ tl ("supervisor" : Str), c ≠ 32 ∧ c ≠ 10) ∧ ("supervisor" : Str).length ≤ 20) := by decide +kernel
  exact all
theorem words_wd {t : Tr} (ok : t.ok) : ∀ x ∈ wordsT t, Wd x := by
  cases t with
  | w n r o c dl rf sc sd =>
    obtain ⟨h1, h2, h3, h4, h5, h6, _⟩ := ok
    intro x hx
    simp only [wordsT, List.mem_cons, List.not_mem_nil, or_false] at hx
    rcases hx with rfl | rfl | rfl | rfl | rfl | rfl | rfl
    · exact kind_wd.1
    · exact nm_wd h1
    · exact rs_wd h2
    · exact (num_wd h3.1 h3.2).1
    · exact (num_wd h4.1 h4.2).1
    · exact dl_wd h5
    · exact (num_wd h6.1 (by omega)).1
  | s n r st mo sp dl ts =>
    obtain ⟨h1, h2, h3, h4, h5, h6, _⟩ := ok
    intro x hx
    simp only [wordsT, List.mem_cons, List.not_mem_nil, or_false] at hx
    rcases hx with rfl | rfl | rfl | rfl | rfl | rfl | rfl
    · exact kind_wd.2
    · exact nm_wd h1
    · exact rs_wd h2
    · exact st_wd h3
    · exact (num_wd h4.1 (by omega)).1
    · exact (num_wd (by omega) h5.2).1
    · exact dl_wd h6
theorem words_len (t : Tr) : (wordsT t).length = 7 := by cases t <;> rfl
/-- the words of a line are read back -/
theorem body_split {t : Tr} (ok : t.ok) : Txt.split (bodyT t) " " = wordsT t := by
  unfold bodyT
  refine split_join (s := 32) (S := []) (by decide +kernel) (by decide +kernel) (fun h => ?_) fun p hp hm => ((words_wd ok p hp).1 32 hm).1 rfl
  have := words_len t
  rw [h] at this; cases this
theorem mul_tl : ∀ d, d < 21 → tl (Txt.mul "  " ((d : Nat) : Int)) = List.replicate (2 * d) 32 := by decide +kernel
theorem body_tl (t : Tr) : ∃ c r, tl (bodyT t) = c :: r ∧ c ≠ 32 := by
  unfold bodyT
  rw [join_eq, tl_join]
  cases t with
  | w n r o c dl rf sc sd => exact ⟨119, _, rfl, by decide⟩
  | s n r st mo sp dl ts => exact ⟨115, _, rfl, by decide⟩
theorem line_tl {d : Nat} (h : d < 21) (t : Tr) : tl (lineT d t) = List.replicate (2 * d) 32 ++ tl (bodyT t) := by
  unfold lineT
  rw [tl_append, mul_tl d h]
theorem take_rep {f : Nat → Bool} (h32 : f 32 = true) {c : Nat} {r : List Nat} (hc : f c = false) : ∀ n, (List.replicate n 32 ++ c :: r).takeWhile f = List.replicate n 32
  | 0 => by simp [hc]
  | n + 1 => by
    rw [List.replicate_succ, List.cons_append, List.takeWhile_cons, h32]
    simp only [if_true]
    rw [take_rep h32 hc n]
/-- a line without its indent -/
theorem line_strip {d : Nat} (h : d < 21) (t : Tr) : Txt.lstripChars (lineT d t) " " = bodyT t := by
  obtain ⟨c, r, eb, hc⟩ := body_tl t
  have e := line_tl h t
  have f32 : (" " : Str).cps.contains 32 = true := by decide +kernel
  have fc : (" " : Str).cps.contains c = false := by
    rw [Bool.eq_false_iff]
    intro z
    rw [Array.contains_iff_mem] at z
    have z2 : c ∈ tl " " := Array.mem_toList_iff.mpr z
    have all : ∀ x ∈ tl (" " : Str), x = 32 := by decide +kernel
    exact hc (all c z2)
  have lo : PySem.stripLo (" " : Str).cps.contains true (lineT d t) = 2 * d := by
    show ((tl (lineT d t)).takeWhile (" " : Str).cps.contains).length = _
    rw [e, eb, take_rep f32 fc, List.length_replicate]
  refine ext_tl ?_
  show tl (if PySem.stripSame (" " : Str).cps.contains true false (lineT d t) then lineT d t else PySem.stripped (" " : Str).cps.contains true false (lineT d t)) = _
  split
  · rename_i q
    unfold PySem.stripSame at q
    rw [lo] at q
    have d0 : 2 * d = 0 := by
      have := (Bool.and_eq_true_iff.mp q).1
      exact beq_iff_eq.mp this
    rw [e, d0]; rfl
  · unfold PySem.stripped
    rw [lo]
    show tl (Builtin.Str.strSub (lineT d t) (2 * d) (lineT d t).length) = _
    rw [tl_strSub_end, e]
    simp
theorem line_len {d : Nat} (h : d < 21) (t : Tr) : (lineT d t).length = 2 * d + (bodyT t).length := by
  rw [len_tl, line_tl h t, List.length_append, List.length_replicate, ← len_tl]
theorem sum_wd : ∀ {xs : List Str}, (∀ x ∈ xs, Wd x) → (xs.map (·.length)).sum ≤ 20 * xs.length
  | [], _ => Nat.le_refl _
  | x :: xs, h => by
    have a := (h x List.mem_cons_self).2
    have b := sum_wd (xs := xs) fun y hy => h y (List.mem_cons_of_mem _ hy)
    simp only [List.map_cons, List.sum_cons, List.length_cons]
    omega
theorem body_len {t : Tr} (ok : t.ok) : (bodyT t).length ≤ 147 := by
  unfold bodyT
  rw [join_eq]
  refine Nat.le_trans (StrLaws.join_length_le _ _) ?_
  have a := sum_wd (words_wd ok)
  have b := words_len t
  have c : (" " : Str).length = 1 := by decide +kernel
  rw [b] at a ⊢
  rw [c]
  omega
theorem mem_joinL {S : List Nat} {c : Nat} : ∀ {ps : List (List Nat)}, c ∈ joinL S ps → c ∈ S ∨ ∃ p ∈ ps, c ∈ p
  | [], h => by cases h
  | [p], h => .inr ⟨p, List.mem_singleton.mpr rfl, h⟩
  | p :: q :: r, h => by
    have h : c ∈ p ++ (S ++ joinL S (q :: r)) := h
    rcases List.mem_append.mp h with h | h
    · exact .inr ⟨p, List.mem_cons_self, h⟩
    · rcases List.mem_append.mp h with h | h
      · exact .inl h
      · rcases mem_joinL h with h | ⟨p', hp, hc⟩
        · exact .inl h
        · exact .inr ⟨p', List.mem_cons_of_mem _ hp, hc⟩
theorem line_free {d : Nat} (h : d < 21) {t : Tr} (ok : t.ok) : 10 ∉ tl (lineT d t) := by
  rw [line_tl h t]
  intro m
  rcases List.mem_append.mp m with m | m
  · have := List.eq_of_mem_replicate m
    omega
  · unfold bodyT at m
    rw [join_eq, tl_join] at m
    rcases mem_joinL m with m | ⟨p, hp, hc⟩
    · have all : ∀ x ∈ tl (" " : Str), x = 32 := by decide +kernel
      have := all 10 m
      omega
    · obtain ⟨x, hx, rfl⟩ := List.mem_map.mp hp
      exact ((words_wd ok x hx).1 10 hc).2 rfl
mutual
theorem pre_ok : ∀ (d : Nat) (t : Tr), t.ok → ∀ p ∈ pre d t, p.2.ok ∧ d ≤ p.1 ∧ p.1 < d + t.pn.lv
  | d, .w n r o c dl rf sc sd, ok, p, h => by
    rw [pre] at h
    rw [List.mem_singleton.mp h]
    exact ⟨ok, Nat.le_refl _, Nat.lt_succ_self d⟩
  | d, .s n r st mo sp dl ts, ok, p, h => by
    rw [pre] at h
    have l : (Tr.s n r st mo sp dl ts).pn.lv = 1 + Pn.lvs (Tr.pns ts) := rfl
    rcases List.mem_cons.mp h with h | h
    · rw [h]
      exact ⟨ok, Nat.le_refl _, by rw [l]; show d < _; omega⟩
    · obtain ⟨a, b, c⟩ := preL_ok (d + 1) ts ok.2.2.2.2.2.2.2 p h
      exact ⟨a, by omega, by rw [l]; omega⟩
theorem preL_ok : ∀ (d : Nat) (ts : List Tr), Tr.oks ts → ∀ p ∈ preL d ts, p.2.ok ∧ d ≤ p.1 ∧ p.1 < d + Pn.lvs (Tr.pns ts)
  | d, [], _, p, h => by rw [preL] at h; cases h
  | d, t :: ts, ok, p, h => by
    rw [preL] at h
    unfold Tr.oks at ok
    have l : Pn.lvs (Tr.pns (t :: ts)) = max t.pn.lv (Pn.lvs (Tr.pns ts)) := rfl
    rcases List.mem_append.mp h with h | h
    · obtain ⟨a, b, c⟩ := pre_ok d t ok.1 p h
      exact ⟨a, b, by rw [l]; omega⟩
    · obtain ⟨a, b, c⟩ := preL_ok d ts ok.2 p h
      exact ⟨a, b, by rw [l]; omega⟩
end
theorem pre_ne (d : Nat) (t : Tr) : pre d t ≠ [] := by
  cases t <;> (rw [pre]; simp)
/-- the lines of a text are read back -/
theorem text_split {t : Tr} (ok : t.ok) (lv : t.pn.lv ≤ 20) : Txt.split (Txt.join "\n" (linesT 0 t)) "\n" = linesT 0 t := by
  refine split_join (s := 10) (S := []) (by decide +kernel) (by decide +kernel) (fun h => ?_) fun p hp => ?_
  · exact pre_ne 0 t (List.map_eq_nil_iff.mp h)
  · obtain ⟨q, hq, rfl⟩ := List.mem_map.mp hp
    obtain ⟨a, _, c⟩ := pre_ok 0 t ok q hq
    exact line_free (by omega) a
theorem sum_le {n : Nat} : ∀ {xs : List Str}, (∀ x ∈ xs, x.length ≤ n) → (xs.map (·.length)).sum ≤ n * xs.length
  | [], _ => Nat.le_refl _
  | x :: xs, h => by
    have a := h x List.mem_cons_self
    have b := sum_le (xs := xs) fun y hy => h y (List.mem_cons_of_mem _ hy)
    simp only [List.map_cons, List.sum_cons, List.length_cons, Nat.mul_add, Nat.mul_one]
    omega
theorem text_len {t : Tr} (ok : t.ok) (lv : t.pn.lv ≤ 20) (sz : t.names.length ≤ 200) : (Txt.join "\n" (linesT 0 t)).length ≤ 40000 := by
  rw [join_eq]
  refine Nat.le_trans (StrLaws.join_length_le _ _) ?_
  have a := sum_le (n := 190) (xs := linesT 0 t) fun x hx => by
    obtain ⟨q, hq, rfl⟩ := List.mem_map.mp hx
    obtain ⟨o, _, c⟩ := pre_ok 0 t ok q hq
    have e := line_len (d := q.1) (by omega) q.2
    have := body_len o
    omega
  have l : (linesT 0 t).length = t.names.length := by unfold linesT; rw [List.length_map, pre_len]
  have c : ("\n" : Str).length = 1 := by decide +kernel
  rw [l] at a ⊢
  rw [c]
  omega
end K08
/-! _number_of, _deadline_of, _depth_of -/
namespace K08
open PySem PySem.Spec PyProof.Rows L2 TL
theorem numL_zero {n : Nat} : ∀ {c : Nat} {r : List Nat}, numL n = c :: r → c = 48 → r = [] := by
  induction n using Nat.strongRecOn with
  | _ n ih =>
    intro c r e h
    by_cases h10 : n < 10
    · rw [numL_lt h10] at e
      injection e with e1 e2
      exact e2.symm
    · rw [numL_step (by omega)] at e
      obtain ⟨c', r', e'⟩ : ∃ c' r', numL (n / 10) = c' :: r' := by
        cases q : numL (n / 10) with
        | nil => exact absurd q (numL_ne _)
        | cons a b => exact ⟨a, b, rfl⟩
      rw [e', List.cons_append] at e
      injection e with e1 e2
      have z := ih (n / 10) (by omega) e' (by omega)
      subst z
      have v := numL_val (n / 10)
      rw [e', e1, h] at v
      have : n / 10 = 0 := by rw [← v]; rfl
      omega
section
variable {P : Program} {w : World} {K : PySem.W.Frag} {mg : Str → Option Value} {base : Heap}
abbrev s_number_of : Stmt := (top 91)
def N_number_of : List Str := ["word", "sign"]
theorem sc_number_of : FnScope N_number_of ["word"] (defScope s_number_of) := ⟨rfl, rfl, rfl, by decide +kernel, rfl, by decide +kernel, by decide +kernel⟩
abbrev s_deadline_of : Stmt := (top 92)
def N_deadline_of : List Str := ["word"]
theorem sc_deadline_of : FnScope N_deadline_of ["word"] (defScope s_deadline_of) := ⟨rfl, rfl, rfl, by decide +kernel, rfl, by decide +kernel, by decide +kernel⟩
abbrev s_depth_of : Stmt := (top 87)
def N_depth_of : List Str := ["spaces"]
theorem sc_depth_of : FnScope N_depth_of ["spaces"] (defScope s_depth_of) := ⟨rfl, rfl, rfl, by decide +kernel, rfl, by decide +kernel, by decide +kernel⟩
def spNum (K : PySem.W.Frag) : Sp := fun vs H Q _ => ∃ i : Int, vs = [.str (numT i)] ∧ 0 ≤ i ∧ i ≤ 1000000000 ∧ ∀ H', Same H H' → Q (.int i) H'
theorem ok_number_of (F : Has K mg "_number_of" s_number_of) (T : Txt K mg) : FnQ P w K mg base CX0 1 "_number_of" ["word"] (spNum K) := by
  refine F.q sc_number_of (fun _ _ _ _ _ _ us hl => match us, hl with | [_], _ => rfl) (fun vs H Q E h => by obtain ⟨_, rfl, _⟩ := h; rfl) (fun cdv A outer s H vs Q E hr h => ?_)
  obtain ⟨i, rfl, h0, h1, k⟩ := h
  have gL : mg "len" = none := T.fr _ (by simp [frees])
  refine ⟨_, PSs.nox (pss_cons (ps_if (pw_or (pt_not (pt_chain op_le op_le pe_int (pe_callB call_len_str (by rfl) gL boot_len (pa_cons (pv 0) pa_nil)) (C8.pe_gc (by rfl) T.c_MOST_DIGITS))) (pw_or1 (pt_val (pe_callB (cr_any rfl) (by rfl) (T.fr "any" (by simp [frees])) boot_any (pa_cons (pe_lc (own := [("sign", 1)]) (tt := tYes) rfl sc_number_of.nd (pi_str (pv 0)) (blkOk_by (N := N_number_of) (sc := defScope s_number_of) (by decide +kernel)) (fun _ _ _ _ _ => (pg_name (i := 1) sc_number_of.nd rfl (by first | exact .inl rfl | exact .inr rfl))) (fun _ _ _ _ _ => pts_nil) (fun _ _ _ _ _ => (pe_cmpR op_notIn_sign (pv 1) (C8.pe_gc (by rfl) T.c_DIGITS) (by first | exact nomark _ | rfl)))) pa_nil))))).pt
  (pss_one (ps_ret (C8.pe_gc (by rfl) T.c_NO_NUMBER)))
  pss_nil)
  (pss_cons (ps_if (pw_and (pt_cmpR op_eq (pe_item_str (pv 0) pe_int (fun _ _ => rfl)) pe_str (by first | exact nomark _ | rfl)) (pw_and1 (pt_cmpR op_gt (pe_callB call_len_str (by rfl) gL boot_len (pa_cons (pv 0) pa_nil)) pe_int (by first | exact nomark _ | rfl)))).pt
  (pss_one (ps_ret (C8.pe_gc (by rfl) T.c_NO_NUMBER)))
  pss_nil)
  (pss_one (ps_ret (pe_callTy call_int_str (by rfl) (T.fr "int" (by simp [frees])) PyProof.Rows.boot_int (pa_cons (pv 0) pa_nil)))))), ?_⟩
  obtain ⟨⟨wd, l20⟩, l10⟩ := num_wd h0 h1
  have ln : (numT i).length = (numL i.toNat).length := by rw [len_tl, num_tl h0]
  have l1 : 1 ≤ (numT i).length := by
    rw [ln]
    have := numL_ne i.toNat
    exact Nat.pos_of_ne_zero fun z => this (List.length_eq_zero_iff.mp z)
  have sz : (numT i).length ≤ sizeLine := Nat.le_trans l20 (by decide)
  have dig : ∀ c ∈ tl (numT i), c ∈ tl ("0123456789" : Str) := fun c hc => by
    rw [num_tl h0] at hc
    have r := numL_digits _ c hc
    have all : ∀ c, c < 58 → 48 ≤ c → c ∈ tl ("0123456789" : Str) := by decide +kernel
    exact all c (by omega) (by omega)
  refine ⟨_, rfl, numT i, rfl, sz, _, _, rfl, rfl, _, rfl, if_yes (decide_eq_true (by omega)) ⟨_, _, rfl, rfl, _, rfl, if_no (by simp; omega) ?_⟩⟩
  refine ⟨_, rfl, numT i, rfl, comp_val walk_str (f := fun _ => .bl false) (small1000 (show (numT i).cps.size ≤ 1000 from Nat.le_trans l20 (by decide))) (fun _ _ => True.intro) (fun i H x H' y b o e => by rw [y.1]; exact e) ?_ ?_⟩
  · rintro j v H1 H2 R hi s1 ⟨rfl, c, hc2, rfl⟩ r
    have m : c ∈ tl (numT i) := Array.mem_toList_iff.mpr (Array.mem_of_getElem? hc2)
    have z := r H2 (Same.refl H2)
    refine ⟨rfl, _, rfl, c, "0123456789", rfl, rfl, ?_⟩
    rw [decide_eq_true (dig c m)]
    exact z
  · intro p H' s1 n1 e1
    have em : (List.range (numT i).cps.size).map (fun _ => V.bl false) = (List.replicate (numT i).cps.size false).map V.bl := by
      rw [List.map_replicate, List.map_const', List.length_range]
    rw [em] at e1
    refine ⟨p, _, rfl, SqL.of e1, _, rfl, if_no ?_ ?_⟩
    · have : (List.replicate (numT i).cps.size false).any id = false := by
        rw [List.any_eq_false]
        intro b hb
        rw [List.eq_of_mem_replicate hb]
        exact Bool.false_ne_true
      exact this
    obtain ⟨c, r, ec⟩ : ∃ c r, tl (numT i) = c :: r := by
      rw [num_tl h0]
      cases q : numL i.toNat with
      | nil => exact absurd q (numL_ne _)
      | cons a b => exact ⟨a, b, rfl⟩
    have hc : (numT i).cps[0]? = some c := by
      have z : (tl (numT i))[0]? = some c := by rw [ec]; rfl
      rw [Array.getElem?_toList] at z
      exact z
    have fin : ∀ H', Same H H' → intText? (numT i) = some i := fun _ _ => by
      have z := int_num (n := i.toNat) (by rw [← ln]; omega)
      have e : ((i.toNat : Nat) : Int) = i := by omega
      rw [e] at z
      exact z
    refine ⟨_, rfl, numT i, 0, c, rfl, rfl, by decide, by decide, by omega, hc, rfl, _, rfl, ?_⟩
    by_cases c0 : V.str ⟨#[c]⟩ = V.str "0"
    · refine if_yes (decide_eq_true c0) ⟨_, rfl, numT i, rfl, sz, _, _, rfl, rfl, _, rfl, if_no ?_ ?_⟩
      · have e0 : c = 48 := by
          injection c0 with c0
          have z := congrArg tl c0
          have z0 : tl ("0" : Str) = [48] := by decide +kernel
          rw [z0] at z
          have z : [c] = [48] := z
          injection z
        have r0 : r = [] := by
          rw [num_tl h0] at ec
          exact numL_zero ec e0
        have : (numT i).length = 1 := by rw [len_tl, ec, r0]; rfl
        rw [this]; rfl
      · exact ⟨_, rfl, numT i, i, rfl, fin H' s1, by omega, k H' s1⟩
    · exact if_no (decide_eq_false c0) ⟨_, rfl, numT i, i, rfl, fin H' s1, by omega, k H' s1⟩
def spDl (K : PySem.W.Frag) : Sp := fun vs H Q _ => ∃ v : V, vs = [.str (dlT v)] ∧ DlOk v ∧ ∀ H', Same H H' → Q v H'
theorem ok_deadline_of (F : Has K mg "_deadline_of" s_deadline_of) (T : Txt K mg) (F_number_of : FnQ P w K mg base CX0 1 "_number_of" ["word"] (spNum K)) : FnQ P w K mg base CX0 2 "_deadline_of" ["word"] (spDl K) := by
  refine F.q sc_deadline_of (fun _ _ _ _ _ _ us hl => match us, hl with | [_], _ => rfl) (fun vs H Q E h => by obtain ⟨_, rfl, _⟩ := h; rfl) (fun cdv A outer s H vs Q E hr h => ?_)
  obtain ⟨v, rfl, hv, k⟩ := h
  refine ⟨_, PSs.nox (pss_one (ps_ret (pe_ifExp (pt_cmpR op_eq (pv 0) pe_str (by first | exact nomark _ | rfl)) pe_non (pe_f F_number_of hr pass0 (pa_cons (pv 0) pa_nil))))), ?_⟩
  rcases hv with rfl | ⟨i, rfl, h0, h1⟩
  · exact ⟨_, rfl, rfl, _, rfl, if_yes (decide_eq_true rfl) (k H (Same.refl H))⟩
  · refine ⟨_, rfl, rfl, _, rfl, if_no (decide_eq_false fun z => ?_) ⟨_, rfl, i, rfl, h0, h1, k⟩⟩
    injection z with z
    have z := congrArg tl z
    rw [show dlT (.int i) = numT i from rfl, num_tl h0] at z
    have z0 : tl ("-" : Str) = [45] := by decide +kernel
    rw [z0] at z
    have r := numL_digits i.toNat 45 (by rw [z]; exact List.mem_singleton.mpr rfl)
    omega
def spDep (K : PySem.W.Frag) : Sp := fun vs H Q _ => ∃ d : Nat, vs = [.int ((2 * d : Nat) : Int)] ∧ Q (.int (d : Nat)) H
theorem ok_depth_of (F : Has K mg "_depth_of" s_depth_of) (T : Txt K mg) : FnQ P w K mg base CX0 1 "_depth_of" ["spaces"] (spDep K) := by
  refine F.q sc_depth_of (fun _ _ _ _ _ _ us hl => match us, hl with | [_], _ => rfl) (fun vs H Q E h => by obtain ⟨_, rfl, _⟩ := h; rfl) (fun cdv A outer s H vs Q E hr h => ?_)
  obtain ⟨d, rfl, k⟩ := h
  refine ⟨_, PSs.nox (pss_one (ps_ret (pe_ifExp (pt_cmpR op_eq (pe_op op_mod (pv 0) pe_int) pe_int (by first | exact nomark _ | rfl)) (pe_op op_fdiv (pv 0) pe_int) pe_non))), ?_⟩
  have e1 : ((2 * d : Nat) : Int) % 2 = 0 := by omega
  have e2 : ((2 * d : Nat) : Int) / 2 = (d : Nat) := by omega
  refine ⟨_, rfl, _, _, rfl, rfl, (show (0 : Int) < 2 by decide), rfl, _, rfl, if_yes (decide_eq_true (congrArg V.int e1)) ⟨_, rfl, _, _, rfl, rfl, ⟨by decide, by decide⟩, ?_⟩⟩
  show Q (V.int (((2 * d : Nat) : Int) / 2)) H
  rw [e2]; exact k
end
end K08
/-! try .. except (A, B) as n: .. where the error is kept: it is tracked behind the suite -/
namespace L2
open PySem PySem.Spec PyProof.Rows
/-- an error that was caught: its class, its dict -/
def ExK (cls : Value) (d : Option Addr) (a : Addr) : HO := .ext fun h => ∃ oe vs, h.get? a = some oe ∧ Zc cls d oe ∧ oe.data = .fields vs
theorem exK_ok {P : Program} {w : World} {H : Hp} {h : Heap} {a : Addr} {cls : Value} {d : Option Addr} {oe : Obj} (at_ : h.get? a = some oe) (z : Zc cls d oe) (f : ∃ vs, oe.data = .fields vs) : ObjOk P w H h a (ExK cls d a) := by
  obtain ⟨vs, f⟩ := f
  exact ⟨⟨oe, vs, at_, z, f⟩, ⟨oe, at_⟩, fun _ _ ⟨o2, v2, e, z2, f2⟩ k => ⟨o2, v2, k _ e, z2, f2⟩⟩
theorem FlyingZ.more {B h h2 : Heap} {l : List Env} {a : Addr} {Z : Obj → Prop} (x : HandSPX.FlyingZ B l a Z h) (k : ∀ b o, h.get? b = some o → h2.get? b = some o) : HandSPX.FlyingZ B l a Z h2 := by
  obtain ⟨f1, f2, f3, oe, vs, T, oT, ts, e1, e2, e3, e4, e5, e6, e7, e8, e9⟩ := x
  exact ⟨fun b o e => k b o (f1 b o e), f2, f3.of_keeps fun b o e _ => ⟨o, k b o e, rfl⟩, oe, vs, T, oT, ts, k _ _ e1, e2, e3, e4, e5, e6, k _ _ e7, e8, e9⟩
section
variable {X : Cx} {pins : List (Addr × Obj)} {σ : St} {H : Hp} {s : Shared}
/-- an object that came in since the entry is tracked from now on -/
theorem Inv.track {a : Addr} {o : HO} (I : Inv X pins σ H s) (na : H a = none) (n0 : X.s_0.heap.get? a = none) (nL : a ≠ X.env.locals) (nC : ∀ x c, X.env.cells.lookup x = some c → c ≠ a) (nP : ∀ p ∈ X.pn ++ pins, p.1 ≠ a) (new : ObjOk X.prog X.w (upd H a o) s.heap a o) : Inv X pins σ (upd H a o) s := by
  have keep : ∀ {b : Addr} {u : HO}, H b = some u → upd H a o b = some u := fun {b u} e => by rw [upd_ne (ne_of_none e na)]; exact e
  refine ⟨I.ok, I.os, I.bare, ⟨I.base.keep, I.base.slot, fun b u e n x => ?_, I.base.there, fun b xs e => keep (I.base.tups b xs e), fun b ob u e => keep (I.base.frzs b ob u e), fun b ps e => ?_⟩, I.loc, I.cell, ?_, fun x c e => ?_, fun p hp => ?_, HOk.laidN I.hok (fun _ _ e => e) na new, I.len⟩
  · rw [upd_ne (fun z => by rw [z, n0] at e; cases e)]
    exact I.base.free b u e n x
  · obtain ⟨more, q⟩ := I.base.tbls b ps e
    exact ⟨more, keep q⟩
  · rw [upd_ne nL.symm]
    exact I.free
  · rw [upd_ne (nC x c e)]
    exact I.freeC x c e
  · obtain ⟨q1, q2, q3⟩ := I.pin p hp
    exact ⟨q1, by rw [upd_ne (nP p hp)]; exact q2, q3⟩
end
/-- what «except (c1, c2) as n» wishes, the error tracked behind the suite -/
def wKeep (K : PySem.W.Frag) (cs : List Value) (i : Nat) (ts : Addr → Value → Option Addr → TS) (Wout : WX) (D : Ends) : WX := fun cls d σ H =>
  ∃ b, PySem.W.exmAny K cls cs = some b ∧ (b = true → ∀ a, H a = none → ts a cls d { nx := fun σ' H' => D.nx (σ'.set i none) (upd H' a (ExK cls d a)), rt := fun v H' => D.rt v (upd H' a (ExK cls d a)), bk := fun σ' H' => D.bk (σ'.set i none) (upd H' a (ExK cls d a)), ct := fun σ' H' => D.ct (σ'.set i none) (upd H' a (ExK cls d a)) } (σ.set i (some (.ref a))) H) ∧
    (b = false → Wout cls d σ H)
/-- a test by clauses: t reads to something that matches by the classes cs -/
def TestBy (X : Cx) (t : Expr) (cs : List Value) : Prop := ∀ (a : Addr) (oe : Obj) (pn : List (Addr × Obj)) (σ : St) (H : Hp) (s : Shared) (cls : Value) (b : Bool) (R : Bool → Shared → Prop) (E : Value → Shared → Prop), Inv (X.suite a ((a, oe) :: pn)) [] σ H s → s.heap.get? a = some oe → oe.cls = cls →
  PySem.W.exmAny X.K cls cs = some b → (∀ s2, (∀ c o, s.heap.get? c = some o → s2.heap.get? c = some o) → s2.gens = s.gens → s2.os = s.os → R b s2) →
  wpAny (model X.prog X.w) (X.A.mark (some (.ref a))) (eval t X.env) (fun c s1 => wpAny (model X.prog X.w) (X.A.mark (some (.ref a))) (excMatches (.ref a) c) R E s1) E s
section
variable {X : Cx}
theorem test_pair {x1 x2 : Str} {p1 p2 tp : Pos} {k : Nat} {c1 c2 : Value} (h1 : Names X x1 c1) (h2 : Names X x2 c2) : TestBy X (.Tuple [.Name x1 p1, .Name x2 p2] k tp) [c1, c2] := by
  intro a oe pn σ H s cls b R E S at_ ec hb fin
  have one : ∀ {x : Str} {c : Value} {p : Pos} {Q : Value → Shared → Prop} {E : Value → Shared → Prop}, Names X x c → Q c s → wpAny (model X.prog X.w) (X.A.mark (some (.ref a))) (eval (.Name x p) X.env) Q E s := fun {x c p Q E} hc q => by
    obtain ⟨hg, hd, hm | ⟨hm, hv, hn⟩⟩ := hc
    · exact ld_glob (X := X.suite a ((a, oe) :: pn)) S hg hm q hd
    · exact ld_blt (X := X.suite a ((a, oe) :: pn)) S hg hm hv q hn hd
  refine wpAny_Tuple_spliced ?_
  refine Calls.spliced_cons (one h1 (Calls.spliced_cons (one h2 (Calls.spliced_nil ⟨(by show 2 ≤ sizeLine; decide), ?_⟩))))
  have up : ∀ c o, s.heap.get? c = some o → (s.heap.push { cls := .type "tuple", data := .seq [c1, c2].toArray }).get? c = some o := fun c o e => Heap.get?_push_of_some _ e
  have LT : PySem.W.Looks (model X.prog X.w) (s.heap.push { cls := .type "tuple", data := .seq [c1, c2].toArray }) (typeOf (.ref a)) cls := fun A Q E s k q => wpAny_typeOf_ref (k _ _ (up _ _ at_)) (by rw [ec]; exact q)
  have kin : X.K.In (s.heap.push { cls := .type "tuple", data := .seq [c1, c2].toArray }) := S.kIn.keeps up
  exact (PySem.W.exm_tup2 kin LT (Heap.get?_push_size _ rfl) hb).here (fin _ up rfl rfl)
theorem test_one {x : Str} {p : Pos} {c : Value} (h : Names X x c) (h1 : ∀ cls b, PySem.W.exmAny X.K cls [c] = some b → PySem.W.exmOne X.K cls c = some b) : TestBy X (.Name x p) [c] := by
  intro a oe pn σ H s cls b R E S at_ ec hb fin
  have LT : PySem.W.Looks (model X.prog X.w) s.heap (typeOf (.ref a)) cls := fun A Q E s k q => wpAny_typeOf_ref (k _ _ at_) (by rw [ec]; exact q)
  have q := (PySem.W.exm_one (M := model X.prog X.w) S.kIn LT (h1 cls b hb)).here (A := X.A.mark (some (.ref a))) (E := E) (fin s (fun _ _ e => e) rfl rfl)
  obtain ⟨hg, hd, hm | ⟨hm, hv, hn⟩⟩ := h
  · exact ld_glob (X := X.suite a ((a, oe) :: pn)) S hg hm q hd
  · exact ld_blt (X := X.suite a ((a, oe) :: pn)) S hg hm hv q hn hd
variable {n : Str} {t : Expr} {cs : List Value} {i : Nat} {body suite : List Stmt} {b₀ : Stmt} {pos pos2 : Pos} {tb : WX → TS} {ts : Addr → Value → Option Addr → TS} {Wout : WX}
theorem ps_try_keep (stk : X.stack = X.env :: X.outer) (frm : X.env.frame = some X.env.locals) (noex : X.ex = []) (hN : X.N.Nodup) (hi : X.N[i]? = some n) (loc : X.env.kindOf n = some .local) (ht : TestBy X t cs) (tk : Takes X Wout)
    (hb : ∀ (W : WX) (pn : List (Addr × Obj)) (xe : Value → Shared → Prop), Takes (X.tr pn xe) W → PassesOwn (model X.prog X.w) X.A X.env xe → PSs (X.tr pn xe) body (tb W))
    (hsu : ∀ (a : Addr) (oe : Obj) (cls : Value) (d : Option Addr) (pn : List (Addr × Obj)), Zc cls d oe → (∃ vs, oe.data = .fields vs) → PSs (X.suite a ((a, oe) :: pn)) (b₀ :: suite) (ts a cls d)) :
    PS X (.Try body [.ExceptHandler (some t) (some n) (b₀ :: suite) pos2] [] [] pos) (fun D σ H => tb (wKeep X.K cs i ts Wout D) D σ H) := by
  refine ⟨fun pins s σ H D I h => ?_⟩
  have ok := I.ok
  have frames : X.A.frames = some (X.env :: X.outer) := by rw [ok.frames, stk]
  have isLoc : Loc X.env.scope n := .inl loc
  refine wpAny_Try_except ?_
  refine wpAny_mono ((hb (wKeep X.K cs i ts Wout D) (X.pn ++ pins) (fun e s₁ => wpAny (model X.prog X.w) X.A (noteFrame e X.env) (fun _ s₂ => wpAny (model X.prog X.w) X.A (setFlight e none) (fun _ s₃ =>
    wpAny (model X.prog X.w) X.A (handleBy e X.env [.ExceptHandler (some t) (some n) (b₀ :: suite) pos2]) (SP X pins D) X.xe s₃) X.xe s₂) X.xe s₁) (fun u sE air => ?_) PassesOwn.looking).run [] s σ H D (I.toTry _) h) (fun f s1 q => ?_) (fun e s1 he => he)
  · obtain ⟨a, B, sI, pins', σ', H', cls, d, rfl, J', ground, up, sky, na, os, ag, b, hb1, yes, no⟩ := air
    have J : Inv X pins σ' H' sI := J'.ofTry ok
    have sky' : Sky B (X.env :: X.outer) a (Zc cls d) X.env.locals sE.heap := by rw [← stk]; exact sky
    show wpAny (model X.prog X.w) X.A (noteFrame (.ref a) X.env) _ _ _
    refine Sky.land Zc.steady frames frm sky' fun hF fl up2 => ?_
    have JF : Inv X pins σ' H' { sE with heap := hF } := J.landed ground fl.1 (up.trans up2) os ag
    obtain ⟨oF, vF, atF, zF, dF⟩ := fl.there
    have notFrame : ∀ {h : Heap} {o : Obj} {vs : Array Value}, h.FunFrames B (X.env :: X.outer) → h.get? a = some o → o.data = .fields vs → a ∉ frs (X.env :: X.outer) := fun {h o vs} ff e dd hm => by
      obtain ⟨_, o2, e2, nf⟩ := ff.mem hm
      rw [e] at e2
      cases e2
      exact nf _ dd
    have nfr := notFrame fl.2.2.1 atF dF
    have nL : a ≠ X.env.locals := fun z => nfr (List.mem_filterMap.mpr ⟨X.env, List.mem_cons_self, by rw [frm, z]⟩)
    have nF : a ∉ X.fs := fun hm => by
      obtain ⟨e, he, q⟩ := List.mem_filterMap.mp hm
      exact nfr (List.mem_filterMap.mpr ⟨e, List.mem_cons_of_mem _ he, q⟩)
    -- it came in since the entry
    have nI : sI.heap.get? a = none := by
      cases q : sI.heap.get? a with
      | none => rfl
      | some o =>
        have z := ground a o q (by rw [stk]; exact nfr)
        rw [fl.2.1] at z
        cases z
    have n0 : X.s_0.heap.get? a = none := by
      cases q : X.s_0.heap.get? a with
      | none => rfl
      | some o =>
        obtain ⟨o2, z⟩ := J.base.there a o q (by rw [noex]; exact fun z => nomatch z)
        rw [nI] at z
        cases z
    have nC : ∀ x c, X.env.cells.lookup x = some c → c ≠ a := fun x c e z => by
      obtain ⟨v, o, q, _⟩ := J.cell x c e
      rw [z, nI] at q
      cases q
    have nP : ∀ p ∈ X.pn ++ pins, p.1 ≠ a := fun p hp z => by
      have q := (J.pin p hp).1
      rw [z, nI] at q
      cases q
    have SF := JF.suite atF dF na nL nF
    refine wpAny_handleBy_cons (codeAny_handlers_test ?_) (by intro q; cases q)
    refine ht a oF (X.pn ++ pins) σ' H' { sE with heap := hF } cls b _ _ SF atF zF.1 hb1 fun sG keep gG oG => ?_
    have flG : HandSPX.FlyingZ B (X.env :: X.outer) a (Zc cls d) sG.heap := FlyingZ.more fl keep
    have upG : hF.UpToSlots sG.heap := (Heap.UpToSlots.of_keeps keep)
    have osG : sG.os = sI.os := oG.trans os
    have agG : AllBare sG.gens := by rw [gG]; exact ag
    obtain ⟨hG, gensG, drawG, tokG, oSG⟩ := sG
    cases b with
    | true =>
      refine codeAny_handlers_suite_as ?_
      refine HandSPX.lands_againZ flG fun h4 fl4 up4 => ?_
      have J4 : Inv X pins σ' H' { heap := h4, gens := gensG, drawn := drawG, toks := tokG, os := oSG } := J.landed ground fl4.1 (((up.trans up2).trans upG).trans up4) osG agG
      obtain ⟨oe4, vs4, he4, hz4, hd4⟩ := fl4.there
      have S4 := J4.suite he4 hd4 na nL nF
      refine store_ok (X := X.suite a ((a, oe4) :: (X.pn ++ pins))) (v := .ref a) S4 hN hi isLoc rfl (fun s5 S5 => ?_) (.inr loc)
      refine wpAny_mono ((hsu a oe4 cls d (X.pn ++ pins) hz4 ⟨_, hd4⟩).run [] s5 _ H' _ S5 (yes rfl a na)) (fun f s6 hsp => ?_) (fun _ _ z => False.elim z)
      have end_ : ∀ {σ6 : St} {H6 : Hp} {Q : Shared → Prop}, Inv (X.suite a ((a, oe4) :: (X.pn ++ pins))) [] σ6 H6 s6 → (∀ s7, Inv X pins (σ6.set i none) (upd H6 a (ExK cls d a)) s7 → Q s7) →
          wpAny (model X.prog X.w) X.A (do bindName X.env n .none; unbindBehindTheSuite X.env n pos2) (fun _ s7 => Q s7) X.xe s6 := fun {σ6 H6 Q} S6 hq => by
        obtain ⟨p1, p2, _⟩ := S6.pin (a, oe4) (List.mem_append_left _ List.mem_cons_self)
        exact gone_ok (Inv.track (S6.unsuite ok) p2 n0 nL nC nP (exK_ok p1 hz4 ⟨_, hd4⟩)) hN hi loc hq
      cases f with
      | next =>
        obtain ⟨σ6, H6, S6, q6⟩ := hsp
        exact end_ S6 fun s7 J7 => ⟨_, _, J7, q6⟩
      | brk =>
        obtain ⟨σ6, H6, S6, q6⟩ := hsp
        exact end_ S6 fun s7 J7 => ⟨_, _, J7, q6⟩
      | cont =>
        obtain ⟨σ6, H6, S6, q6⟩ := hsp
        exact end_ S6 fun s7 J7 => ⟨_, _, J7, q6⟩
      | ret u =>
        obtain ⟨v6, σ6, H6, S6, r6, q6⟩ := hsp
        exact end_ S6 fun s7 J7 => ⟨_, _, _, J7, r6, q6⟩
    | false =>
      show wpAny _ X.A (handleBy (.ref a) X.env []) _ _ _
      refine wpAny_handleBy_nil ?_
      obtain ⟨k1, k2, k3, oe, vs, T, oT, ts', he, hz, hd, h1, hr⟩ := id flG
      unfold PySem.passOn
      refine wpAny_bind (wpAny_field he hd h1 ?_)
      rw [if_neg (show ¬ ((Value.ref T == Value.none) = true) from by simp)]
      have fin : wpAny (model X.prog X.w) X.A (setFlight (.ref a) X.env.frame) (fun _ s4 => wpAny (model X.prog X.w) X.A (throw (.ref a) : Sem Flow) (SP X pins D) X.xe s4) X.xe { heap := hG, gens := gensG, drawn := drawG, toks := tokG, os := oSG } := by
        rw [frm]
        refine HandSPX.setFlight_upZ flG fun h4 hh4 up4 => wpAny_throw (tk _ _ ?_)
        exact ⟨a, B, sI, pins, σ', H', cls, d, rfl, J, ground, ((up.trans up2).trans upG).trans up4, .inr (.inr (by rw [stk]; exact hh4)), na, osG, agG, no rfl⟩
      first
        | exact wpAny_bind (wpAny_pure (wpAny_bind fin))
        | exact wpAny_bind fin
  · cases f with
    | next =>
      obtain ⟨σ', H', J', q⟩ := q
      exact wpAny_execs_nil ⟨σ', H', J'.ofTry ok, q⟩
    | brk =>
      obtain ⟨σ', H', J', q⟩ := q
      exact ⟨σ', H', J'.ofTry ok, q⟩
    | cont =>
      obtain ⟨σ', H', J', q⟩ := q
      exact ⟨σ', H', J'.ofTry ok, q⟩
    | ret u =>
      obtain ⟨v, σ', H', J', r, q⟩ := q
      exact ⟨v, σ', H', J'.ofTry ok, r, q⟩
end
end L2
/-! try .. except X as n: .. except Y as n: .. (and clauses behind that no error reaches) -/
namespace L2
open PySem PySem.Spec PyProof.Rows
/-- what «except c1 as n: .. except c2 as n: ..» wishes: one of them takes the error -/
def wAsN (K : PySem.W.Frag) (i : Nat) (D : Ends) : List (Value × (Addr → Value → Option Addr → TS)) → WX
  | [] => fun _ _ _ _ => False
  | (c, ts) :: r => fun cls d σ H => ∃ b, PySem.W.exmOne K cls c = some b ∧
    (b = true → ∀ a, H a = none → ts a cls d { nx := fun σ' H' => D.nx (σ'.set i none) H', rt := D.rt, bk := fun σ' H' => D.bk (σ'.set i none) H', ct := fun σ' H' => D.ct (σ'.set i none) H' } (σ.set i (some (.ref a))) H) ∧
    (b = false → wAsN K i D r cls d σ H)
inductive AsOk (X : Cx) (n : Str) : List ExceptHandler → List (Value × (Addr → Value → Option Addr → TS)) → Prop
  | nil {hds : List ExceptHandler} : AsOk X n hds []
  | cons {x : Str} {c : Value} {ts : Addr → Value → Option Addr → TS} {b₀ : Stmt} {suite : List Stmt} {np pos' : Pos} {hds : List ExceptHandler} {l : List (Value × (Addr → Value → Option Addr → TS))} (hc : Names X x c)
      (hsu : ∀ (a : Addr) (oe : Obj) (cls : Value) (d : Option Addr) (pn : List (Addr × Obj)), Zc cls d oe → (∃ vs, oe.data = .fields vs) → PSs (X.suite a ((a, oe) :: pn)) (b₀ :: suite) (ts a cls d)) (r : AsOk X n hds l) :
      AsOk X n (.ExceptHandler (some (.Name x np)) (some n) (b₀ :: suite) pos' :: hds) ((c, ts) :: l)
section
variable {X : Cx} {n : Str} {i : Nat} {body : List Stmt} {h₀ : ExceptHandler} {hds : List ExceptHandler} {l : List (Value × (Addr → Value → Option Addr → TS))} {pos : Pos} {tb : WX → TS}
theorem ps_try_asN (hs : X.stack = X.env :: X.outer) (hf : X.env.frame = some X.env.locals) (hN : X.N.Nodup) (hi : X.N[i]? = some n) (hln : X.env.kindOf n = some .local)
    (hb : ∀ (W : WX) (pn : List (Addr × Obj)) (xe : Value → Shared → Prop), Takes (X.tr pn xe) W → PassesOwn (model X.prog X.w) X.A X.env xe → PSs (X.tr pn xe) body (tb W))
    (hh : AsOk X n (h₀ :: hds) l) : PS X (.Try body (h₀ :: hds) [] [] pos) (fun D σ H => tb (wAsN X.K i D l) D σ H) := by
  refine ⟨fun pins s σ H D I h => ?_⟩
  have ok := I.ok
  have hfr : X.A.frames = some (X.env :: X.outer) := by rw [ok.frames, hs]
  have hloc : Loc X.env.scope n := .inl hln
  refine wpAny_Try_except ?_
  refine wpAny_mono ((hb (wAsN X.K i D l) (X.pn ++ pins) (fun e s₁ => wpAny (model X.prog X.w) X.A (noteFrame e X.env) (fun _ s₂ => wpAny (model X.prog X.w) X.A (setFlight e none) (fun _ s₃ =>
    wpAny (model X.prog X.w) X.A (handleBy e X.env (h₀ :: hds)) (SP X pins D) X.xe s₃) X.xe s₂) X.xe s₁) (fun u s' xx => ?_) PassesOwn.looking).run [] s σ H D (I.toTry _) h) (fun f s1 hsp => ?_) (fun e s1 he => he)
  · -- the catch
    obtain ⟨a, B, sI, pins', σ', H', cls, d, rfl, J', nb, up, sky, na, os, ag, w⟩ := xx
    have J : Inv X pins σ' H' sI := J'.ofTry ok
    have sky' : Sky B (X.env :: X.outer) a (Zc cls d) X.env.locals s'.heap := by rw [← hs]; exact sky
    show wpAny (model X.prog X.w) X.A (noteFrame (.ref a) X.env) _ _ _
    refine Sky.land Zc.steady hfr hf sky' fun h3 fl3 up3 => ?_
    have J3 : Inv X pins σ' H' { s' with heap := h3 } := J.landed nb fl3.1 (up.trans up3) os ag
    obtain ⟨oe3, vs3, he3, hz3, hd3⟩ := fl3.there
    have notFr : ∀ {h : Heap} {o : Obj} {vs : Array Value}, h.FunFrames B (X.env :: X.outer) → h.get? a = some o → o.data = .fields vs → a ∉ frs (X.env :: X.outer) := fun {h o vs} ff e dd hm => by
      obtain ⟨_, o', e', hnf⟩ := ff.mem hm
      rw [e] at e'; cases e'
      exact hnf _ dd
    have nfr := notFr fl3.2.2.1 he3 hd3
    have nL : a ≠ X.env.locals := fun z => nfr (List.mem_filterMap.mpr ⟨X.env, List.mem_cons_self, by rw [hf, z]⟩)
    have nF : a ∉ X.fs := fun hm => by
      obtain ⟨e, he, q⟩ := List.mem_filterMap.mp hm
      exact nfr (List.mem_filterMap.mpr ⟨e, List.mem_cons_of_mem _ he, q⟩)
    have S3 := J3.suite he3 hd3 na nL nF
    have go : ∀ {hds' : List ExceptHandler} {l' : List (Value × (Addr → Value → Option Addr → TS))}, AsOk X n hds' l' → wAsN X.K i D l' cls d σ' H' →
        wpAny (model X.prog X.w) X.A (handleBy (.ref a) X.env hds') (SP X pins D) X.xe { s' with heap := h3 } := by
      intro hds' l' hk
      induction hk with
      | nil =>
        intro w
        exact w.elim
      | @cons x c ts b₀ suite np pos' hds2 l2 hc hsu r ih =>
        intro w
        obtain ⟨b, hb1, hyes, hno⟩ := w
        refine wpAny_handleBy_cons (codeAny_handlers_test ?_) (by intro q; cases q)
        have LT : PySem.W.Looks (model X.prog X.w) h3 (typeOf (.ref a)) cls := fun A Q E s k q => wpAny_typeOf_ref (k _ _ he3) (by rw [hz3.1]; exact q)
        have LM := PySem.W.exm_one (M := model X.prog X.w) (J3.kIn) LT hb1
        have test : ∀ {Q : Value → Shared → Prop} {E : Value → Shared → Prop}, Q c { s' with heap := h3 } → wpAny (model X.prog X.w) (X.A.mark (some (.ref a))) (eval (.Name x np) X.env) Q E { s' with heap := h3 } := fun {Q E} q => by
          obtain ⟨hg, hdbg, hm | ⟨hm, hv, hnn⟩⟩ := hc
          · exact ld_glob (X := X.suite a ((a, oe3) :: (X.pn ++ pins))) S3 hg hm q hdbg
          · exact ld_blt (X := X.suite a ((a, oe3) :: (X.pn ++ pins))) S3 hg hm hv q hnn hdbg
        refine test (LM.here ?_)
        cases b with
        | true =>
          refine codeAny_handlers_suite_as ?_
          refine HandSPX.lands_againZ fl3 fun h4 fl4 up4 => ?_
          have J4 : Inv X pins σ' H' { s' with heap := h4 } := J.landed nb fl4.1 ((up.trans up3).trans up4) os ag
          obtain ⟨oe4, vs4, he4, hz4, hd4⟩ := fl4.there
          have S4 := J4.suite he4 hd4 na nL nF
          refine store_ok (X := X.suite a ((a, oe4) :: (X.pn ++ pins))) (v := .ref a) S4 hN hi hloc rfl (fun s5 S5 => ?_) (.inr hln)
          refine wpAny_mono ((hsu a oe4 cls d (X.pn ++ pins) hz4 ⟨_, hd4⟩).run [] s5 _ H' _ S5 (hyes rfl a na)) (fun f s6 hsp => ?_) (fun _ _ z => False.elim z)
          have end_ : ∀ {σ6 : St} {H6 : Hp} {Q : Shared → Prop}, Inv (X.suite a ((a, oe4) :: (X.pn ++ pins))) [] σ6 H6 s6 → (∀ s7, Inv X pins (σ6.set i none) H6 s7 → Q s7) →
              wpAny (model X.prog X.w) X.A (do bindName X.env n .none; unbindBehindTheSuite X.env n pos') (fun _ s7 => Q s7) X.xe s6 := fun {σ6 H6 Q} S6 hq => gone_ok (S6.unsuite ok) hN hi hln hq
          cases f with
          | next =>
            obtain ⟨σ6, H6, S6, q6⟩ := hsp
            exact end_ S6 fun s7 J7 => ⟨_, _, J7, q6⟩
          | brk =>
            obtain ⟨σ6, H6, S6, q6⟩ := hsp
            exact end_ S6 fun s7 J7 => ⟨_, _, J7, q6⟩
          | cont =>
            obtain ⟨σ6, H6, S6, q6⟩ := hsp
            exact end_ S6 fun s7 J7 => ⟨_, _, J7, q6⟩
          | ret u =>
            obtain ⟨v6, σ6, H6, S6, r6, q6⟩ := hsp
            exact end_ S6 fun s7 J7 => ⟨_, _, _, J7, r6, q6⟩
        | false =>
          show wpAny _ X.A (handleBy (.ref a) X.env hds2) _ _ _
          exact ih (hno rfl)
    exact go hh w
  · cases f with
    | next =>
      obtain ⟨σ', H', J', q⟩ := hsp
      exact wpAny_execs_nil ⟨σ', H', J'.ofTry ok, q⟩
    | brk =>
      obtain ⟨σ', H', J', q⟩ := hsp
      exact ⟨σ', H', J'.ofTry ok, q⟩
    | cont =>
      obtain ⟨σ', H', J', q⟩ := hsp
      exact ⟨σ', H', J'.ofTry ok, q⟩
    | ret u =>
      obtain ⟨v, σ', H', J', r, q⟩ := hsp
      exact ⟨v, σ', H', J'.ofTry ok, r, q⟩
end
end L2
/-! rows -/
namespace K08
open PySem PySem.Spec PyProof.Rows L2
abbrev rwA (K : PySem.W.Frag) : Addr := He.ga K "Row"
/-- what is asked of the class Row -/
structure Rk (K : PySem.W.Frag) (mg : Str → Option Value) : Prop where
  gl : mg "Row" = some (.ref (rwA K))
  cl : Cls K (rwA K)
  na : ∀ f ∈ (["plan", "below"] : List Str), NoAttr K (rwA K) f
  mkr : Mk K (rwA K) (He.ma K (rwA K) "__init__")
def rflds (qv : V) (l : Addr) : List (Str × V) := [("plan", qv), ("below", .ref l)]
section
variable {P : Program} {w : World} {K : PySem.W.Frag} {mg : Str → Option Value} {base : Heap}
abbrev s_Row___init__ : Stmt := (inClass (top 82) 0)
def N_Row___init__ : List Str := ["self", "plan"]
theorem sc_Row___init__ : FnScope N_Row___init__ ["self", "plan"] (defScope s_Row___init__) := ⟨rfl, rfl, rfl, by decide +kernel, rfl, by decide +kernel, by decide +kernel⟩
def spRInit (K : PySem.W.Frag) : Sp := fun vs H Q _ => ∃ (a dx : Addr) (qv : V), vs = [.ref a, qv] ∧ H a = some (.ins (rwA K) dx []) ∧
  ∀ l H', H l = none → (∀ b o, H b = some o → b ≠ a → H' b = some o) → H' l = some (.lst []) → H' a = some (.ins (rwA K) dx (rflds qv l)) → Q .non H'
theorem ok_rinit {fd : FuncData} (F : FunD K "__init__" "Row.__init__" (defArgs s_Row___init__) (defBody s_Row___init__) (defScope s_Row___init__) [] [] (He.ma K (rwA K) "__init__") fd) (R : Rk K mg) :
    FnOk P w K mg base CX0 1 (He.ma K (rwA K) "__init__") fd ["self", "plan"] (spRInit K) := by
  refine F.ok sc_Row___init__ (fun vs H Q E h => by obtain ⟨_, _, _, rfl, _⟩ := h; rfl) (fun cdv A outer s H vs Q E hr h => ?_)
  obtain ⟨a, dx, qv, rfl, ha, k⟩ := h
  refine ⟨_, PSs.nox (pss_cons (ps_fld (pv 0) (pv 1) rfl)
  (pss_one (ps_fld (pv 0) (pe_lstM pa_nil) rfl))), ?_⟩
  refine ⟨_, rfl, _, rfl, a, rwA K, dx, _, rfl, ha, R.cl, R.na _ (by simp), Nat.lt_of_le_of_lt (Nat.zero_le 0) (by decide), ?_⟩
  refine ⟨(by show 0 ≤ sizeLine; decide), fun l G s1 n1 e1 => ?_⟩
  have la : l ≠ a := fun z => by rw [z, upd_same] at n1; cases n1
  refine ⟨_, rfl, a, rwA K, dx, _, rfl, s1 _ _ upd_same, R.cl, R.na _ (by simp), Nat.lt_of_le_of_lt (show 1 ≤ 1 from Nat.le_refl 1) (by decide), ?_⟩
  refine k l _ ?_ (fun b o e ne => ?_) ?_ upd_same
  · rw [upd_ne la] at n1; exact n1
  · rw [upd_ne ne]
    exact s1 _ _ (by rw [upd_ne ne]; exact e)
  · rw [upd_ne la]; exact e1
/-- a new row -/
theorem row_new {H : Hp} {qv : V} {Q : Addr → Hp → Prop} {E : XK} (k : ∀ x dx l H', Same H H' → H x = none → H l = none → l ≠ x → H' x = some (.ins (rwA K) dx (rflds qv l)) → H' l = some (.lst []) → Q x H') :
    ∀ x dx, H x = none → H dx = none → dx ≠ x → spRInit K [.ref x, qv] (upd (upd H dx (.own x)) x (.ins (rwA K) dx [])) (fun v H3 => v = .non ∧ Q x H3) E := by
  intro x dx nx nd ne
  refine ⟨x, dx, qv, rfl, upd_same, fun l H' nl s el ex => ⟨rfl, ?_⟩⟩
  have lx : l ≠ x := fun z => by rw [z, upd_same] at nl; cases nl
  have ld : l ≠ dx := fun z => by rw [z, upd_ne ne, upd_same] at nl; cases nl
  have nl0 : H l = none := by rw [upd_ne lx, upd_ne ld] at nl; exact nl
  refine k x dx l H' (fun b o e => ?_) nx nl0 lx ex el
  have bx : b ≠ x := fun z => by rw [z, nx] at e; cases e
  have bd : b ≠ dx := fun z => by rw [z, nd] at e; cases e
  exact s b o (by rw [upd_ne bx, upd_ne bd]; exact e) bx
end
end K08
/-! _made_of, _plan_of -/
namespace K08
open PySem PySem.Spec PyProof.Rows L2
section
variable {P : Program} {w : World} {K : PySem.W.Frag} {mg : Str → Option Value} {base : Heap}
abbrev wRs : List Str := ["restart", "opening", "closing", "deadline", "refused"]
/-- WorkerPlan(name, all settings but the script) -/
theorem wk_bindR {dS : Addr} {fd : FuncData} (F : FunD K "__init__" "WorkerPlan.__init__" (defArgs s_WorkerPlan___init__) (defBody s_WorkerPlan___init__) (defScope s_WorkerPlan___init__) [] (wDef dS) (He.ma K (wkA K) "__init__") fd) :
    ∃ mv : List Value, KBn K fd wPs 2 wRs (fun us ws => us ++ ws ++ mv) (fun vs zs => vs ++ zs ++ [.ref dS]) := by
  refine F.kbinds0 2 wRs [("script", .ref dS)] (fun a b c => a ++ c ++ b) (by simp [wDef]) (by simp [wDef]) (fun r1 r2 r3 => (r1.append r3).append r2) ?_
  intro D doc pm an cdv ct us mv ws l1 l2 l3
  match us, mv, ws, l1, l2, l3 with
  | [_, _], [_], [_, _, _, _, _], _, _, _ => exact ⟨_, _, _, _, _, _, rfl, rfl, rfl⟩
abbrev s_made_of : Stmt := (top 90)
def N_made_of : List Str := ["words"]
theorem sc_made_of : FnScope N_made_of ["words"] (defScope s_made_of) := ⟨rfl, rfl, rfl, by decide +kernel, rfl, by decide +kernel, by decide +kernel⟩
abbrev s_plan_of : Stmt := (top 89)
def N_plan_of : List Str := ["words"]
theorem sc_plan_of : FnScope N_plan_of ["words"] (defScope s_plan_of) := ⟨rfl, rfl, rfl, by decide +kernel, rfl, by decide +kernel, by decide +kernel⟩
theorem bare_ok {t : Tr} (ok : t.ok) : t.bare.ok := by
  cases t with
  | w => exact ok
  | s n r st mo sp dl ts =>
    obtain ⟨h1, h2, h3, h4, h5, h6, _, _⟩ := ok
    exact ⟨h1, h2, h3, h4, h5, h6, Nat.zero_le _, trivial⟩
def spMadeT (K : PySem.W.Frag) : Sp := fun vs H Q _ => ∃ (wl : Addr) (t : Tr), vs = [.ref wl] ∧ H wl = some (.lst ((wordsT t).map V.str)) ∧ t.ok ∧ ∀ u H', Same H H' → PTr K H' u t.bare → Q u H'
theorem ok_made_of {fd : FuncData} {mv : List Value} {dS : Addr} (F : Has K mg "_made_of" s_made_of) (T : Txt K mg) (W : Wk K mg) (FW : FnOk P w K mg base (L2.CX P w) 11 (He.ma K (wkA K) "__init__") fd wPs (spWInit K)) (hbR : KBn K fd wPs 2 wRs (fun us ws => us ++ ws ++ mv) (fun vs zs => vs ++ zs ++ [.ref dS]))
    (ds : ∀ H, SqT K H dS []) (WS : Su K mg) (FS : FnRK P w K mg base (L2.CX P w) 25 (He.ma K (suA K) "__init__") sKs (spSMade K)) (F_number_of : FnQ P w K mg base CX0 1 "_number_of" ["word"] (spNum K)) (F_deadline_of : FnQ P w K mg base CX0 2 "_deadline_of" ["word"] (spDl K)) :
    FnQ P w K mg base CX0 27 "_made_of" ["words"] (spMadeT K) := by
  refine F.q sc_made_of (fun _ _ _ _ _ _ us hl => match us, hl with | [_], _ => rfl) (fun vs H Q E h => by obtain ⟨_, _, rfl, _⟩ := h; rfl) (fun cdv A outer s H vs Q E hr h => ?_)
  obtain ⟨wl, t, rfl, el, ok, k⟩ := h
  refine ⟨_, PSs.nox (pss_cons (ps_if (pt_cmpR op_eq (pe_ix ix_list (pv 0) pe_int (fun _ _ => rfl)) pe_str (by first | exact nomark _ | rfl))
  (pss_one (ps_ret (pe_makeN W.mkr FW (hr.mono (by decide)) (by rfl) W.gl hbR passNo (pa_cons (pe_ix ix_list (pv 0) pe_int (fun _ _ => rfl)) pa_nil) (pk_cons (pe_ix ix_list (pv 0) pe_int (fun _ _ => rfl)) (pk_cons (pe_f F_number_of hr pass0 (pa_cons (pe_ix ix_list (pv 0) pe_int (fun _ _ => rfl)) pa_nil)) (pk_cons (pe_f F_number_of hr pass0 (pa_cons (pe_ix ix_list (pv 0) pe_int (fun _ _ => rfl)) pa_nil)) (pk_cons (pe_f F_deadline_of hr pass0 (pa_cons (pe_ix ix_list (pv 0) pe_int (fun _ _ => rfl)) pa_nil)) (pk_cons (pe_f F_number_of hr pass0 (pa_cons (pe_ix ix_list (pv 0) pe_int (fun _ _ => rfl)) pa_nil)) pk_nil))))))))
  pss_nil)
  (pss_cons (ps_if (pt_cmpR op_eq (pe_ix ix_list (pv 0) pe_int (fun _ _ => rfl)) pe_str (by first | exact nomark _ | rfl))
  (pss_one (ps_ret (pe_makeRK WS.mkr FS (hr.mono (by decide)) rfl WS.gl passNo (pa_cons (pe_ix ix_list (pv 0) pe_int (fun _ _ => rfl)) pa_nil) (pk_cons (pe_ix ix_list (pv 0) pe_int (fun _ _ => rfl)) (pk_cons (pe_ix ix_list (pv 0) pe_int (fun _ _ => rfl)) (pk_cons (pe_f F_number_of hr pass0 (pa_cons (pe_ix ix_list (pv 0) pe_int (fun _ _ => rfl)) pa_nil)) (pk_cons (pe_f F_number_of hr pass0 (pa_cons (pe_ix ix_list (pv 0) pe_int (fun _ _ => rfl)) pa_nil)) (pk_cons (pe_f F_deadline_of hr pass0 (pa_cons (pe_ix ix_list (pv 0) pe_int (fun _ _ => rfl)) pa_nil)) pk_nil))))))))
  pss_nil)
  (pss_one (ps_ret pe_non)))), ?_⟩
  have no : ∀ {a b : Str}, a ≠ b → decide (V.str a = V.str b) = false := fun h => decide_eq_false fun z => h (by injection z)
  cases t with
  | w n r o c dl rf sc sd =>
    replace el : H wl = some (.lst [.str "worker", .str n, .str r, .str (numT o), .str (numT c), .str (dlT dl), .str (numT rf)]) := el
    refine ⟨_, rfl, wl, _, _, _, rfl, rfl, SqL.of el, atI_nat (j := 0) rfl, rfl, _, rfl, if_yes (decide_eq_true rfl) ?_⟩
    have ok' := ok
    obtain ⟨o1, o2, o3, o4, o5, o6, o7, o8, o9⟩ := ok'
    refine ⟨_, rfl, wl, _, _, _, rfl, rfl, SqL.of el, atI_nat (j := 1) rfl, _, rfl, wl, _, _, _, rfl, rfl, SqL.of el, atI_nat (j := 2) rfl, ?_⟩
    refine ⟨_, rfl, wl, _, _, _, rfl, rfl, SqL.of el, atI_nat (j := 3) rfl, o, rfl, o3.1, o3.2, fun G1 s1 => ?_⟩
    have el1 := s1 _ _ el
    refine ⟨_, rfl, wl, _, _, _, rfl, rfl, SqL.of el1, atI_nat (j := 4) rfl, c, rfl, o4.1, o4.2, fun G2 s2 => ?_⟩
    have el2 := s2 _ _ el1
    refine ⟨_, rfl, wl, _, _, _, rfl, rfl, SqL.of el2, atI_nat (j := 5) rfl, dl, rfl, o5, fun G3 s3 => ?_⟩
    have el3 := s3 _ _ el2
    refine ⟨_, rfl, wl, _, _, _, rfl, rfl, SqL.of el3, atI_nat (j := 6) rfl, rf, rfl, o6.1, by omega, fun G4 s4 => ⟨rfl, rfl, ?_⟩⟩
    subst o9
    exact right_wkF (nm_dd o1) (rs_dd o2) (.int _) (.int _) (dl_dd o5) (.int _) (.tup (ds G4) .nil) (wset_tr ok) fun x dx H' s' n2 e2 => k (.ref x) H' ((((s1.trans s2).trans s3).trans s4).trans s') (.w e2 (.tup (ds H') .nil) rfl)
  | s n r st mo sp dl ts =>
    replace el : H wl = some (.lst [.str "supervisor", .str n, .str r, .str st, .str (numT mo), .str (numT sp), .str (dlT dl)]) := el
    refine ⟨_, rfl, wl, _, _, _, rfl, rfl, SqL.of el, atI_nat (j := 0) rfl, rfl, _, rfl, if_no (no (by decide +kernel)) ?_⟩
    refine ⟨_, rfl, wl, _, _, _, rfl, rfl, SqL.of el, atI_nat (j := 0) rfl, rfl, _, rfl, if_yes (decide_eq_true rfl) ?_⟩
    have ok' := ok
    obtain ⟨o1, o2, o3, o4, o5, o6, o7, o8⟩ := ok'
    refine ⟨_, rfl, wl, _, _, _, rfl, rfl, SqL.of el, atI_nat (j := 1) rfl, _, rfl, wl, _, _, _, rfl, rfl, SqL.of el, atI_nat (j := 2) rfl, _, rfl, wl, _, _, _, rfl, rfl, SqL.of el, atI_nat (j := 3) rfl, ?_⟩
    refine ⟨_, rfl, wl, _, _, _, rfl, rfl, SqL.of el, atI_nat (j := 4) rfl, mo, rfl, o4.1, by omega, fun G1 s1 => ?_⟩
    have el1 := s1 _ _ el
    refine ⟨_, rfl, wl, _, _, _, rfl, rfl, SqL.of el1, atI_nat (j := 5) rfl, sp, rfl, by omega, o5.2, fun G2 s2 => ?_⟩
    have el2 := s2 _ _ el1
    refine ⟨_, rfl, wl, _, _, _, rfl, rfl, SqL.of el2, atI_nat (j := 6) rfl, dl, rfl, o6, fun G3 s3 => ⟨rfl, ?_⟩⟩
    exact right_supM (bare_ok ok) .nil (by show 1 + 0 ≤ 200; decide) (by show 0 + 1 ≤ 20; decide) fun x H' s n2 p => k (.ref x) H' (((s1.trans s2).trans s3).trans s) p
theorem ok_plan_of (F : Has K mg "_plan_of" s_plan_of) (T : Txt K mg) (F_made_of : FnQ P w K mg base CX0 27 "_made_of" ["words"] (spMadeT K)) : FnQ P w K mg base CX0 28 "_plan_of" ["words"] (spMadeT K) := by
  refine F.q sc_plan_of (fun _ _ _ _ _ _ us hl => match us, hl with | [_], _ => rfl) (fun vs H Q E h => by obtain ⟨_, _, rfl, _⟩ := h; rfl) (fun cdv A outer s H vs Q E hr h => ?_)
  obtain ⟨wl, t, rfl, el, ok, k⟩ := h
  have gL : mg "len" = none := T.fr _ (by simp [frees])
  refine ⟨_, PSs.nox (pss_cons (ps_if (pt_cmpR op_ne (pe_callB call_len_seq (by rfl) gL boot_len (pa_cons (pv 0) pa_nil)) (C8.pe_gc (by rfl) T.c_WORDS_OF_LINE) (by first | exact nomark _ | rfl))
  (pss_one (ps_ret pe_non))
  pss_nil)
  (pss_one (ps_try_thru0 (pss_one (ps_ret (pe_f F_made_of hr pass0 (pa_cons (pv 0) pa_nil))))))), ?_⟩
  refine ⟨_, rfl, wl, _, rfl, .inl (SqL.of el), rfl, _, rfl, if_no (by rw [List.length_map, words_len]; decide) ⟨_, rfl, wl, t, rfl, el, ok, k⟩⟩
end
end K08
/-! _can_stand -/
namespace K08
open PySem PySem.Spec PyProof.Rows L2
/-- what stands while lines are read: k rows, each an object with its list -/
structure Rp (K : PySem.W.Frag) (H : Hp) (S : Ms) (k : Nat) (rows : Nat → Addr × Addr) (node : Nat → Tr) : Prop where
  rw : ∀ i, i < k → ∃ dx qv, H (rows i).1 = some (.ins (rwA K) dx (rflds qv (rows i).2)) ∧ PTr K H qv (node i).bare
  lo : ∀ i, i < k → H (rows i).2 = some (.lst ((S.low i).map fun j => .ref (rows j).1))
  dj : ∀ i j, i < k → j < k → (rows i).2 = (rows j).2 → i = j
  wb : ∀ i ∈ S.way, i < k
  lb : ∀ i j, j ∈ S.low i → j < k
theorem Rp.same {K : PySem.W.Frag} {H H' : Hp} {S : Ms} {k : Nat} {rows : Nat → Addr × Addr} {node : Nat → Tr} (s : Same H H') (Z : Rp K H S k rows node) : Rp K H' S k rows node :=
  ⟨fun i h => by
    obtain ⟨dx, qv, a, b⟩ := Z.rw i h
    exact ⟨dx, qv, s _ _ a, PTr.solid (Solid.of_same s) b⟩, fun i h => s _ _ (Z.lo i h), Z.dj, Z.wb, Z.lb⟩
def wayV (rows : Nat → Addr × Addr) (S : Ms) : List V := S.way.map fun i => .ref (rows i).1
section
variable {P : Program} {w : World} {K : PySem.W.Frag} {mg : Str → Option Value} {base : Heap}
abbrev s_can_stand : Stmt := (top 88)
def N_can_stand : List Str := ["way", "depth", "above"]
theorem sc_can_stand : FnScope N_can_stand ["way", "depth"] (defScope s_can_stand) := ⟨rfl, rfl, rfl, by decide +kernel, rfl, by decide +kernel, by decide +kernel⟩
def spCan (K : PySem.W.Frag) : Sp := fun vs H Q _ => ∃ (wl : Addr) (S : Ms) (k : Nat) (rows : Nat → Addr × Addr) (node : Nat → Tr) (e : Nat), vs = [.ref wl, .int (e : Nat)] ∧ H wl = some (.lst (wayV rows S)) ∧ S.way.length ≤ 1000 ∧ Rp K H S k rows node ∧ Cnd (fun j => j < k ∧ isS (node j)) S e ∧ e < 20 ∧ ∀ H', Same H H' → Q (.bl true) H'
theorem ok_can_stand (F : Has K mg "_can_stand" s_can_stand) (T : Txt K mg) (R : Rk K mg) : FnQ P w K mg base CX0 1 "_can_stand" ["way", "depth"] (spCan K) := by
  refine F.q sc_can_stand (fun _ _ _ _ _ _ us hl => match us, hl with | [_, _], _ => rfl) (fun vs H Q E h => by obtain ⟨_, _, _, _, _, _, rfl, _⟩ := h; rfl) (fun cdv A outer s H vs Q E hr h => ?_)
  obtain ⟨wl, S, k, rows, node, e, rfl, ew, lw, Z, ⟨c1, c2, c3⟩, e20, kk⟩ := h
  have gL : mg "len" = none := T.fr _ (by simp [frees])
  have gI : mg "isinstance" = none := T.fr _ (by simp [frees])
  have wlen : (wayV rows S).length = S.way.length := List.length_map ..
  refine ⟨_, PSs.nox (pss_cons (ps_if (pw_or (pt_cmpR op_isN (pv 1) pe_non (by first | exact nomark _ | rfl)) (pw_or1 (pt_cmpR op_ge (pv 1) (C8.pe_gc (by rfl) T.c_MOST_LEVELS) (by first | exact nomark _ | rfl)))).pt
  (pss_one (ps_ret pe_bl))
  pss_nil)
  (pss_cons (ps_if (pw_or (pt_cmpR op_eq (pv 1) pe_int (by first | exact nomark _ | rfl)) (pw_or1 (pt_cmpR op_gt (pv 1) (pe_callB call_len_seq (by rfl) gL boot_len (pa_cons (pv 0) pa_nil)) (by first | exact nomark _ | rfl)))).pt
  (pss_one (ps_ret (pe_cmpR op_eq (pv 1) (pe_callB call_len_seq (by rfl) gL boot_len (pa_cons (pv 0) pa_nil)) (by first | exact nomark _ | rfl))))
  pss_nil)
  (pss_cons (ps_set (i := 2) sc_can_stand.nd rfl (by first | exact .inl rfl | exact .inr rfl) (pe_ix ix_list (pv 0) (pe_op op_sub (pv 1) pe_int) (fun _ _ => rfl)))
  (pss_one (ps_ret (pe_and (pe_callB call_isi (by rfl) gI boot_isinstance (pa_cons (pe_fld (pv 2) rfl) (pa_cons (C8.pe_gc (by rfl) T.c_SupervisorPlan) pa_nil))) (pe_one (pe_cmpR op_lt (pe_callB call_len_seq (by rfl) gL boot_len (pa_cons (pe_fld (pv 2) rfl) pa_nil)) (C8.pe_gc (by rfl) T.c_MOST_CHILDREN) (by first | exact nomark _ | rfl))))))))), ?_⟩
  refine ⟨_, rfl, rfl, _, rfl, if_no (decide_eq_false fun z => nomatch z) ⟨_, rfl, _, _, rfl, rfl, _, rfl, if_no (decide_eq_false (by omega)) ?_⟩⟩
  cases e with
  | zero =>
    have w0 := c2 rfl
    refine ⟨_, rfl, rfl, _, rfl, if_yes (decide_eq_true rfl) ⟨_, rfl, _, rfl, wl, _, rfl, .inl (SqL.of ew), rfl, ?_⟩⟩
    rw [wlen, w0]
    exact kk H (Same.refl H)
  | succ d =>
    obtain ⟨j, ej, ⟨jk, js⟩, few⟩ := c3 d rfl
    refine ⟨_, rfl, rfl, _, rfl, if_no (decide_eq_false fun z => by injection z with z; omega) ⟨_, rfl, _, rfl, wl, _, rfl, .inl (SqL.of ew), _, _, rfl, rfl, _, rfl, if_no (decide_eq_false (by rw [wlen]; omega)) ?_⟩⟩
    have ea : (wayV rows S)[d]? = some (.ref (rows j).1) := by unfold wayV; rw [List.getElem?_map, ej]; rfl
    have ei : (((d + 1 : Nat) : Int) - 1) = ((d : Nat) : Int) := by omega
    obtain ⟨dx, qv, hr1, hp⟩ := Z.rw j jk
    refine ⟨_, rfl, _, rfl, _, _, rfl, rfl, wl, _, _, _, rfl, rfl, SqL.of ew, (by rw [ei]; exact atI_nat ea), ?_⟩
    refine ⟨_, rfl, (rows j).1, rwA K, dx, _, qv, rfl, hr1, R.cl, R.na _ (by simp), by kernel_rfl, _, _, _, _, _, rfl, .own _, hp.pt.ty T.pk, T.pk.kit _ 6 (kt_lt _) (by decide), _, rfl, if_yes ?_ ?_⟩
    · cases ht : node j with
      | w => rw [ht] at js; exact js.elim
      | s => rfl
    · refine ⟨_, rfl, (rows j).1, rwA K, dx, _, .ref (rows j).2, rfl, hr1, R.cl, R.na _ (by simp), by kernel_rfl, (rows j).2, _, rfl, .inl (SqL.of (Z.lo j jk)), _, _, rfl, rfl, ?_⟩
      have e : decide (((((S.low j).map fun i => V.ref (rows i).1).length : Nat) : Int) < 12) = true := decide_eq_true (by rw [List.length_map]; omega)
      show Q (.bl (decide (((((S.low j).map fun i => V.ref (rows i).1).length : Nat) : Int) < 12))) H
      rw [e]
      exact kk H (Same.refl H)
end
end K08
/-! what stands while a text is read -/
namespace K08
open PySem PySem.Spec PyProof.Rows L2
def S0 : Ms := ⟨[], fun _ => []⟩
theorem okM_at {sup : Nat → Prop} : ∀ {xs : List (Nat × Tr)} {k : Nat} {S : Ms}, okM sup k xs S → ∀ {i : Nat} {e : Nat} {t : Tr}, xs[i]? = some (e, t) → Cnd sup (runM k (xs.take i) S) e ∧ runM k (xs.take (i + 1)) S = (runM k (xs.take i) S).put (k + i) e
  | [], k, S, _, i, e, t, h => by simp at h
  | (e0, t0) :: xs, k, S, ok, 0, e, t, h => by
    have h : (e0, t0) = (e, t) := by simpa using h
    cases h
    unfold okM at ok
    exact ⟨ok.1, rfl⟩
  | (e0, t0) :: xs, k, S, ok, i + 1, e, t, h => by
    unfold okM at ok
    obtain ⟨a, b⟩ := okM_at ok.2 (i := i) (e := e) (t := t) (by simpa using h)
    refine ⟨a, ?_⟩
    show runM (k + 1) (xs.take (i + 1)) (S.put k e0) = _
    rw [b, show k + 1 + i = k + (i + 1) by omega]
    rfl
/-- the rows with a new one -/
def rowsN (rows : Nat → Addr × Addr) (k : Nat) (x l : Addr) : Nat → Addr × Addr := fun i => if i = k then (x, l) else rows i
theorem rowsN_old {rows : Nat → Addr × Addr} {k i : Nat} {x l : Addr} (h : i < k) : rowsN rows k x l i = rows i := if_neg (by omega)
theorem rowsN_new {rows : Nat → Addr × Addr} {k : Nat} {x l : Addr} : rowsN rows k x l k = (x, l) := if_pos rfl
theorem map_rows {rows : Nat → Addr × Addr} {k : Nat} {x l : Addr} {ys : List Nat} (h : ∀ i ∈ ys, i < k) : (ys.map fun i => V.ref (rowsN rows k x l i).1) = ys.map fun i => V.ref (rows i).1 := by
  refine List.map_congr_left fun i hi => ?_
  rw [rowsN_old (h i hi)]
section
variable {K : PySem.W.Frag} {H1 G G1 G2 G3 G4 : Hp} {S : Ms} {k : Nat} {rows : Nat → Addr × Addr} {node : Nat → Tr} {wl : Addr}
/-- k lines are read -/
structure Rd (K : PySem.W.Frag) (H1 G : Hp) (S : Ms) (k : Nat) (rows : Nat → Addr × Addr) (node : Nat → Tr) (wl : Addr) : Prop where
  rp : Rp K G S k rows node
  ew : G wl = some (.lst (wayV rows S))
  s : Same H1 G
  nr : ∀ j, j < k → H1 (rows j).2 = none
  nl : ∀ j, k ≤ j → S.low j = []
theorem none_old {H G : Hp} {b : Addr} (s : Same H G) (n : G b = none) : H b = none := by
  cases e : H b with
  | none => rfl
  | some o => rw [s _ _ e] at n; cases n
/-- a row more, that stands nowhere yet -/
theorem Rp.row (Z : Rp K G S k rows node) (nl : S.low k = []) {x l dx : Addr} {qv : V} (s1 : Same G G1) (hq : PTr K G1 qv (node k).bare) (s2 : Same G1 G2) (nx : G1 x = none) (nl1 : G1 l = none) (ex : G2 x = some (.ins (rwA K) dx (rflds qv l))) (el : G2 l = some (.lst [])) :
    Rp K G2 S (k + 1) (rowsN rows k x l) node := by
  have s := s1.trans s2
  have lb : ∀ i, ∀ j ∈ S.low i, j < k := fun i j h => Z.lb i j h
  refine ⟨fun i h => ?_, fun i h => ?_, fun i j hi hj e => ?_, fun i h => Nat.lt_succ_of_lt (Z.wb i h), fun i j h => Nat.lt_succ_of_lt (Z.lb i j h)⟩
  · rcases Nat.lt_succ_iff_lt_or_eq.mp h with h | rfl
    · rw [rowsN_old h]
      obtain ⟨d, q, a, b⟩ := Z.rw i h
      exact ⟨d, q, s _ _ a, PTr.solid (Solid.of_same s) b⟩
    · rw [rowsN_new]
      exact ⟨dx, qv, ex, PTr.solid (Solid.of_same s2) hq⟩
  · rw [map_rows (lb i)]
    rcases Nat.lt_succ_iff_lt_or_eq.mp h with h | rfl
    · rw [rowsN_old h]
      exact s _ _ (Z.lo i h)
    · rw [rowsN_new, nl]
      exact el
  · have ne : ∀ i, i < k → (rows i).2 ≠ l := fun i h z => by
      have a := s1 _ _ (Z.lo i h)
      rw [z, nl1] at a; cases a
    rcases Nat.lt_succ_iff_lt_or_eq.mp hi with hi | rfl
    · rcases Nat.lt_succ_iff_lt_or_eq.mp hj with hj | rfl
      · rw [rowsN_old hi, rowsN_old hj] at e
        exact Z.dj i j hi hj e
      · rw [rowsN_old hi, rowsN_new] at e
        exact absurd e (ne i hi)
    · rcases Nat.lt_succ_iff_lt_or_eq.mp hj with hj | rfl
      · rw [rowsN_new, rowsN_old hj] at e
        exact absurd e.symm (ne j hj)
      · rfl
/-- the way goes elsewhere -/
theorem Rp.way (Z : Rp K G S k rows node) {way : List Nat} (h : ∀ i ∈ way, i < k) : Rp K G ⟨way, S.low⟩ k rows node := ⟨Z.rw, Z.lo, Z.dj, h, Z.lb⟩
/-- a row below another one -/
theorem Rp.link (Z : Rp K G S k rows node) {j c : Nat} (hj : j < k) (hc : c < k) : Rp K (upd G (rows j).2 (.lst ((S.low j).map (fun i => V.ref (rows i).1) ++ [.ref (rows c).1]))) ⟨S.way, fun i => if i = j then S.low i ++ [c] else S.low i⟩ k rows node := by
  have so : Solid G (upd G (rows j).2 (.lst ((S.low j).map (fun i => V.ref (rows i).1) ++ [.ref (rows c).1]))) := Solid.upd (.inl ⟨_, Z.lo j hj⟩)
  refine ⟨fun i h => ?_, fun i h => ?_, Z.dj, Z.wb, fun i j' h => ?_⟩
  · obtain ⟨d, q, a, b⟩ := Z.rw i h
    exact ⟨d, q, so _ _ a (fun _ z => nomatch z) (fun _ z => nomatch z), PTr.solid so b⟩
  · by_cases e : i = j
    · subst e
      rw [upd_same]
      show _ = some (HO.lst ((if i = i then S.low i ++ [c] else S.low i).map _))
      rw [if_pos rfl, List.map_append]
      rfl
    · rw [upd_ne fun z => e (Z.dj i j h hj z)]
      show _ = some (HO.lst ((if i = j then S.low i ++ [c] else S.low i).map _))
      rw [if_neg e]
      exact Z.lo i h
  · have h : j' ∈ (if i = j then S.low i ++ [c] else S.low i) := h
    by_cases e : i = j
    · rw [if_pos e] at h
      rcases List.mem_append.mp h with h | h
      · exact Z.lb i j' h
      · rw [List.mem_singleton.mp h]; exact hc
    · rw [if_neg e] at h
      exact Z.lb i j' h
/-- one line more -/
theorem Rd.next (Z : Rd K H1 G S k rows node wl) {e : Nat} (cn : Cnd (fun j => isS (node j)) S e) {x l dx wl2 : Addr} {qv : V} (s1 : Same G G1) (hq : PTr K G1 qv (node k).bare) (s2 : Same G1 G2) (nx : G1 x = none) (nl1 : G1 l = none) (lx : l ≠ x) (ex : G2 x = some (.ins (rwA K) dx (rflds qv l))) (el : G2 l = some (.lst []))
    (s3 : Same G2 G3) (n4 : G3 wl2 = none) (s4 : Same G3 G4) (e4 : G4 wl2 = some (.lst ((wayV rows S).take e ++ [.ref x]))) :
    (e = 0 → Rd K H1 G4 (S.put k e) (k + 1) (rowsN rows k x l) node wl2) ∧
    (∀ d, e = d + 1 → ∃ j, j < k ∧ S.way[d]? = some j ∧ (∃ dj qj, G4 (rows j).1 = some (.ins (rwA K) dj (rflds qj (rows j).2))) ∧ ((wayV rows S).take e ++ [.ref x])[d]? = some (.ref (rows j).1) ∧ G4 (rows j).2 = some (.lst ((S.low j).map fun i => V.ref (rows i).1)) ∧ (S.low j).length < 12 ∧
      Rd K H1 (upd G4 (rows j).2 (.lst ((S.low j).map (fun i => V.ref (rows i).1) ++ [.ref x]))) (S.put k e) (k + 1) (rowsN rows k x l) node wl2) := by
  have s14 := (s1.trans s2).trans (s3.trans s4)
  have R2 := Z.rp.row (Z.nl k (Nat.le_refl k)) s1 hq s2 nx nl1 ex el
  have R4 := R2.same (s3.trans s4)
  have wy : wayV (rowsN rows k x l) (S.put k e) = (wayV rows S).take e ++ [.ref x] := by
    show (S.way.take e ++ [k]).map _ = (S.way.map _).take e ++ _
    rw [List.map_append, ← List.map_take, map_rows fun i hi => Z.rp.wb i (List.mem_of_mem_take hi)]
    show _ ++ [V.ref (rowsN rows k x l k).1] = _
    rw [rowsN_new]
  have wb : ∀ i ∈ (S.put k e).way, i < k + 1 := fun i hi => by
    rcases List.mem_append.mp (show i ∈ S.way.take e ++ [k] from hi) with h | h
    · exact Nat.lt_succ_of_lt (Z.rp.wb i (List.mem_of_mem_take h))
    · rw [List.mem_singleton.mp h]; exact Nat.lt_succ_self k
  have R5 := R4.way wb
  have n1l : H1 l = none := none_old (Z.s.trans s1) nl1
  have nr : ∀ j, j < k + 1 → H1 (rowsN rows k x l j).2 = none := fun j h => by
    rcases Nat.lt_succ_iff_lt_or_eq.mp h with h | rfl
    · rw [rowsN_old h]; exact Z.nr j h
    · rw [rowsN_new]; exact n1l
  constructor
  · intro e0
    subst e0
    exact ⟨R5, by rw [wy]; exact e4, Z.s.trans s14, nr, fun j h => Z.nl j (by omega)⟩
  · intro d ed
    subst ed
    obtain ⟨j, ej, js, few⟩ := cn.2.2 d rfl
    have jk : j < k := Z.rp.wb j (List.mem_of_getElem? ej)
    have lt := (List.getElem?_eq_some_iff.mp ej).1
    have el4 := s14 _ _ (Z.rp.lo j jk)
    obtain ⟨dj, qj, er, _⟩ := Z.rp.rw j jk
    have eN : (rowsN rows k x l j) = rows j := rowsN_old jk
    have low : (S.put k (d + 1)).low = fun i => if i = j then S.low i ++ [k] else S.low i := by
      show (match S.way[d]? with | some j => fun i => if i = j then S.low i ++ [k] else S.low i | none => S.low) = _
      rw [ej]
    have wlj : wl2 ≠ (rows j).2 := fun z => by
      have a := ((s1.trans s2).trans s3) _ _ (Z.rp.lo j jk)
      rw [← z, n4] at a; cases a
    refine ⟨j, jk, ej, ⟨dj, qj, s14 _ _ er⟩, ?_, el4, few, ⟨?_, ?_, ?_, nr, fun i h => ?_⟩⟩
    · rw [List.getElem?_append_left (by rw [List.length_take]; unfold wayV; rw [List.length_map]; omega), List.getElem?_take_of_lt (by omega)]
      unfold wayV
      rw [List.getElem?_map, ej]; rfl
    · have z := R5.link (j := j) (c := k) (by omega) (Nat.lt_succ_self k)
      rw [eN, rowsN_new, map_rows fun i hi => Z.rp.lb j i hi] at z
      have e : (⟨(S.put k (d + 1)).way, fun i => if i = j then S.low i ++ [k] else S.low i⟩ : Ms) = S.put k (d + 1) := by
        rw [← low]
      rw [← e]
      exact z
    · rw [upd_ne wlj, wy]; exact e4
    · exact fun b o q => by
        rw [upd_ne]
        · exact (Z.s.trans s14) _ _ q
        · rintro rfl
          rw [Z.nr j jk] at q; cases q
    · rw [low]
      dsimp only
      rw [if_neg (by omega)]
      exact Z.nl i (by omega)
end
end K08
/-! _words_of, _lines_of, plan_text -/
namespace K08
open PySem PySem.Spec PyProof.Rows L2
section
variable {P : Program} {w : World} {K : PySem.W.Frag} {mg : Str → Option Value} {base : Heap}
abbrev s_words_of : Stmt := (top 85)
def N_words_of : List Str := ["plan", "deadline"]
theorem sc_words_of : FnScope N_words_of ["plan"] (defScope s_words_of) := ⟨rfl, rfl, rfl, by decide +kernel, rfl, by decide +kernel, by decide +kernel⟩
abbrev s_lines_of : Stmt := (top 84)
def N_lines_of : List Str := ["plan", "indent", "lines", "child"]
theorem sc_lines_of : FnScope N_lines_of ["plan", "indent"] (defScope s_lines_of) := ⟨rfl, rfl, rfl, by decide +kernel, rfl, by decide +kernel, by decide +kernel⟩
abbrev s_plan_text : Stmt := (top 83)
def N_plan_text : List Str := ["plan"]
theorem sc_plan_text : FnScope N_plan_text ["plan"] (defScope s_plan_text) := ⟨rfl, rfl, rfl, by decide +kernel, rfl, by decide +kernel, by decide +kernel⟩
theorem lg30 {i : Int} (h0 : 0 ≤ i) (h1 : i ≤ 1000000000) : i.natAbs.log2 < 1920 := by
  by_cases z : i.natAbs = 0
  · rw [z]; decide
  · refine Nat.lt_of_lt_of_le ((Nat.log2_lt z).mpr (show i.natAbs < 2 ^ 30 from Nat.lt_of_le_of_lt (show i.natAbs ≤ 1000000000 by omega) (by decide))) (by decide)
def spOut (K : PySem.W.Frag) : Sp := fun vs H Q _ => ∃ v t, vs = [v] ∧ PTr K H v t ∧ t.ok ∧ ∀ l H', Same H H' → H l = none → H' l = some (.lst ((wordsT t).map V.str)) → Q (.ref l) H'
theorem ok_words_of (F : Has K mg "_words_of" s_words_of) (T : Txt K mg) (L : Pl K) : FnQ P w K mg base CX0 1 "_words_of" ["plan"] (spOut K) := by
  refine F.q sc_words_of (fun _ _ _ _ _ _ us hl => match us, hl with | [_], _ => rfl) (fun vs H Q E h => by obtain ⟨_, _, rfl, _⟩ := h; rfl) (fun cdv A outer s H vs Q E hr h => ?_)
  obtain ⟨v, t, rfl, hv, ok, k⟩ := h
  have gI : mg "isinstance" = none := T.fr _ (by simp [frees])
  refine ⟨_, PSs.nox (pss_cons (ps_set (i := 1) sc_words_of.nd rfl (by first | exact .inl rfl | exact .inr rfl) (pe_ifExp (pt_cmpR op_isN (pe_fld (pv 0) rfl) pe_non (by first | exact nomark _ | rfl)) pe_str (pe_callTy call_str_int (by rfl) (T.fr "str" (by simp [frees])) PyProof.Rows.boot_str (pa_cons (pe_fld (pv 0) rfl) pa_nil))))
  (pss_cons (ps_if (pt_val (pe_callB call_isi (by rfl) gI boot_isinstance (pa_cons (pv 0) (pa_cons (C8.pe_gc (by rfl) T.c_WorkerPlan) pa_nil))))
  (pss_one (ps_ret (pe_lstM (pa_cons pe_str (pa_cons (pe_fld (pv 0) rfl) (pa_cons (pe_fld (pv 0) rfl) (pa_cons (pe_callTy call_str_int (by rfl) (T.fr "str" (by simp [frees])) PyProof.Rows.boot_str (pa_cons (pe_fld (pv 0) rfl) pa_nil)) (pa_cons (pe_callTy call_str_int (by rfl) (T.fr "str" (by simp [frees])) PyProof.Rows.boot_str (pa_cons (pe_fld (pv 0) rfl) pa_nil)) (pa_cons (pv 1) (pa_cons (pe_callTy call_str_int (by rfl) (T.fr "str" (by simp [frees])) PyProof.Rows.boot_str (pa_cons (pe_fld (pv 0) rfl) pa_nil)) pa_nil))))))))))
  pss_nil)
  (pss_one (ps_ret (pe_lstM (pa_cons pe_str (pa_cons (pe_fld (pv 0) rfl) (pa_cons (pe_fld (pv 0) rfl) (pa_cons (pe_fld (pv 0) rfl) (pa_cons (pe_callTy call_str_int (by rfl) (T.fr "str" (by simp [frees])) PyProof.Rows.boot_str (pa_cons (pe_fld (pv 0) rfl) pa_nil)) (pa_cons (pe_callTy call_str_int (by rfl) (T.fr "str" (by simp [frees])) PyProof.Rows.boot_str (pa_cons (pe_fld (pv 0) rfl) pa_nil)) (pa_cons (pv 1) pa_nil)))))))))))), ?_⟩
  have ok' := ok
  have hp := hv.pt
  cases hv with
  | @w a dx n r o c dl rf sc sc2 sd h hd so =>
    obtain ⟨o1, o2, o3, o4, DL, o6, o7, o8, o9⟩ := ok'
    rcases DL with rfl | ⟨i, rfl, i0, i1⟩
    · refine ⟨_, rfl, a, wkA K, dx, _, .non, rfl, h, L.cw, L.nw _ (by simp), by kernel_rfl, rfl, _, rfl, if_yes (decide_eq_true rfl) ?_⟩
      exact ⟨_, rfl, _, _, _, _, _, rfl, .own _, hp.ty T.pk, T.pk.kit _ 5 (kt_lt _) (by decide), _, rfl, if_yes rfl ⟨_, rfl, a, wkA K, dx, _, .str n, rfl, h, L.cw, L.nw _ (by simp), by kernel_rfl, _, rfl, a, wkA K, dx, _, .str r, rfl, h, L.cw, L.nw _ (by simp), by kernel_rfl, _, rfl, a, wkA K, dx, _, .int o, rfl, h, L.cw, L.nw _ (by simp), by kernel_rfl, o, rfl, lg30 o3.1 o3.2, _, rfl, a, wkA K, dx, _, .int c, rfl, h, L.cw, L.nw _ (by simp), by kernel_rfl, c, rfl, lg30 o4.1 o4.2, _, rfl, _, rfl, a, wkA K, dx, _, .int rf, rfl, h, L.cw, L.nw _ (by simp), by kernel_rfl, rf, rfl, lg30 o6.1 (by omega), (by show 7 ≤ sizeLine; decide), fun l H1 s1 n1 e1 => k l H1 s1 n1 e1⟩⟩
    · refine ⟨_, rfl, a, wkA K, dx, _, .int i, rfl, h, L.cw, L.nw _ (by simp), by kernel_rfl, rfl, _, rfl, if_no (decide_eq_false fun z => nomatch z) ⟨_, rfl, a, wkA K, dx, _, .int i, rfl, h, L.cw, L.nw _ (by simp), by kernel_rfl, i, rfl, lg30 i0 i1, ?_⟩⟩
      exact ⟨_, rfl, _, _, _, _, _, rfl, .own _, hp.ty T.pk, T.pk.kit _ 5 (kt_lt _) (by decide), _, rfl, if_yes rfl ⟨_, rfl, a, wkA K, dx, _, .str n, rfl, h, L.cw, L.nw _ (by simp), by kernel_rfl, _, rfl, a, wkA K, dx, _, .str r, rfl, h, L.cw, L.nw _ (by simp), by kernel_rfl, _, rfl, a, wkA K, dx, _, .int o, rfl, h, L.cw, L.nw _ (by simp), by kernel_rfl, o, rfl, lg30 o3.1 o3.2, _, rfl, a, wkA K, dx, _, .int c, rfl, h, L.cw, L.nw _ (by simp), by kernel_rfl, c, rfl, lg30 o4.1 o4.2, _, rfl, _, rfl, a, wkA K, dx, _, .int rf, rfl, h, L.cw, L.nw _ (by simp), by kernel_rfl, rf, rfl, lg30 o6.1 (by omega), (by show 7 ≤ sizeLine; decide), fun l H1 s1 n1 e1 => k l H1 s1 n1 e1⟩⟩
  | @s a dx p n r st mo sp dl vs ks h hk ht =>
    obtain ⟨o1, o2, o3, o4, o5, DL, o7, o8⟩ := ok'
    rcases DL with rfl | ⟨i, rfl, i0, i1⟩
    · refine ⟨_, rfl, a, suA K, dx, _, .non, rfl, h, L.cs, L.ns _ (by simp), by kernel_rfl, rfl, _, rfl, if_yes (decide_eq_true rfl) ?_⟩
      exact ⟨_, rfl, _, _, _, _, _, rfl, .own _, hp.ty T.pk, T.pk.kit _ 5 (kt_lt _) (by decide), _, rfl, if_no rfl ⟨_, rfl, a, suA K, dx, _, .str n, rfl, h, L.cs, L.ns _ (by simp), by kernel_rfl, _, rfl, a, suA K, dx, _, .str r, rfl, h, L.cs, L.ns _ (by simp), by kernel_rfl, _, rfl, a, suA K, dx, _, .str st, rfl, h, L.cs, L.ns _ (by simp), by kernel_rfl, _, rfl, a, suA K, dx, _, .int mo, rfl, h, L.cs, L.ns _ (by simp), by kernel_rfl, mo, rfl, lg30 o4.1 (by omega), _, rfl, a, suA K, dx, _, .int sp, rfl, h, L.cs, L.ns _ (by simp), by kernel_rfl, sp, rfl, lg30 (by omega) (by omega), _, rfl, (by show 7 ≤ sizeLine; decide), fun l H1 s1 n1 e1 => k l H1 s1 n1 e1⟩⟩
    · refine ⟨_, rfl, a, suA K, dx, _, .int i, rfl, h, L.cs, L.ns _ (by simp), by kernel_rfl, rfl, _, rfl, if_no (decide_eq_false fun z => nomatch z) ⟨_, rfl, a, suA K, dx, _, .int i, rfl, h, L.cs, L.ns _ (by simp), by kernel_rfl, i, rfl, lg30 i0 i1, ?_⟩⟩
      exact ⟨_, rfl, _, _, _, _, _, rfl, .own _, hp.ty T.pk, T.pk.kit _ 5 (kt_lt _) (by decide), _, rfl, if_no rfl ⟨_, rfl, a, suA K, dx, _, .str n, rfl, h, L.cs, L.ns _ (by simp), by kernel_rfl, _, rfl, a, suA K, dx, _, .str r, rfl, h, L.cs, L.ns _ (by simp), by kernel_rfl, _, rfl, a, suA K, dx, _, .str st, rfl, h, L.cs, L.ns _ (by simp), by kernel_rfl, _, rfl, a, suA K, dx, _, .int mo, rfl, h, L.cs, L.ns _ (by simp), by kernel_rfl, mo, rfl, lg30 o4.1 (by omega), _, rfl, a, suA K, dx, _, .int sp, rfl, h, L.cs, L.ns _ (by simp), by kernel_rfl, sp, rfl, lg30 (by omega) (by omega), _, rfl, (by show 7 ≤ sizeLine; decide), fun l H1 s1 n1 e1 => k l H1 s1 n1 e1⟩⟩
/-- the lines of a list of trees -/
def linesL (d : Nat) (ts : List Tr) : List Str := (preL d ts).map fun p => lineT p.1 p.2
theorem linesT_s {d : Nat} {n r st : Str} {mo sp : Int} {dl : V} {ts : List Tr} : linesT d (.s n r st mo sp dl ts) = lineT d (.s n r st mo sp dl ts) :: linesL (d + 1) ts := by
  unfold linesT linesL
  rw [pre, List.map_cons]
theorem linesT_w {d : Nat} {n r : Str} {o c : Int} {dl : V} {rf : Int} {sc : V} {sd : Dt} : linesT d (.w n r o c dl rf sc sd) = [lineT d (.w n r o c dl rf sc sd)] := by
  unfold linesT
  rw [pre]; rfl
theorem preL_app : ∀ (d : Nat) (ts us : List Tr), preL d (ts ++ us) = preL d ts ++ preL d us
  | d, [], us => by rw [preL]; rfl
  | d, t :: ts, us => by
    rw [List.cons_append, preL, preL, preL_app d ts us, List.append_assoc]
theorem linesL_take {d : Nat} {ts : List Tr} {i : Nat} {t : Tr} (e : ts[i]? = some t) : linesL d (ts.take (i + 1)) = linesL d (ts.take i) ++ linesT d t := by
  have z : ts.take (i + 1) = ts.take i ++ [t] := by
    rw [List.take_add_one, e]; rfl
  unfold linesL linesT
  rw [z, preL_app, List.map_append]
  congr 1
  rw [preL, preL, List.append_nil]
theorem linesT_len (d : Nat) (t : Tr) : (linesT d t).length = t.names.length := by unfold linesT; rw [List.length_map, pre_len]
theorem linesL_le (d : Nat) (ts : List Tr) (i : Nat) : (linesL d (ts.take i)).length ≤ (Tr.namesL ts).length := by
  unfold linesL
  rw [List.length_map, preL_len]
  have e5 : ts = ts.take i ++ ts.drop i := (List.take_append_drop _ _).symm
  have e6 := congrArg (fun us => (Tr.namesL us).length) e5
  simp only [namesL_app, List.length_append] at e6
  omega
theorem mul_succ : ∀ d, d < 21 → Txt.mul "  " ((d : Nat) : Int) ++ "  " = Txt.mul "  " ((d + 1 : Nat) : Int) := by decide +kernel
theorem mul_len {d : Nat} (h : d < 21) : (Txt.mul "  " ((d : Nat) : Int)).length = 2 * d := by
  rw [← tl_len, mul_tl d h, List.length_replicate]
def spLines (K : PySem.W.Frag) (n : Nat) : Sp := fun vs H Q _ => ∃ (v : V) (d : Nat) (t : Tr), vs = [v, .str (Txt.mul "  " ((d : Nat) : Int))] ∧ PTr K H v t ∧ t.ok ∧ t.pn.lv ≤ n ∧ d + t.pn.lv ≤ 20 ∧ t.names.length ≤ 1000 ∧ ∀ l H', Same H H' → H l = none → H' l = some (.lst ((linesT d t).map V.str)) → Q (.ref l) H'
theorem ok_lines_of (F : Has K mg "_lines_of" s_lines_of) (T : Txt K mg) (L : Pl K) (F_words_of : FnQ P w K mg base CX0 1 "_words_of" ["plan"] (spOut K)) : ∀ n, FnQ P w K mg base CX0 (n + 2) "_lines_of" ["plan", "indent"] (spLines K n) := by
  intro n
  induction n with
  | zero =>
    refine F.q sc_lines_of (fun _ _ _ _ _ _ us hl => match us, hl with | [_, _], _ => rfl) (fun vs H Q E h => by obtain ⟨_, _, _, rfl, _⟩ := h; rfl) (fun cdv A outer s H vs Q E hr h => ?_)
    obtain ⟨v, d, t, _, _, _, lv, _⟩ := h
    have := t.pn.lv_pos
    omega
  | succ n F_lines_of =>
    refine F.q sc_lines_of (fun _ _ _ _ _ _ us hl => match us, hl with | [_, _], _ => rfl) (fun vs H Q E h => by obtain ⟨_, _, _, rfl, _⟩ := h; rfl) (fun cdv A outer s H vs Q E hr h => ?_)
    obtain ⟨v, d, t, rfl, hv, ok, lv, dv, sz, k⟩ := h
    have gI : mg "isinstance" = none := T.fr _ (by simp [frees])
    have lp := t.pn.lv_pos
    have hd : d < 21 := by omega
    refine ⟨_, PSs.nox (pss_cons (ps_set (i := 2) sc_lines_of.nd rfl (by first | exact .inl rfl | exact .inr rfl) (pe_lstM (pa_cons (pe_op op_add_str (pv 1) (pe_join pe_str (pe_f F_words_of hr pass0 (pa_cons (pv 0) pa_nil) (hj := by omega)))) pa_nil)))
  (pss_cons (ps_if (pt_val (pe_callB call_isi (by rfl) gI boot_isinstance (pa_cons (pv 0) (pa_cons (C8.pe_gc (by rfl) T.c_SupervisorPlan) pa_nil))))
  (pss_one (ps_for PassesOwn.never rfl (pi_tup (pe_fld (pv 0) rfl)) (pg_name (i := 3) sc_lines_of.nd rfl (by first | exact .inl rfl | exact .inr rfl))
  (pss_one (ps_expr (pe_bm PySem.F.plainAttrs_list PySem.F.slot_list_extend PySem.F.type_list_extend mt_extend (pv 2) (pa_cons (pe_f F_lines_of hr pass0 (pa_cons (pv 3) (pa_cons (pe_op op_add_str (pv 1) (C8.pe_gc (by rfl) T.c_INDENT)) pa_nil)) (hj := Nat.le_refl _)) pa_nil))))))
  pss_nil)
  (pss_one (ps_ret (pv 2))))), ?_⟩
    have hm := mul_len hd
    have hb := body_len ok
    have hw := sum_wd (words_wd ok)
    rw [words_len] at hw
    have hp := hv.pt
    refine ⟨_, rfl, ⟨_, rfl⟩, _, rfl, v, t, rfl, hv, ok, fun wl G1 s1 n1 e1 => ⟨_, wl, wordsT t, rfl, rfl, .inl (SqL.of e1), ?_, _, _, rfl, rfl, Nat.le_trans (show _ ≤ 200 by show _ + (bodyT t).length ≤ 200; omega) (by decide), (by show 1 ≤ sizeLine; decide), fun l G2 s2 n2 e2 => ?_⟩⟩
    · rw [words_len]
      refine Nat.le_trans (show _ ≤ 20 * 7 + 7 * 1 from Nat.add_le_add hw (by decide +kernel)) (by decide)
    have s12 := s1.trans s2
    have n0 : H l = none := none_old s1 n2
    refine ⟨_, rfl, _, _, _, _, _, rfl, .own _, (hp.same s12).ty T.pk, T.pk.kit _ 6 (kt_lt _) (by decide), _, rfl, ?_⟩
    cases hv with
    | w h dd so =>
      refine if_no rfl ⟨_, rfl, k l _ s12 n0 ?_⟩
      rw [linesT_w]; exact e2
    | @s a dx c nm rs st mo sp dl xs ts h q ha =>
      refine if_yes rfl ?_
      have lx := ha.len
      refine ⟨_, rfl, a, suA K, dx, _, .ref c, rfl, s12 _ _ h, L.cs, L.ns _ (by simp), by kernel_rfl, c, rfl, ⟨_, s12.sqT q⟩, for_it walk_tup (fun i σ G => (∃ v3, σ = [some (.ref a), some (.str (Txt.mul "  " ((d : Nat) : Int))), some (.ref l), v3]) ∧ Same H G ∧ G l = some (.lst ((lineT d (.s nm rs st mo sp dl ts) :: linesL (d + 1) (ts.take i)).map V.str))) ⟨⟨none, rfl⟩, s12, e2⟩ (fun i σ G _ h => h.2.1.sqT q) ?_ ?_⟩
      · rintro i x σ G3 G4 hi ⟨⟨v3, rfl⟩, s3, e3⟩ ⟨rfl, ex⟩
        obtain ⟨tc, et, ht⟩ := ha.get ex
        have zn := names_kid et
        have zt : (Tr.s nm rs st mo sp dl ts).names.length = (Tr.namesL ts).length + 1 := rfl
        have zl := lv_kid et lv
        have zm : tc.pn.lv + 1 ≤ (Tr.s nm rs st mo sp dl ts).pn.lv := by
          have := Pn.lvs_get (pns_get et)
          have y : (Tr.s nm rs st mo sp dl ts).pn.lv = 1 + Pn.lvs (Tr.pns ts) := rfl
          omega
        have l1 := linesL_le (d + 1) ts i
        have l2 := linesT_len (d + 1) tc
        refine ⟨_, rfl, .inl ⟨rfl, _, SqL.of e3⟩, _, rfl, _, rfl, _, _, rfl, rfl, Nat.le_trans (show _ ≤ 50 by rw [hm]; show 2 * d + 2 ≤ 50; omega) (by decide), x, d + 1, tc, by rw [mul_succ d hd]; rfl, ht.same s3, oks_get ok.2.2.2.2.2.2.2 et, zl, by omega, by omega, fun l2' G5 s5 n5 e5 => ?_⟩
        refine ⟨l, l2', _, _, rfl, rfl, s5 _ _ e3, e5, Nat.le_trans (show _ ≤ 2000 by rw [List.length_map, List.length_map, List.length_cons]; omega) (by decide), ⟨_, rfl⟩, same_putN (s3.trans s5) n0, ?_⟩
        rw [linesL_take et]
        refine upd_same.trans ?_
        rw [← List.map_append, List.cons_append]
      · rintro σ G ⟨⟨v3, rfl⟩, s3, e3⟩
        refine ⟨_, rfl, k l G s3 n0 ?_⟩
        rw [lx, List.take_length] at e3
        rw [linesT_s]; exact e3
def spText (K : PySem.W.Frag) : Sp := fun vs H Q _ => ∃ (v : V) (t : Tr), vs = [v] ∧ PTr K H v t ∧ t.ok ∧ t.pn.lv ≤ 20 ∧ t.names.length ≤ 200 ∧ ∀ H', Same H H' → Q (.str (Txt.join "\n" (linesT 0 t))) H'
theorem lines_sum {d : Nat} {t : Tr} (ok : t.ok) (dv : d + t.pn.lv ≤ 21) : ((linesT d t).map (·.length)).sum ≤ 190 * t.names.length := by
  have z : ∀ x ∈ linesT d t, x.length ≤ 190 := fun x hx => by
    unfold linesT at hx
    obtain ⟨p, hp, rfl⟩ := List.mem_map.mp hx
    obtain ⟨a, b, c⟩ := pre_ok d t ok p hp
    rw [line_len (d := p.1) (by omega)]
    have := body_len a
    omega
  have y := sum_le z
  rw [linesT_len] at y
  exact y
theorem ok_plan_text (F : Has K mg "plan_text" s_plan_text) (T : Txt K mg) (F_lines_of : FnQ P w K mg base CX0 22 "_lines_of" ["plan", "indent"] (spLines K 20)) : FnQ P w K mg base CX0 23 "plan_text" ["plan"] (spText K) := by
  refine F.q sc_plan_text (fun _ _ _ _ _ _ us hl => match us, hl with | [_], _ => rfl) (fun vs H Q E h => by obtain ⟨_, _, rfl, _⟩ := h; rfl) (fun cdv A outer s H vs Q E hr h => ?_)
  obtain ⟨v, t, rfl, hv, ok, lv, sz, k⟩ := h
  refine ⟨_, PSs.nox (pss_one (ps_ret (pe_join pe_str (pe_f F_lines_of hr pass0 (pa_cons (pv 0) (pa_cons pe_str pa_nil)) (hj := Nat.le_refl _))))), ?_⟩
  have e0 : ("" : Str) = Txt.mul "  " ((0 : Nat) : Int) := by decide +kernel
  refine ⟨⟨_, rfl⟩, _, rfl, v, 0, t, congrArg (fun z => [v, V.str z]) e0, hv, ok, lv, by omega, by omega, fun l G s1 n1 e1 => ⟨_, l, linesT 0 t, rfl, rfl, .inl (SqL.of e1), ?_, k G s1⟩⟩
  have z := lines_sum (d := 0) ok (by omega)
  rw [linesT_len]
  exact Nat.le_trans (show _ ≤ 190 * 200 + 200 * 1 from Nat.add_le_add (by omega) (Nat.mul_le_mul sz (by decide +kernel))) (by decide)
end
end K08
/-! x != y of two instances of one class with its own == -/
namespace StD
open PySem PySem.Spec PyProof.Rows L2
open PySem.W (Frag InstAt Looks findIn isFn)
section
variable {prog : Program} {w : World} {A : Around} {E : Value → Shared → Prop} {s : Shared} {K : Frag} {C x y f : Addr} {ox oy : Obj} {od od' : Option Obj}
theorem bind_ne (v : Value) : bindSpecial (.builtin "object.__ne__") v = pure (.builtin "object.__ne__", [v]) := by kernel_rfl
theorem ne_true {Q : Value → Shared → Prop} (hu : A.units + 1 < cLine) (X : K.In s.heap) (I : InstAt s.heap x ox C od) (J : InstAt s.heap y oy C od') (hn : findIn K (.ref C) "__ne__" = some (some (.builtin "object.__ne__"))) (ho : PySem.W.subIn K (.ref C) (.type "object") = some true)
    (hs : findIn K (.ref C) "__eq__" = some (some (.ref f))) (hf : isFn K (.ref f) = true) (h : wpAny (model prog w) A.in1 (call (.ref f) [.ref x, .ref y]) (fun v s' => v = .bool true ∧ Q (.bool false) s') E s) :
    wpAny (model prog w) A (richCompare .NotEq (.ref x) (.ref y)) Q E s := by
  have sp : Looks (model prog w) s.heap (specialOf (.ref x) "__ne__") (some (.builtin "object.__ne__")) := I.type.andThen (PySem.W.looks_findIn X hn)
  have one : wpAny (model prog w) A (tryCompare (.ref x) "__ne__" (.ref y)) (fun r s' => ∃ v, r = some v ∧ Q v s') E s := by
    have iv : Looks (model prog w) s.heap (isInstance (.ref x) (.type "object")) true := I.type.andThen (PySem.W.looks_subIn X ho)
    have body : wpAny (model prog w) A.in1 (Builtin.«object.__ne__» ⟨[.ref x, .ref y], []⟩) (fun fin s' => fin = .done (.ret (.bool false)) ∧ Q (.bool false) s') E s := by
      unfold Builtin.«object.__ne__»
      refine wpAny_bind (wpAny_pure ?_)
      refine wpAny_bind (wpAny_cRoomFor (by show A.units + 1 < cLine; omega) ?_)
      refine wpAny_bind (m := callSpecialIfBound? (.ref x) (PySem.Str.ofString "__eq__") [.ref y]) (PySem.W.ifBound_K X I hs hf (wpAny_mono h (fun v s' hv => ?_) fun _ _ e => e))
      obtain ⟨rfl, q⟩ := hv
      refine wpAny_bind (wpAny_truthy_bool ?_)
      exact wpAny_pure ⟨rfl, q⟩
    unfold tryCompare
    refine wpAny_bind (NtL.csib sp (bind_ne _) (wpAny_call (codeAny_call_builtin (by decide +kernel) PySem.F.cmpEntry_ne (PySem.W.check_slot PySem.F.cmpKind_ne PySem.F.cmpSplit_ne iv (PySem.F.cmpArgs_ne _ _) (wpAny_mono body (fun fin s' q => ?_) fun _ _ z => z)))))
    obtain ⟨rfl, q⟩ := q
    exact wpAny_pure ⟨_, rfl, q⟩
  unfold richCompare
  simp only [oneThing_ref]
  refine wpAny_holding (wpAny_bind (wpAny_cRoomFor (by omega) ?_))
  refine wpAny_bind (I.type.here (wpAny_bind (J.type.here ?_)))
  rw [cmpInfo_NotEq]
  dsimp only
  rw [if_neg (by simp)]
  refine wpAny_bind (wpAny_pure ?_)
  simp only [Bool.false_eq_true, if_false]
  refine wpAny_bind (wpAny_mono one (fun r s' z => ?_) fun _ _ e => e)
  obtain ⟨v, rfl, q⟩ := z
  exact wpAny_pure q
end
section
variable {X : Cx} {n : Nat}
/-- x != y of two instances of the class at C that its own == says to be equal -/
def rNeIns (D : Eqv) : R2 := fun x y H Q => D x y H ∧ ∀ H', Ext H H' → Q (.bl false) H'
theorem ne_ins {CX : CXT} {C f : Addr} {fd : FuncData} {ps : List Str} {R : Addr → Addr → Hp → Prop} {E : XK} (F : FnOk X.prog X.w X.K X.mg X.base CX n f fd ps (spEq R))
    (hs : PySem.W.findIn X.K (.ref C) "__eq__" = some (some (.ref f))) (hf : PySem.W.isFn X.K (.ref f) = true) (hb : Binds X.K fd ps []) (hx : Passes CX X E) (hn : PySem.W.findIn X.K (.ref C) "__ne__" = some (some (.builtin "object.__ne__"))) (ho : PySem.W.subIn X.K (.ref C) (.type "object") = some true) (hr : Room (n + 1) X.A) :
    OpR X (compareOp .NotEq) (rNeIns (DIns C R)) := by
  intro pins s σ H x y u v Q I rx ry h
  obtain ⟨⟨a, b, dx, dy, fs, gs, rfl, rfl, ha, hb', hrr⟩, q⟩ := h
  cases rx
  cases ry
  obtain ⟨mA, J, _⟩ := ins_get I.hok ha
  obtain ⟨mB, J', _⟩ := ins_get I.hok hb'
  obtain ⟨od, J, _⟩ := J.look
  obtain ⟨od', J', _⟩ := J'.look
  have sb : Sub X (n + 1) X.A := ⟨hr, rfl⟩
  show wpAny (model X.prog X.w) X.A (richCompare .NotEq (.ref a) (.ref b)) _ _ _
  refine ne_true (by have z := sb.in1.room.units0; exact z) I.kIn J J' hn ho hs hf ?_
  have hsp : spEq R [.ref a, .ref b] H (fun v H' => v = .bl true ∧ Ext H H') E := ⟨a, b, rfl, hrr, fun H' e => ⟨rfl, e⟩⟩
  have e0 : Env0 X.prog X.w X.K X.mg X.base X.A.in1 X.stack s H := I.env0.in1
  have hl := F.len _ _ _ _ hsp
  have r2 : Vals [V.ref a, V.ref b] [Value.ref a, Value.ref b] := .cons rfl (.cons rfl .nil)
  refine wpAny_call (codeAny_mono (F.run X.A.in1 X.stack s H ⟨[.ref a, .ref b], []⟩ [.ref a, .ref b] [.ref a, .ref b] _ E sb.in1.room e0 (by
    have := hb s [.ref a, .ref b] I.kIn (by simpa using hl)
    simpa using this) r2 hsp) fun r s' hq => ?_)
  cases r with
  | error e => exact hx pins σ H s e s' I hq
  | ok fl =>
    cases fl with
    | ret w =>
      obtain ⟨z, H', I', rz, ez, ex⟩ := I.after hq
      subst ez
      cases rz
      exact ⟨rfl, .bl false, H', I', rfl, q H' ex⟩
    | next => exact False.elim hq
    | brk => exact False.elim hq
    | cont => exact False.elim hq
theorem ne_or {D D' : Eqv} (h : OpR X (compareOp .NotEq) (rNeIns D)) (h' : OpR X (compareOp .NotEq) (rNeIns D')) : OpR X (compareOp .NotEq) (rNeIns fun x y H => D x y H ∨ D' x y H) := by
  intro pins s σ H x y u v Q I rx ry hq
  obtain ⟨d | d, q⟩ := hq
  · exact h pins s σ H x y u v Q I rx ry ⟨d, q⟩
  · exact h' pins s σ H x y u v Q I rx ry ⟨d, q⟩
end
end StD
/-! == of two plans of the same data -/
namespace L2
open PySem PySem.Spec PyProof.Rows
def rEqSame (K : PySem.W.Frag) : R2 := fun x y H Q => (∃ a xs, x = .ref a ∧ y = .ref a ∧ SqT K H a xs) ∧ Q (.bl true) H
theorem op_eqSame {X : Cx} (hu : X.A.units + 64 < cLine) : OpR X (compareOp .Eq) (rEqSame X.K) := by
  rintro pins s σ H x y v u Q I rx ry ⟨⟨a, xs, rfl, rfl, hT⟩, q⟩
  obtain rfl : v = Value.ref a := rx
  obtain rfl : u = Value.ref a := ry
  obtain ⟨its, r, hl, _⟩ := I.tuple hT
  have all : ((List.range (min its.toArray.size its.toArray.size)).all fun _ => true) = true := List.all_eq_true.mpr fun _ _ => rfl
  have z := SeqAt.RcAt.tuples (A := X.A) (e := fun _ => true) hl hl (by omega) (fun j _ _ => SeqAt.EqAt.same _)
  rw [all, show (its.toArray.size == its.toArray.size) = true from beq_self_eq_true _] at z
  exact z X.prog X.w X.xe _ ⟨.bl true, H, I, rfl, q⟩
end L2
namespace K08
open PySem PySem.Spec PyProof.Rows L2
section
variable {P : Program} {w : World} {K : PySem.W.Frag} {mg : Str → Option Value} {base : Heap}
abbrev s_WorkerPlan___eq__ : Stmt := (inClass (top 53) 1)
def N_WorkerPlan___eq__ : List Str := ["self", "other"]
theorem sc_WorkerPlan___eq__ : FnScope N_WorkerPlan___eq__ ["self", "other"] (defScope s_WorkerPlan___eq__) := ⟨rfl, rfl, rfl, by decide +kernel, rfl, by decide +kernel, by decide +kernel⟩
abbrev s_SupervisorPlan___eq__ : Stmt := (inClass (top 54) 1)
def N_SupervisorPlan___eq__ : List Str := ["self", "other"]
theorem sc_SupervisorPlan___eq__ : FnScope N_SupervisorPlan___eq__ ["self", "other"] (defScope s_SupervisorPlan___eq__) := ⟨rfl, rfl, rfl, by decide +kernel, rfl, by decide +kernel, by decide +kernel⟩
/-- two worker plans of the same data -/
def Rw (K : PySem.W.Frag) (a b : Addr) (H : Hp) : Prop := ∃ n r o c dl rf sc sd, PTr K H (.ref a) (.w n r o c dl rf sc sd) ∧ PTr K H (.ref b) (.w n r o c dl rf sc sd) ∧ (Tr.w n r o c dl rf sc sd).ok
/-- two supervisor plans of the same data -/
def Rs (K : PySem.W.Frag) (m : Nat) (a b : Addr) (H : Hp) : Prop := ∃ n r st mo sp dl ts, PTr K H (.ref a) (.s n r st mo sp dl ts) ∧ PTr K H (.ref b) (.s n r st mo sp dl ts) ∧ (Tr.s n r st mo sp dl ts).ok ∧ (Tr.s n r st mo sp dl ts).pn.lv ≤ m
/-- the same, as values -/
def Dq (K : PySem.W.Frag) (m : Nat) : Eqv := fun x y H => DIns (wkA K) (Rw K) x y H ∨ DIns (suA K) (Rs K m) x y H
theorem Rw.ext (a b : Addr) (H H' : Hp) (e : Ext H H') (h : Rw K a b H) : Rw K a b H' := by
  obtain ⟨n, r, o, c, dl, rf, sc, sd, h1, h2, h3⟩ := h
  exact ⟨n, r, o, c, dl, rf, sc, sd, h1.same e, h2.same e, h3⟩
theorem Rs.ext {m : Nat} (a b : Addr) (H H' : Hp) (e : Ext H H') (h : Rs K m a b H) : Rs K m a b H' := by
  obtain ⟨n, r, st, mo, sp, dl, ts, h1, h2, h3, h4⟩ := h
  exact ⟨n, r, st, mo, sp, dl, ts, h1.same e, h2.same e, h3, h4⟩
theorem mon_dq {m : Nat} : Mon (Dq K m) := Mon.or (mon_ins Rw.ext) (mon_ins Rs.ext)
theorem dq_of {m : Nat} {H : Hp} {x y : V} {t : Tr} (h : PTr K H x t) (g : PTr K H y t) (ok : t.ok) (lv : t.pn.lv ≤ m) : Dq K m x y H := by
  have h' := h
  have g' := g
  cases h with
  | w q1 q2 q3 => cases g with
    | w r1 r2 r3 => exact .inl ⟨_, _, _, _, _, _, rfl, rfl, q1, r1, _, _, _, _, _, _, _, _, h', g', ok⟩
  | s q1 q2 q3 => cases g with
    | s r1 r2 r3 => exact .inr ⟨_, _, _, _, _, _, rfl, rfl, q1, r1, _, _, _, _, _, _, _, h', g', ok, lv⟩
theorem scal_dl {v : V} (h : DlOk v) : scal v v = true := by
  rcases h with rfl | ⟨i, rfl, _⟩ <;> rfl
theorem sq_of_script {H : Hp} {v : V} {d : Dt} (h : Dd K H v d) (e : scriptD d = true) : ∃ a xs, v = .ref a ∧ SqT K H a xs := by
  cases h with
  | tup h t => exact ⟨_, _, rfl, h⟩
  | _ => simp [scriptD] at e
theorem ok_eq_w {fd : FuncData} (F : FunD K "__eq__" "WorkerPlan.__eq__" (defArgs s_WorkerPlan___eq__) (defBody s_WorkerPlan___eq__) (defScope s_WorkerPlan___eq__) [] [] (He.ma K (wkA K) "__eq__") fd) (T : Txt K mg) (L : Pl K) :
    FnOk P w K mg base CX0 1 (He.ma K (wkA K) "__eq__") fd ["self", "other"] (spEq (Rw K)) := by
  refine F.ok sc_WorkerPlan___eq__ (fun vs H Q E h => by obtain ⟨_, _, rfl, _⟩ := h; rfl) (fun cdv A outer s H vs Q E hr h => ?_)
  obtain ⟨a, b, rfl, ⟨n, r, o, c, dl, rf, sc, sd, h1, h2, ok⟩, k⟩ := h
  have gI : mg "isinstance" = none := T.fr _ (by simp [frees])
  refine ⟨_, PSs.nox (pss_one (ps_ret (pe_and (pe_callB call_isi (by rfl) gI boot_isinstance (pa_cons (pv 1) (pa_cons (C8.pe_gc (by rfl) T.c_WorkerPlan) pa_nil))) (pe_and (pe_cmpR op_eq (pe_fld (pv 0) rfl) (pe_fld (pv 1) rfl) (by first | exact nomark _ | rfl)) (pe_and (pe_cmpR op_eq (pe_fld (pv 0) rfl) (pe_fld (pv 1) rfl) (by first | exact nomark _ | rfl)) (pe_and (pe_cmpR op_eq (pe_fld (pv 0) rfl) (pe_fld (pv 1) rfl) (by first | exact nomark _ | rfl)) (pe_and (pe_cmpR op_eq (pe_fld (pv 0) rfl) (pe_fld (pv 1) rfl) (by first | exact nomark _ | rfl)) (pe_and (pe_cmpR op_eq (pe_fld (pv 0) rfl) (pe_fld (pv 1) rfl) (by first | exact nomark _ | rfl)) (pe_and (pe_cmpR op_eq (pe_fld (pv 0) rfl) (pe_fld (pv 1) rfl) (by first | exact nomark _ | rfl)) (pe_one (pe_cmpR (op_eqD hr.units) (pe_fld (pv 0) rfl) (pe_fld (pv 1) rfl) (by first | exact nomark _ | rfl)))))))))))), ?_⟩
  refine ⟨_, rfl, _, _, _, _, _, rfl, .own _, h2.pt.ty T.pk, T.pk.kit _ 5 (kt_lt _) (by decide), _, rfl, if_yes rfl ?_⟩
  obtain ⟨o1, o2, o3, o4, o5, o6, o7, o8, o9⟩ := ok
  cases h1 with
  | @w _ _ _ _ _ _ _ _ _ sc1 _ ha hd so =>
  cases h2 with
  | @w _ _ _ _ _ _ _ _ _ sc2 _ hb hd2 so2 =>
  subst o9
  cases hd with
  | @tup s1 _ _ hs1 ht1 =>
  cases ht1
  cases hd2 with
  | @tup s2 _ _ hs2 ht2 =>
  cases ht2
  refine ⟨_, rfl, a, wkA K, _, _, .str n, rfl, ha, L.cw, L.nw _ (by simp), by kernel_rfl, _, rfl, b, wkA K, _, _, .str n, rfl, hb, L.cw, L.nw _ (by simp), by kernel_rfl, rfl, _, rfl, if_yes (decide_eq_true rfl) ?_⟩
  refine ⟨_, rfl, a, wkA K, _, _, .str r, rfl, ha, L.cw, L.nw _ (by simp), by kernel_rfl, _, rfl, b, wkA K, _, _, .str r, rfl, hb, L.cw, L.nw _ (by simp), by kernel_rfl, rfl, _, rfl, if_yes (decide_eq_true rfl) ?_⟩
  refine ⟨_, rfl, a, wkA K, _, _, .int o, rfl, ha, L.cw, L.nw _ (by simp), by kernel_rfl, _, rfl, b, wkA K, _, _, .int o, rfl, hb, L.cw, L.nw _ (by simp), by kernel_rfl, rfl, _, rfl, if_yes (decide_eq_true rfl) ?_⟩
  refine ⟨_, rfl, a, wkA K, _, _, .int c, rfl, ha, L.cw, L.nw _ (by simp), by kernel_rfl, _, rfl, b, wkA K, _, _, .int c, rfl, hb, L.cw, L.nw _ (by simp), by kernel_rfl, rfl, _, rfl, if_yes (decide_eq_true rfl) ?_⟩
  refine ⟨_, rfl, a, wkA K, _, _, dl, rfl, ha, L.cw, L.nw _ (by simp), by kernel_rfl, _, rfl, b, wkA K, _, _, dl, rfl, hb, L.cw, L.nw _ (by simp), by kernel_rfl, scal_dl o5, _, rfl, if_yes (decide_eq_true rfl) ?_⟩
  refine ⟨_, rfl, a, wkA K, _, _, .int rf, rfl, ha, L.cw, L.nw _ (by simp), by kernel_rfl, _, rfl, b, wkA K, _, _, .int rf, rfl, hb, L.cw, L.nw _ (by simp), by kernel_rfl, rfl, _, rfl, if_yes (decide_eq_true rfl) ?_⟩
  exact ⟨_, rfl, a, wkA K, _, _, .ref s1, rfl, ha, L.cw, L.nw _ (by simp), by kernel_rfl, _, rfl, b, wkA K, _, _, .ref s2, rfl, hb, L.cw, L.nw _ (by simp), by kernel_rfl, .tuple [], .tuple [], .tup hs1 .nil, .tup hs2 .nil, by decide +kernel, by decide +kernel, k H (fun _ _ e => e)⟩
/-- where the two classes have their __eq__ -/
structure Eqs (K : PySem.W.Frag) : Prop where
  w1 : PySem.W.findIn K (.ref (wkA K)) "__eq__" = some (some (.ref (He.ma K (wkA K) "__eq__")))
  w2 : PySem.W.isFn K (.ref (He.ma K (wkA K) "__eq__")) = true
  s1 : PySem.W.findIn K (.ref (suA K)) "__eq__" = some (some (.ref (He.ma K (suA K) "__eq__")))
  s2 : PySem.W.isFn K (.ref (He.ma K (suA K) "__eq__")) = true
/-- the promises of both -/
structure EqF (P : Program) (w : World) (K : PySem.W.Frag) (mg : Str → Option Value) (base : Heap) (m : Nat) : Prop where
  at' : Eqs K
  fw : ∃ fd, FnOk P w K mg base CX0 (2 * m + 1) (He.ma K (wkA K) "__eq__") fd ["self", "other"] (spEq (Rw K)) ∧ Binds K fd ["self", "other"] []
  fs : ∃ fd, FnOk P w K mg base CX0 (2 * m + 1) (He.ma K (suA K) "__eq__") fd ["self", "other"] (spEq (Rs K m)) ∧ Binds K fd ["self", "other"] []
theorem eqg_of {X : Cx} {m : Nat} (Z : EqF X.prog X.w X.K X.mg X.base m) : EqG X (2 * m + 1) (Dq X.K m) := by
  obtain ⟨fw, Fw, bw⟩ := Z.fw
  obtain ⟨fs, Fs, bs⟩ := Z.fs
  exact EqG.or (eqG_ins (E := E0) Fw Z.at'.w1 Z.at'.w2 bw pass0) (eqG_ins (E := E0) Fs Z.at'.s1 Z.at'.s2 bs pass0)
theorem rcg_of {X : Cx} {m : Nat} (Z : EqF X.prog X.w X.K X.mg X.base m) : RcG X (2 * m + 1) (Dq X.K m) := by
  obtain ⟨fw, Fw, bw⟩ := Z.fw
  obtain ⟨fs, Fs, bs⟩ := Z.fs
  intro A pins s σ H x y u v sb I rx ry d
  rcases d with d | d
  · exact rcG_ins (E := E0) Fw Z.at'.w1 Z.at'.w2 bw pass0 A pins s σ H x y u v sb I rx ry d
  · exact rcG_ins (E := E0) Fs Z.at'.s1 Z.at'.s2 bs pass0 A pins s σ H x y u v sb I rx ry d
theorem prs_of {m : Nat} {H : Hp} : ∀ {xs ys : List V} {ts : List Tr}, PTrs K H xs ts → PTrs K H ys ts → Tr.oks ts → Pn.lvs (Tr.pns ts) ≤ m → L2.Prs (Dq K m) xs ys H
  | _, _, _, .nil, .nil, _, _ => L2.Prs.nil
  | _, _, _, .cons h t, .cons g u, ok, lv => by
    unfold Tr.pns Pn.lvs at lv
    exact L2.Prs.cons (dq_of h g ok.1 (by omega)) (prs_of t u ok.2 (by omega))
theorem ok_eq_s {fd : FuncData} {m : Nat} (F : FunD K "__eq__" "SupervisorPlan.__eq__" (defArgs s_SupervisorPlan___eq__) (defBody s_SupervisorPlan___eq__) (defScope s_SupervisorPlan___eq__) [] [] (He.ma K (suA K) "__eq__") fd) (T : Txt K mg) (L : Pl K) (Z : EqF P w K mg base m) :
    FnOk P w K mg base CX0 (2 * m + 3) (He.ma K (suA K) "__eq__") fd ["self", "other"] (spEq (Rs K (m + 1))) := by
  refine F.ok sc_SupervisorPlan___eq__ (fun vs H Q E h => by obtain ⟨_, _, rfl, _⟩ := h; rfl) (fun cdv A outer s H vs Q E hr h => ?_)
  obtain ⟨a, b, rfl, ⟨n, r, st, mo, sp, dl, ts, h1, h2, ok, lv⟩, k⟩ := h
  have gI : mg "isinstance" = none := T.fr _ (by simp [frees])
  refine ⟨_, PSs.nox (pss_one (ps_ret (pe_and (pe_callB call_isi (by rfl) gI boot_isinstance (pa_cons (pv 1) (pa_cons (C8.pe_gc (by rfl) T.c_SupervisorPlan) pa_nil))) (pe_and (pe_cmpR op_eq (pe_fld (pv 0) rfl) (pe_fld (pv 1) rfl) (by first | exact nomark _ | rfl)) (pe_and (pe_cmpR op_eq (pe_fld (pv 0) rfl) (pe_fld (pv 1) rfl) (by first | exact nomark _ | rfl)) (pe_and (pe_cmpR op_eq (pe_fld (pv 0) rfl) (pe_fld (pv 1) rfl) (by first | exact nomark _ | rfl)) (pe_and (pe_cmpR op_eq (pe_fld (pv 0) rfl) (pe_fld (pv 1) rfl) (by first | exact nomark _ | rfl)) (pe_and (pe_cmpR op_eq (pe_fld (pv 0) rfl) (pe_fld (pv 1) rfl) (by first | exact nomark _ | rfl)) (pe_and (pe_cmpR op_eq (pe_fld (pv 0) rfl) (pe_fld (pv 1) rfl) (by first | exact nomark _ | rfl)) (pe_one (pe_cmpR (op_eqG (D := DTup K (Dq K m)) (rcG_tup mon_dq (eqg_of Z)) hr) (pe_fld (pv 0) rfl) (pe_fld (pv 1) rfl) (by first | exact nomark _ | rfl)))))))))))), ?_⟩
  refine ⟨_, rfl, _, _, _, _, _, rfl, .own _, h2.pt.ty T.pk, T.pk.kit _ 6 (kt_lt _) (by decide), _, rfl, if_yes rfl ?_⟩
  obtain ⟨o1, o2, o3, o4, o5, o6, o7, o8⟩ := ok
  cases h1 with
  | @s _ dx1 c1 _ _ _ _ _ _ xs _ ha hq hx =>
  cases h2 with
  | @s _ dx2 c2 _ _ _ _ _ _ ys _ hb hq2 hy =>
  refine ⟨_, rfl, a, suA K, _, _, .str n, rfl, ha, L.cs, L.ns _ (by simp), by kernel_rfl, _, rfl, b, suA K, _, _, .str n, rfl, hb, L.cs, L.ns _ (by simp), by kernel_rfl, rfl, _, rfl, if_yes (decide_eq_true rfl) ?_⟩
  refine ⟨_, rfl, a, suA K, _, _, .str r, rfl, ha, L.cs, L.ns _ (by simp), by kernel_rfl, _, rfl, b, suA K, _, _, .str r, rfl, hb, L.cs, L.ns _ (by simp), by kernel_rfl, rfl, _, rfl, if_yes (decide_eq_true rfl) ?_⟩
  refine ⟨_, rfl, a, suA K, _, _, .str st, rfl, ha, L.cs, L.ns _ (by simp), by kernel_rfl, _, rfl, b, suA K, _, _, .str st, rfl, hb, L.cs, L.ns _ (by simp), by kernel_rfl, rfl, _, rfl, if_yes (decide_eq_true rfl) ?_⟩
  refine ⟨_, rfl, a, suA K, _, _, .int mo, rfl, ha, L.cs, L.ns _ (by simp), by kernel_rfl, _, rfl, b, suA K, _, _, .int mo, rfl, hb, L.cs, L.ns _ (by simp), by kernel_rfl, rfl, _, rfl, if_yes (decide_eq_true rfl) ?_⟩
  refine ⟨_, rfl, a, suA K, _, _, .int sp, rfl, ha, L.cs, L.ns _ (by simp), by kernel_rfl, _, rfl, b, suA K, _, _, .int sp, rfl, hb, L.cs, L.ns _ (by simp), by kernel_rfl, rfl, _, rfl, if_yes (decide_eq_true rfl) ?_⟩
  refine ⟨_, rfl, a, suA K, _, _, dl, rfl, ha, L.cs, L.ns _ (by simp), by kernel_rfl, _, rfl, b, suA K, _, _, dl, rfl, hb, L.cs, L.ns _ (by simp), by kernel_rfl, scal_dl o6, _, rfl, if_yes (decide_eq_true rfl) ?_⟩
  have lv' : 1 + Pn.lvs (Tr.pns ts) ≤ m + 1 := lv
  exact ⟨_, rfl, a, suA K, _, _, .ref c1, rfl, ha, L.cs, L.ns _ (by simp), by kernel_rfl, _, rfl, b, suA K, _, _, .ref c2, rfl, hb, L.cs, L.ns _ (by simp), by kernel_rfl, ⟨c1, c2, xs, ys, rfl, rfl, hq, hq2, prs_of hx hy o8 (by omega)⟩, k⟩
end
end K08
/-! == and != of plans, all levels -/
namespace K08
open PySem PySem.Spec PyProof.Rows L2
/-- what is asked of the two classes' == -/
structure EqD (K : PySem.W.Frag) : Prop where
  at' : Eqs K
  nw : PySem.W.findIn K (.ref (wkA K)) "__ne__" = some (some (.builtin "object.__ne__"))
  ns : PySem.W.findIn K (.ref (suA K)) "__ne__" = some (some (.builtin "object.__ne__"))
  ow : PySem.W.subIn K (.ref (wkA K)) (.type "object") = some true
  os : PySem.W.subIn K (.ref (suA K)) (.type "object") = some true
  dw : ∃ fd, FunD K "__eq__" "WorkerPlan.__eq__" (defArgs s_WorkerPlan___eq__) (defBody s_WorkerPlan___eq__) (defScope s_WorkerPlan___eq__) [] [] (He.ma K (wkA K) "__eq__") fd
  ds : ∃ fd, FunD K "__eq__" "SupervisorPlan.__eq__" (defArgs s_SupervisorPlan___eq__) (defBody s_SupervisorPlan___eq__) (defScope s_SupervisorPlan___eq__) [] [] (He.ma K (suA K) "__eq__") fd
section
variable {P : Program} {w : World} {K : PySem.W.Frag} {mg : Str → Option Value} {base : Heap}
theorem eqf_all (D : EqD K) (T : Txt K mg) (L : Pl K) : ∀ m, EqF P w K mg base m := by
  obtain ⟨fw, Dw⟩ := D.dw
  obtain ⟨fs, Ds⟩ := D.ds
  have bw : Binds K fw ["self", "other"] [] := FunD.bindsN Dw fun _ _ _ _ _ _ us hl => match us, hl with | [_, _], _ => rfl
  have bs : Binds K fs ["self", "other"] [] := FunD.bindsN Ds fun _ _ _ _ _ _ us hl => match us, hl with | [_, _], _ => rfl
  have W := ok_eq_w (P := P) (w := w) (base := base) Dw T L
  intro m
  induction m with
  | zero =>
    refine ⟨D.at', ⟨fw, W, bw⟩, ⟨fs, ?_, bs⟩⟩
    refine Ds.ok sc_SupervisorPlan___eq__ (fun vs H Q E h => by obtain ⟨_, _, rfl, _⟩ := h; rfl) (fun cdv A outer s H vs Q E hr h => ?_)
    obtain ⟨a, b, rfl, ⟨n, r, st, mo, sp, dl, ts, h1, h2, ok, lv⟩, k⟩ := h
    have := (Tr.s n r st mo sp dl ts).pn.lv_pos
    omega
  | succ m ih =>
    exact ⟨D.at', ⟨fw, W.mono (by omega), bw⟩, ⟨fs, ok_eq_s Ds T L ih, bs⟩⟩
theorem ne_dq {X : Cx} {m : Nat} (D : EqD X.K) (Z : EqF X.prog X.w X.K X.mg X.base m) (hr : Room (2 * m + 2) X.A) : OpR X (compareOp .NotEq) (StD.rNeIns (Dq X.K m)) := by
  obtain ⟨fw, Fw, bw⟩ := Z.fw
  obtain ⟨fs, Fs, bs⟩ := Z.fs
  exact StD.ne_or (StD.ne_ins (E := E0) Fw Z.at'.w1 Z.at'.w2 bw pass0 D.nw D.ow hr) (StD.ne_ins (E := E0) Fs Z.at'.s1 Z.at'.s2 bs pass0 D.ns D.os hr)
theorem eq_dq {X : Cx} {m : Nat} (Z : EqF X.prog X.w X.K X.mg X.base m) (hr : Room (2 * m + 1) X.A) : OpR X (compareOp .Eq) (rEqG (Dq X.K m)) := op_eqG (rcg_of Z) hr
end
end K08
/-! _law_counts_right -/
namespace K08
open PySem PySem.Spec PyProof.Rows L2 TL
theorem nm_strOk {x : Str} (h : NmOk x) : PyData.strOk x = true := by
  have z := h.1
  simp only [isPlace, isWord, wordS, Bool.and_eq_true] at z
  have y := List.all_eq_true.mp z.1.2
  have small : ∀ c ∈ signsS.cps.toList, c < 0x110000 := by decide +kernel
  unfold PyData.strOk
  rw [← Array.all_toList]
  exact List.all_eq_true.mpr fun c hc => decide_eq_true (small c (of_decide_eq_true (y c hc)))
theorem lay_strs : ∀ ws : List Str, (∀ x ∈ ws, PyData.strOk x = true) → PyData.canLayAll0 (ws.map PyData.str) = true
  | [], _ => rfl
  | w :: ws, h => by
    show (PyData.strOk w && PyData.canLayAll0 (ws.map PyData.str)) = true
    rw [lay_strs ws fun x hx => h x (List.mem_cons_of_mem _ hx), h w List.mem_cons_self]; rfl
theorem depth_strs : ∀ ws : List Str, PyData.depthAll (ws.map PyData.str) = 0
  | [] => rfl
  | w :: ws => by
    show max (PyData.depth (.str w)) (PyData.depthAll (ws.map PyData.str)) = 0
    rw [depth_strs ws]; rfl
theorem shaped_strs (ws : List Str) (h : ∀ x ∈ ws, PyData.strOk x = true) : SeqAt.shaped (.tuple (ws.map PyData.str)) = true ∧ SeqAt.shaped (.list (ws.map PyData.str)) = true := by
  have h1 : PyData.canLay0 (.tuple (ws.map PyData.str)) = true := lay_strs ws h
  have h3 : PyData.canLay0 (.list (ws.map PyData.str)) = true := lay_strs ws h
  have h2 : PyData.depth (.tuple (ws.map PyData.str)) ≤ 64 := by
    show PyData.depthAll (ws.map PyData.str) + 1 ≤ 64
    rw [depth_strs]; decide
  have h4 : PyData.depth (.list (ws.map PyData.str)) ≤ 64 := by
    show PyData.depthAll (ws.map PyData.str) + 1 ≤ 64
    rw [depth_strs]; decide
  unfold SeqAt.shaped
  rw [h1, h3, decide_eq_true h2, decide_eq_true h4]; exact ⟨rfl, rfl⟩
theorem eqv_strs : ∀ ws : List Str, PyData.eqvAll (ws.map PyData.str) (ws.map PyData.str) = true
  | [] => rfl
  | w :: ws => by
    show ((w == w) && PyData.eqvAll (ws.map PyData.str) (ws.map PyData.str)) = true
    rw [eqv_strs ws]; simp
section
variable {K : PySem.W.Frag} {H : Hp}
theorem dp_strs : ∀ ws : List Str, DpAll K H (ws.map V.str) (ws.map PyData.str)
  | [] => .nil
  | w :: ws => .cons (.str w) (dp_strs ws)
theorem ne_strsL {l b : Addr} {ws : List Str} {Q : VK} (h : ∀ x ∈ ws, NmOk x) (e1 : SqL K H l (ws.map V.str)) (e2 : SqL K H b (ws.map V.str)) (q : Q (.bl false) H) : rNeD K (.ref l) (.ref b) H Q := by
  have s := (shaped_strs ws fun x hx => nm_strOk (h x hx)).2
  refine ⟨_, _, .lst e1 (dp_strs ws), .lst e2 (dp_strs ws), s, s, ?_⟩
  rw [show PyData.eqv (.list (ws.map PyData.str)) (.list (ws.map PyData.str)) = true from eqv_strs ws]; exact q
theorem ne_strsT {l b : Addr} {ws : List Str} {Q : VK} (h : ∀ x ∈ ws, NmOk x) (e1 : SqT K H l (ws.map V.str)) (e2 : SqT K H b (ws.map V.str)) (q : Q (.bl false) H) : rNeD K (.ref l) (.ref b) H Q := by
  have s := (shaped_strs ws fun x hx => nm_strOk (h x hx)).1
  refine ⟨_, _, .tup e1 (dp_strs ws), .tup e2 (dp_strs ws), s, s, ?_⟩
  rw [show PyData.eqv (.tuple (ws.map PyData.str)) (.tuple (ws.map PyData.str)) = true from eqv_strs ws]; exact q
theorem dd_strs : ∀ ws : List Str, (∀ x ∈ ws, NmOk x) → DdAll K H (ws.map V.str) (ws.map Dt.str)
  | [], _ => .nil
  | w :: ws, h => .cons (nm_dd (h w List.mem_cons_self)) (dd_strs ws fun x hx => h x (List.mem_cons_of_mem _ hx))
/-- what the field "name" of a plan is -/
theorem nm_parts {v : V} {n : Str} (PL : Pl K) (h : Nm K H v n) : ∃ a C dx fs, v = .ref a ∧ H a = some (.ins C dx fs) ∧ Cls K C ∧ NoAttr K C "name" ∧ fs.lookup ("name" : Str) = some (V.str n) := by
  obtain ⟨a, C, dx, fs, rfl, ha, hc, hl⟩ := h
  refine ⟨a, C, dx, fs, rfl, ha, ?_, ?_, hl⟩
  · rcases hc with rfl | rfl
    · exact PL.cw
    · exact PL.cs
  · rcases hc with rfl | rfl
    · exact PL.nw _ (by simp)
    · exact PL.ns _ (by simp)
end
section
variable {P : Program} {w : World} {K : PySem.W.Frag} {mg : Str → Option Value} {base : Heap}
abbrev s_law_counts_right : Stmt := (top 107)
def N_law_counts_right : List Str := ["plan", "found", "below", "child", "label", "path", "here", "one", "some"]
theorem sc_law_counts_right : FnScope N_law_counts_right ["plan"] (defScope s_law_counts_right) := ⟨rfl, rfl, rfl, by decide +kernel, rfl, by decide +kernel, by decide +kernel⟩
theorem cut_tail (x : V) (xs : List V) : cutV (x :: xs) (some (1 : Int)) none = xs := by
  unfold cutV
  rw [HT.sIx_none, show ((1 : Int)) = ((1 : Nat) : Int) from rfl, HT.sIx_nat, List.length_cons, Nat.min_eq_left (by omega)]
  show (xs.take (xs.length + 1 - 1)) = xs
  rw [Nat.add_sub_cancel, List.take_length]
theorem not_whole {n : Nat} (h : 1 ≤ n) : ¬ (HT.sIx n 0 (some (1 : Int)) = 0 ∧ HT.sIx n n none = n) := by
  rintro ⟨h1, _⟩
  rw [show ((1 : Int)) = ((1 : Nat) : Int) from rfl, HT.sIx_nat, Nat.min_eq_left h] at h1
  omega
theorem way_sub {x : Str} {t : Tr} {ws : List Tr} (h : WayP x t ws) : ∀ u ∈ ws, ∀ y ∈ u.names, y ∈ t.names := by
  induction h with
  | @hit t c => intro u hu y hy; rw [List.mem_singleton.mp hu] at hy; exact hy
  | @down n r st mo sp dl ts tc ws c mt e w ih =>
    intro u hu y hy
    rcases List.mem_cons.mp hu with q | q
    · rw [q] at hy; exact hy
    · exact List.mem_cons_of_mem _ (kid_names e y (ih u q y hy))
/-- all stays but what stands at l -/
def Same6 (H G : Hp) (l : Addr) : Prop := ∀ b o, H b = some o → b ≠ l → G b = some o
theorem Same6.sqT {K : PySem.W.Frag} {H G : Hp} {l p : Addr} {xs ys : List V} (s : Same6 H G l) (h : SqT K H p xs) (e : H l = some (.lst ys)) : SqT K G p xs := by
  rcases h with (h | ⟨o, h⟩) | h
  · exact .inl (.inl (s _ _ h (by rintro rfl; rw [e] at h; cases h)))
  · exact .inl (.inr ⟨o, s _ _ h (by rintro rfl; rw [e] at h; cases h)⟩)
  · exact .inr h
theorem Same6.solid {H G : Hp} {l : Addr} {ys : List V} (s : Same6 H G l) (e : H l = some (.lst ys)) : Solid H G := fun b o h n1 n2 => s b o h (by
  rintro rfl
  rw [e] at h; cases h; exact n1 _ rfl)
def spCnt (K : PySem.W.Frag) : Sp := fun vs H Q _ => ∃ v t, vs = [v] ∧ PTr K H v t ∧ t.ok ∧ t.pn.lv ≤ 7 ∧ t.names.length ≤ 200 ∧ ∀ H', Same H H' → Q (.bl true) H'
theorem ok_counts_right (F : Has K mg "_law_counts_right" s_law_counts_right) (T : Txt K mg) (PL : Pl K) (Z : EqF P w K mg base 20) (ED : EqD K) (L : InF P w K mg base) (LE : Lens K) (LW : FnR P w K mg base CX0 22 (He.ma K (wkA K) "__len__") (spLen K)) (LS : FnR P w K mg base CX0 22 (He.ma K (suA K) "__len__") (spLen K))
    (F_names : FnQ P w K mg base CX0 9 "names" ["plan"] (spNames K 7)) (F_plan_text : FnQ P w K mg base CX0 23 "plan_text" ["plan"] (spText K)) (F_path_to : FnQ P w K mg base (L2.CX P w) 13 "path_to" ["plan", "place"] (spPath K)) (F_plan_at : FnQ P w K mg base (L2.CX P w) 13 "plan_at" ["plan", "place"] (spAt K)) :
    FnQ P w K mg base CX0 45 "_law_counts_right" ["plan"] (spCnt K) := by
  refine F.q sc_law_counts_right (fun _ _ _ _ _ _ us hl => match us, hl with | [_], _ => rfl) (fun vs H Q E h => by obtain ⟨_, _, rfl, _⟩ := h; rfl) (fun cdv A outer s H vs Q E hr h => ?_)
  obtain ⟨v, t, rfl, hv, ok, lv, nl, k⟩ := h
  have gI : mg "isinstance" = none := T.fr _ (by simp [frees])
  have gL : mg "len" = none := T.fr _ (by simp [frees])
  refine ⟨_, PSs.nox (pss_cons (ps_set (i := 1) sc_law_counts_right.nd rfl (by first | exact .inl rfl | exact .inr rfl) (pe_f F_names hr pass0 (pa_cons (pv 0) pa_nil)))
  (pss_cons (ps_if (pw_or (pt_not (pt_val (pe_callB call_isi (by rfl) gI boot_isinstance (pa_cons (pv 1) (pa_cons (pe_bltn (v := .ty "tuple") (by rfl) (T.fr "tuple" (by simp [frees])) PyProof.Rows.boot_tuple rfl) pa_nil))))) (pw_or (pt_cmpR op_ne (pe_callB (call_lenOwn (CX := CX0) (n := 22) (E := fun _ _ _ => False) (hr.mono (by decide)) pass0) (by rfl) gL boot_len (pa_cons (pv 0) pa_nil)) (pe_callB call_len_seq (by rfl) gL boot_len (pa_cons (pv 1) pa_nil)) (by first | exact nomark _ | rfl)) (pw_or1 (pt_cmpR op_ne (pe_callB call_len_seq (by rfl) gL boot_len (pa_cons (pe_bm PySem.F.plainAttrs_str PySem.F.slot_str_split PySem.F.type_str_split mt_split (pe_f F_plan_text hr pass0 (pa_cons (pv 0) pa_nil)) (pa_cons pe_str pa_nil)) pa_nil)) (pe_callB call_len_seq (by rfl) gL boot_len (pa_cons (pv 1) pa_nil)) (by first | exact nomark _ | rfl))))).pt
  (pss_one (ps_ret pe_bl))
  pss_nil)
  (pss_cons (ps_if (pw_or (pt_cmpR op_ne (pe_ix ix_tup (pv 1) pe_int (fun _ _ => rfl)) (pe_fld (pv 0) rfl) (by first | exact nomark _ | rfl)) (pw_or1 (pt_not (pt_val (pe_callB (cr_all rfl) (by rfl) (T.fr "all" (by simp [frees])) boot_all (pa_cons (pe_lc (own := [("label", 4)]) (tt := tYes) rfl sc_law_counts_right.nd (pi_tup (pv 1)) (blkOk_by (N := N_law_counts_right) (sc := defScope s_law_counts_right) (by decide +kernel)) (fun _ _ _ _ _ => (pg_name (i := 4) sc_law_counts_right.nd rfl (by first | exact .inl rfl | exact .inr rfl))) (fun _ _ _ _ _ => pts_nil) (fun _ _ _ _ _ => (pe_cmpR (op_inOwnK P w K mg base (CX := CX0) (n := 10) (E := fun _ _ _ => False) (hr.mono (by decide)) pass0) (pv 4) (pv 0) (by first | exact nomark _ | rfl)))) pa_nil)))))).pt
  (pss_one (ps_ret pe_bl))
  pss_nil)
  (pss_cons (ps_set (i := 2) sc_law_counts_right.nd rfl (by first | exact .inl rfl | exact .inr rfl) (pe_lstM pa_nil))
  (C8.pss_cut (ps_if (pt_val (pe_callB call_isi (by rfl) gI boot_isinstance (pa_cons (pv 0) (pa_cons (C8.pe_gc (by rfl) T.c_SupervisorPlan) pa_nil))))
  (pss_one (ps_for PassesOwn.never rfl (pi_tup (pe_fld (pv 0) rfl)) (pg_name (i := 3) sc_law_counts_right.nd rfl (by first | exact .inl rfl | exact .inr rfl))
  (pss_one (ps_expr (pe_bm PySem.F.plainAttrs_list PySem.F.slot_list_extend PySem.F.type_list_extend mt_extend (pv 2) (pa_cons (pe_callTy call_list_of (by rfl) (T.fr "list" (by simp [frees])) PyProof.Rows.boot_list (pa_cons (pe_f F_names hr pass0 (pa_cons (pv 3) pa_nil)) pa_nil)) pa_nil))))))
  pss_nil)
  (C8.pss_cut (ps_if (pt_cmpR (op_neD hr.units) (pe_callTy call_list_of (by rfl) (T.fr "list" (by simp [frees])) PyProof.Rows.boot_list (pa_cons (pe_slice sl_tup (pv 1) (po_some pe_int) po_none) pa_nil)) (pv 2) (by first | exact nomark _ | rfl))
  (pss_one (ps_ret pe_bl))
  pss_nil)
  (pss_cons (ps_for PassesOwn.never rfl (pi_tup (pv 1)) (pg_name (i := 4) sc_law_counts_right.nd rfl (by first | exact .inl rfl | exact .inr rfl))
  (pss_cons (ps_swap (is := [5, 6]) rfl sc_law_counts_right.nd (pe_tupM (pa_cons (pe_f F_path_to hr passNo (pa_cons (pv 0) (pa_cons (pv 4) pa_nil))) (pa_cons (pv 0) pa_nil))) (.cons rfl (.inl rfl) (.inr rfl) (.cons rfl (.inl rfl) (.inr rfl) .nil)))
  (pss_cons (ps_if (pw_or (pt_cmpR op_ne (pe_ix ix_tup (pv 5) pe_int (fun _ _ => rfl)) (pe_fld (pv 0) rfl) (by first | exact nomark _ | rfl)) (pw_or (pt_cmpR op_ne (pe_ix ix_tup (pv 5) (pe_un un_neg pe_int) (fun _ _ => rfl)) (pv 4) (by first | exact nomark _ | rfl)) (pw_or1 (pt_not (pt_val (pe_callB call_isi (by rfl) gI boot_isinstance (pa_cons (pv 5) (pa_cons (pe_bltn (v := .ty "tuple") (by rfl) (T.fr "tuple" (by simp [frees])) PyProof.Rows.boot_tuple rfl) pa_nil)))))))).pt
  (pss_one (ps_ret pe_bl))
  pss_nil)
  (pss_cons (ps_for PassesOwn.never rfl (pi_tup (pe_slice sl_tup (pv 5) (po_some pe_int) po_none)) (pg_name (i := 7) sc_law_counts_right.nd rfl (by first | exact .inl rfl | exact .inr rfl))
  (pss_cons (ps_setLc (i := 8) (own := [("child", 3)]) rfl sc_law_counts_right.nd rfl rfl (sw_true rfl rfl rfl (by decide +kernel)) (pi_tup (pe_fld (pv 6) rfl)) (blkOk_by (N := N_law_counts_right) (sc := defScope s_law_counts_right) (by decide +kernel)) (fun _ _ _ _ _ => (pg_name (i := 3) sc_law_counts_right.nd rfl (by first | exact .inl rfl | exact .inr rfl))) (fun _ _ _ _ _ => (pts_one (pw_and (pt_cmpR op_eq (pe_fldK K (pv 3) rfl) (pv 7) (by first | exact nomark _ | rfl)) (pw_and1 (pt_cmpR (op_inOwnK P w K mg base (CX := CX0) (n := 10) (E := fun _ _ _ => False) (hr.mono (by decide)) pass0) (pv 4) (pv 3) (by first | exact nomark _ | rfl)))).pt)) (fun _ _ _ _ _ => (pv 3)))
  (pss_cons (ps_if (pt_cmpR (op_eqNil hr.units) (pv 8) (pe_lstM pa_nil) (by first | exact nomark _ | rfl))
  (pss_one (ps_ret pe_bl))
  pss_nil)
  (pss_one (ps_set (i := 6) sc_law_counts_right.nd rfl (by first | exact .inl rfl | exact .inr rfl) (pe_ix ix_list (pv 8) pe_int (fun _ _ => rfl)))))))
  (pss_one (ps_if (pt_cmpR (ne_dq ED Z (hr.mono (by decide))) (pv 6) (pe_f F_plan_at hr passNo (pa_cons (pv 0) (pa_cons (pv 4) pa_nil))) (by first | exact nomark _ | rfl))
  (pss_one (ps_ret pe_bl))
  pss_nil))))))
  (pss_one (ps_ret pe_bl))))))))), ?_⟩
  have szz := Tr.size_names t
  have nok := names_ok t ok
  have wide : ∀ {n : Nat}, n ≤ 1000 → n ≤ sizeLine := fun h => Nat.le_trans h (by decide)
  refine ⟨_, rfl, v, t, rfl, hv, lv, by omega, fun q G1 s1 hq => ?_⟩
  have hd : Dd K G1 (.ref q) (.tup (t.names.map Dt.str)) := .tup hq (dd_strs _ nok)
  have lt : (t.names.map V.str).length = t.names.length := List.length_map ..
  have tlen : (Txt.join "\n" (linesT 0 t)).length + 2 ≤ sizeLine := by
    have z := text_len ok (by omega) nl
    exact Nat.le_trans (show _ ≤ 40002 by omega) (by decide)
  -- the sizes
  refine ⟨_, rfl, _, _, _, _, _, rfl, .ty _, (hd).ty T.pk, T.pk.kit _ 3 (kd_lt _) (by decide), _, rfl, if_no rfl ⟨_, rfl, ?_⟩⟩
  dsimp only [tNil, cxOf]
  refine lens_at LE LW LS (hv.same s1).pt (by omega) (by omega) fun G2 s2 => ?_
  refine ⟨_, rfl, q, _, rfl, .inr (s2.sqT hq), rfl, _, rfl, if_no (by rw [szz, lt]; simp) ?_⟩
  have s12 := s1.trans s2
  refine ⟨_, rfl, v, t, rfl, hv.same s12, ok, by omega, nl, fun G3 s3 => ⟨rfl, _, _, rfl, rfl, by decide +kernel, tlen, fun la na => ?_⟩⟩
  rw [text_split ok (by omega)]
  have s4 : Same G3 (upd G3 la (.lst ((linesT 0 t).map V.str))) := Same.new na
  have e4 : (upd G3 la (.lst ((linesT 0 t).map V.str))) la = some (.lst ((linesT 0 t).map V.str)) := upd_same
  generalize upd G3 la (.lst ((linesT 0 t).map V.str)) = G4 at s4 e4 ⊢
  have s14 := (s2.trans s3).trans s4
  refine ⟨la, _, rfl, .inl (SqL.of e4), _, rfl, q, _, rfl, .inr (s14.sqT hq), rfl, _, rfl, if_no (by rw [List.length_map, linesT_len, lt]; simp) ?_⟩
  -- the names
  obtain ⟨rest, en⟩ := Tr.names_eq t
  have e0 : atI (t.names.map V.str) 0 = some (.str t.name) := atI_nat (j := 0) (by rw [en]; rfl)
  have s04 := s1.trans s14
  obtain ⟨na1, nC, ndx, nfs, nv, nh, ncl, nna, nlk⟩ := nm_parts PL (hv.same s04).nm
  refine ⟨_, rfl, q, _, _, _, rfl, rfl, s14.sqT hq, e0, _, rfl, na1, nC, ndx, nfs, _, nv, nh, ncl, nna, nlk, rfl, _, rfl, if_no (by simp) ?_⟩
  refine ⟨_, rfl, q, rfl, ⟨_, s14.sqT hq⟩, comp_val walk_tup (f := fun i => .bl true) (by rw [lt]; exact small1000 (by omega)) (fun G s => (s14.trans s).sqT hq) (fun i H x H' y b o e => by rw [y.1]; exact e) (fun i x G5 G6 R hi g1 yy kk => ?_) fun cl G5 s5 n5 e5 => ?_⟩
  · obtain ⟨rfl, ex⟩ := yy
    obtain ⟨y, hy, rfl⟩ := List.mem_map.mp (List.mem_of_getElem? ex)
    refine ⟨rfl, _, rfl, _, rfl, in_at L ((hv.same s04).same g1) lv (by omega) (nm_dd (nok y hy)) fun G7 s7 => ?_⟩
    have c : isOne t.names (.str y) = true := by
      show t.names.contains y = true
      exact List.contains_iff_mem.mpr hy
    rw [c]
    exact kk G7 s7
  have em : (List.range (t.names.map V.str).length).map (fun _ => V.bl true) = ((List.range (t.names.map V.str).length).map fun _ => true).map V.bl := by rw [List.map_map]; rfl
  rw [em] at e5
  have all1 : ((List.range (t.names.map V.str).length).map fun _ => true).all id = true := by
    rw [List.all_map]
    exact List.all_eq_true.mpr fun _ _ => rfl
  refine ⟨cl, _, rfl, SqL.of e5, ?_⟩
  rw [all1]
  have s05 := s04.trans s5
  refine ⟨_, rfl, if_no rfl ⟨(by show 0 ≤ sizeLine; decide), fun bl G6 s6 n6 e6 => ?_⟩⟩
  have s06 := s05.trans s6
  have nb : H bl = none := none_back s05 n6
  have hq6 : SqT K G6 q (t.names.map V.str) := s6.sqT (s5.sqT (s14.sqT hq))
  have s16 := (s14.trans s5).trans s6
  clear e5 em all1
  refine ⟨fun σ G => ∃ (v3 : Option V), σ = [some v, some (.ref q), some (.ref bl), v3, none, none, none, none, none] ∧ Same G1 G ∧ Same H G ∧ G bl = some (.lst (rest.map V.str)), ?_, ?_⟩
  · refine ⟨_, rfl, _, _, _, _, _, rfl, .own _, ((hv.same s06).pt).ty T.pk, T.pk.kit _ 6 (kt_lt _) (by decide), _, rfl, ?_⟩
    have hv6 := hv.same s06
    cases hv6 with
    | w h hd so =>
      have er : rest = [] := (List.cons.inj en).2.symm
      exact if_no rfl ⟨none, rfl, s16, s06, by rw [er]; exact e6⟩
    | @s a dx p nm r st mo sp dl vs ts h hk ht =>
      have er : rest = Tr.namesL ts := (List.cons.inj en).2.symm
      have zt : (Tr.s nm r st mo sp dl ts).names.length = (Tr.namesL ts).length + 1 := rfl
      have lts : vs.length = ts.length := ht.len
      refine if_yes rfl ⟨_, rfl, a, suA K, dx, _, .ref p, rfl, h, PL.cs, PL.ns _ (by simp), by kernel_rfl, p, rfl, ⟨_, hk⟩, for_it walk_tup (fun i σ G => (∃ v3 : Option V, σ = [some (.ref a), some (.ref q), some (.ref bl), v3, none, none, none, none, none]) ∧ Same G1 G ∧ Same H G ∧ Same6 G6 G bl ∧ G bl = some (.lst ((Tr.namesL (ts.take i)).map V.str))) ⟨⟨none, rfl⟩, s16, s06, fun b o e _ => e, e6⟩ (fun i σ G _ h => by obtain ⟨_, _, _, s, _⟩ := h; exact s.sqT hk e6) ?_ ?_⟩
      · rintro i x σ G7 G8 hi ⟨⟨v3, rfl⟩, sa, sb, sc, eb⟩ ⟨rfl, ex⟩
        obtain ⟨tc, et, hx⟩ := ht.get ex
        have zn := names_kid et
        have zl := lv_kid (m := 6) et lv
        refine ⟨_, rfl, .inl ⟨rfl, _, SqL.of eb⟩, _, rfl, x, tc, rfl, PTr.solid (sc.solid e6) hx, by omega, by omega, fun p8 G8 s8 hp8 => ⟨p8, _, rfl, .inr hp8, fun l8 nl8 => ?_⟩⟩
        have eb8 := s8 _ _ eb
        have s9 : Same G8 (upd G8 l8 (.lst (tc.names.map V.str))) := Same.new nl8
        have ln : (Tr.namesL (ts.take i)).length ≤ (Tr.namesL ts).length := by
          have e5 : ts = ts.take i ++ ts.drop i := (List.take_append_drop _ _).symm
          have e6 := congrArg (fun us => (Tr.namesL us).length) e5
          simp only [namesL_app, List.length_append] at e6
          omega
        refine ⟨bl, l8, _, _, rfl, rfl, s9 _ _ eb8, upd_same, Nat.le_trans (show _ ≤ 400 by rw [List.length_map, List.length_map]; omega) (by decide), ⟨_, rfl⟩, ?_, ?_, ?_, ?_⟩
        · exact same_putN ((sa.trans s8).trans s9) (none_back ((s14.trans s5)) n6)
        · exact same_putN ((sb.trans s8).trans s9) nb
        · intro b o e ne
          rw [upd_ne ne]
          exact s9 _ _ (s8 _ _ (sc b o e ne))
        · rw [namesL_take et, List.map_append]; exact upd_same
      · rintro σ G ⟨⟨v3, rfl⟩, sa, sb, sc, eb⟩
        rw [lts, List.take_length] at eb
        exact ⟨v3, rfl, sa, sb, by rw [er]; exact eb⟩
  clear e6 n6 s6 hq6 s16 s06
  rintro σ G ⟨v3, rfl, s1G, sHG, eb⟩
  -- list(found[1:]) != below
  have hqG := s1G.sqT hq
  have n1 : 1 ≤ t.names.length := by rw [en, List.length_cons]; omega
  refine ⟨fun σ G => ∃ (v3 : Option V), σ = [some v, some (.ref q), some (.ref bl), v3, none, none, none, none, none] ∧ Same G1 G ∧ Same H G, ?_, ?_⟩
  · refine ⟨_, rfl, 1, rfl, q, _, rfl, hqG, not_whole (by rw [lt]; exact n1), fun p8 np8 => ?_⟩
    rw [en, List.map_cons, cut_tail]
    have s8 : Same G (upd G p8 (.tup (rest.map V.str))) := Same.new np8
    refine ⟨p8, _, rfl, .inr (SqT.of upd_same), fun l9 nl9 => ?_⟩
    have s9 := Same.new (o := HO.lst (rest.map V.str)) nl9
    refine ⟨_, rfl, ne_strsL (ws := rest) (fun x hx => nok x (by rw [en]; exact List.mem_cons_of_mem _ hx)) (SqL.of upd_same) (SqL.of (s9 _ _ (s8 _ _ eb))) ⟨_, rfl, if_no rfl ⟨v3, rfl, (s1G.trans s8).trans s9, (sHG.trans s8).trans s9⟩⟩⟩
  clear eb hqG s1G sHG
  rintro σ G0 ⟨v3, rfl, s1G, sHG⟩
  have hq0 := s1G.sqT hq
  have hv0 := hv.same sHG
  refine ⟨_, rfl, q, rfl, ⟨_, hq0⟩, for_it walk_tup (fun i σ G => (∃ v3 v4 v5 v6 v7 v8, σ = [some v, some (.ref q), some (.ref bl), v3, v4, v5, v6, v7, v8]) ∧ Same G0 G) ⟨⟨_, _, _, _, _, _, rfl⟩, Same.refl _⟩ (fun i σ G _ h => h.2.sqT hq0) ?_ ?_⟩
  · rintro i x σ G Gx hi ⟨⟨v3, v4, v5, v6, v7, v8, rfl⟩, sa⟩ ⟨rfl, ex⟩
    obtain ⟨y, hy, rfl⟩ := List.mem_map.mp (List.mem_of_getElem? ex)
    have ly := (nok y hy).2
    obtain ⟨⟨pr, ep⟩, pl, ep2⟩ := path_ends hy
    refine ⟨_, rfl, _, rfl, v, t, y, rfl, hv0.same sa, lv, by omega, ly, fun n => absurd hy n, fun _ p G2 s2 hp => ⟨_, rfl, (by show 2 ≤ sizeLine; decide), fun tq G3 s3 n3 e3 => ⟨tq, _, rfl, SqT.of e3, rfl, ?_⟩⟩⟩
    have hp3 := s3.sqT hp
    have hv3 := ((hv0.same sa).same s2).same s3
    have pnok : ∀ x ∈ pathT y t, NmOk x := fun x hx => by
      unfold pathT at hx
      obtain ⟨u, hu, rfl⟩ := List.mem_map.mp hx
      exact nok _ (way_sub (WayP.of hy) u hu _ (name_mem u))
    have hdp : Dd K G3 (.ref p) (.tup ((pathT y t).map Dt.str)) := .tup hp3 (dd_strs _ pnok)
    have e0 : atI ((pathT y t).map V.str) 0 = some (.str t.name) := atI_nat (j := 0) (by rw [ep]; rfl)
    have e9 : atI ((pathT y t).map V.str) (-1) = some (.str y) := by rw [ep2, List.map_append]; exact atI_last _ _
    obtain ⟨na1, nC, ndx, nfs, nv, nh, ncl, nna, nlk⟩ := nm_parts PL hv3.nm
    refine ⟨_, rfl, p, _, _, _, rfl, rfl, hp3, e0, _, rfl, na1, nC, ndx, nfs, _, nv, nh, ncl, nna, nlk, rfl, _, rfl, if_no (by simp) ?_⟩
    refine ⟨_, rfl, 1, rfl, p, _, _, _, rfl, rfl, hp3, e9, _, rfl, rfl, _, rfl, if_no (by simp) ⟨_, rfl, _, _, _, _, _, rfl, .ty _, (hdp).ty T.pk, T.pk.kit _ 3 (kd_lt _) (by decide), _, rfl, if_no rfl ?_⟩⟩
    have plen : 1 ≤ ((pathT y t).map V.str).length := by rw [List.length_map, ep, List.length_cons]; omega
    refine ⟨_, rfl, 1, rfl, p, _, rfl, hp3, not_whole plen, fun p4 np4 => ?_⟩
    have ecut : cutV ((pathT y t).map V.str) (some (1 : Int)) none = pr.map V.str := by rw [ep, List.map_cons, cut_tail]
    have s4 : Same G3 (upd G3 p4 (.tup (cutV ((pathT y t).map V.str) (some (1 : Int)) none))) := Same.new np4
    have e4 : (upd G3 p4 (.tup (cutV ((pathT y t).map V.str) (some (1 : Int)) none))) p4 = some (.tup (pr.map V.str)) := upd_same.trans (congrArg (fun z => some (HO.tup z)) ecut)
    generalize upd G3 p4 (.tup (cutV ((pathT y t).map V.str) (some (1 : Int)) none)) = G4 at s4 e4 ⊢
    have s04 := ((sa.trans s2).trans s3).trans s4
    have hv4 := hv0.same s04
    obtain ⟨wr, ew⟩ := (WayP.of hy).cons
    have epr : pr = wr.map Tr.name := by
      have z := ep
      unfold pathT at z
      rw [ew, List.map_cons] at z
      exact (List.cons.inj z).2.symm
    refine ⟨p4, rfl, ⟨_, SqT.of e4⟩, for_it walk_tup (fun i σ G => ∃ (here : V) (u : Tr) (ws : List Tr) (v7 v8 : Option V), σ = [some v, some (.ref q), some (.ref bl), v3, some (.str y), some (.ref p), some here, v7, v8] ∧ Same G4 G ∧ PTr K G here u ∧ WayP y u (u :: ws) ∧ (wayT y t).drop i = u :: ws ∧ u.ok ∧ u.pn.lv ≤ 7 ∧ u.names.length ≤ 200) ⟨v, t, wr, v7, v8, rfl, Same.refl _, hv4, by rw [← ew]; exact WayP.of hy, by rw [List.drop_zero]; exact ew, ok, lv, nl⟩ (fun i σ G _ h => by obtain ⟨_, _, _, _, _, _, s, _⟩ := h; exact SqT.of (s _ _ e4)) ?_ ?_⟩
    · rintro j x σ G5 Gx hj ⟨here, u, ws, v7, v8, rfl, s5, hu, W, ed, oku, lvu, nlu⟩ ⟨rfl, ex⟩
      obtain ⟨y1, ey1, rfl⟩ : ∃ y1, pr[j]? = some y1 ∧ V.str y1 = x := by
        rw [List.getElem?_map] at ex
        exact Option.map_eq_some_iff.mp ex
      obtain ⟨w1, wr1, rfl⟩ : ∃ w1 r, ws = w1 :: r := by
        cases ws with
        | cons a r => exact ⟨a, r, rfl⟩
        | nil =>
          exfalso
          have z := congrArg List.length ed
          rw [List.length_drop, ew, List.length_cons] at z
          rw [List.length_map, epr, List.length_map] at hj
          have : ([u] : List Tr).length = 1 := rfl
          omega
      have ed1 : (wayT y t).drop (j + 1) = w1 :: wr1 := by
        have z : (wayT y t).drop (j + 1) = ((wayT y t).drop j).drop 1 := by rw [List.drop_drop]
        rw [z, ed]; rfl
      have ey2 : y1 = w1.name := by
        have z : (wayT y t)[j + 1]? = some w1 := by
          have z2 := congrArg (fun l => l[0]?) ed1
          simpa using z2
        rw [ew, List.getElem?_cons_succ] at z
        rw [epr, List.getElem?_map, z] at ey1
        exact (Option.some.inj ey1).symm
      cases W with
      | @down nm r st mo sp dl ts tc ws0 c mt etc W1 =>
        have e1 : tc = w1 := by
          obtain ⟨r2, e⟩ := W1.cons
          exact (List.cons.inj e).1.symm
        subst e1
        cases hu with
        | @s a dx cp _ _ _ _ _ _ vs _ h hk hc =>
          have lvs := hc.len
          have ltn := turn_lt mt
          have l4 : ts.length ≤ 4 := oku.2.2.2.2.2.2.1
          refine ⟨_, rfl, a, suA K, dx, _, .ref cp, rfl, h, PL.cs, PL.ns _ (by simp), by kernel_rfl, cp, rfl, ⟨_, hk⟩, fun D nD => ?_⟩
          refine lc_it walk_tup (fun j2 H' => ∃ xs, H' D = some (.lst xs) ∧ xs.length ≤ j2 ∧ (turnOf y ts < j2 → xs[0]? = vs[turnOf y ts]?) ∧ (j2 ≤ turnOf y ts → xs = []) ∧ Same Gx H') ⟨[], upd_same, Nat.zero_le _, (fun h => absurd h (by omega)), (fun _ => rfl), Same.new nD⟩ (fun i G _ h => by obtain ⟨_, _, _, _, _, s⟩ := h; exact s.sqT hk) ?_ ?_
          · rintro j2 x2 G6 G7 lj ⟨xs, eD, lx, f1, f2, s6⟩ ⟨rfl, ex2⟩
            obtain ⟨kd2, ek2, hk2⟩ := hc.get ex2
            obtain ⟨na, nC2, ndx2, nfs2, nv2, nh2, ncl2, nna2, nlk2⟩ := nm_parts PL (hk2.same s6).nm
            have okk := oks_get oku.2.2.2.2.2.2.2 ek2
            have nlk3 := names_kid ek2
            have lvk := lv_kid (m := 6) ek2 lvu
            have zt : (Tr.s nm r st mo sp dl ts).names.length = (Tr.namesL ts).length + 1 := rfl
            refine ⟨rfl, _, rfl, na, nC2, ndx2, nfs2, _, nv2, nh2, ncl2, nna2, nlk2, _, rfl, rfl, _, rfl, ?_⟩
            have no : ∀ G8, Same G7 G8 → j2 ≠ turnOf y ts → ∃ xs, G8 D = some (.lst xs) ∧ xs.length ≤ j2 + 1 ∧ (turnOf y ts < j2 + 1 → xs[0]? = vs[turnOf y ts]?) ∧ (j2 + 1 ≤ turnOf y ts → xs = []) ∧ Same Gx G8 := fun G8 s8 ne => ⟨xs, s8 _ _ eD, by omega, fun h => f1 (by omega), fun h => f2 (by omega), s6.trans s8⟩
            by_cases c1 : kd2.name = y1
            · refine if_yes (by rw [c1]; exact decide_eq_true rfl) ⟨_, rfl, _, rfl, in_at L (hk2.same s6) (by omega) (by omega) (nm_dd (nok y hy)) fun G8 s8 => ?_⟩
              have e0 : isOne kd2.names (.str y) = true ↔ y ∈ kd2.names := by
                show kd2.names.contains y = true ↔ _
                exact List.contains_iff_mem
              by_cases c2 : y ∈ kd2.names
              · refine ⟨_, rfl, if_yes (e0.mpr c2) ⟨_, rfl, xs, s8 _ _ eD, small1000 (by omega), _, upd_same, by rw [List.length_append]; show xs.length + 1 ≤ _; omega, fun h => ?_, fun h => ?_, same_putN (s6.trans s8) nD⟩⟩
                · by_cases lt2 : turnOf y ts < j2
                  · have z := f1 lt2
                    have p0 : xs ≠ [] := by
                      rintro rfl
                      rw [List.getElem?_eq_getElem (show turnOf y ts < vs.length by omega)] at z
                      simp at z
                    obtain ⟨x0, xr, rfl⟩ := List.exists_cons_of_ne_nil p0
                    exact z
                  · have e5 : j2 = turnOf y ts := by omega
                    rw [f2 (by omega), ← e5, ex2]; rfl
                · exact absurd c2 (turn_not (by omega) ek2)
              · have cf : isOne kd2.names (.str y) = false := by
                  cases q : isOne kd2.names (.str y) with
                  | false => rfl
                  | true => exact absurd (e0.mp q) c2
                refine ⟨_, rfl, if_no cf (no G8 s8 fun e => c2 ?_)⟩
                rw [e, etc] at ek2
                cases ek2
                obtain ⟨t9, e9', m9⟩ := turn_at mt
                rw [etc] at e9'
                cases e9'
                exact m9
            · refine if_no (decide_eq_false fun z => c1 (by injection z)) (no G7 (Same.refl _) fun e => c1 ?_)
              rw [e, etc] at ek2
              cases ek2
              exact ey2.symm
          · rintro G6 ⟨xs, eD, lx, f1, f2, s6⟩
            have z := f1 (by omega)
            have ix : vs[turnOf y ts]? = some (vs[turnOf y ts]'(by omega)) := List.getElem?_eq_getElem (by omega)
            obtain ⟨tc', etc', htc⟩ := hc.get ix
            rw [etc] at etc'
            cases etc'
            rw [ix] at z
            obtain ⟨x0, xr, rfl⟩ : ∃ x0 xr, xs = x0 :: xr := by
              cases xs with
              | nil => cases z
              | cons a r => exact ⟨a, r, rfl⟩
            have e0' : x0 = vs[turnOf y ts]'(by omega) := by simpa using z
            have okk := oks_get oku.2.2.2.2.2.2.2 etc
            have nlk3 := names_kid etc
            have lvk := lv_kid (m := 6) etc lvu
            have zt : (Tr.s nm r st mo sp dl ts).names.length = (Tr.namesL ts).length + 1 := rfl
            refine ⟨_, rfl, (by show 0 ≤ sizeLine; decide), fun q8 G8 s8 n8 e8 => ⟨D, q8, _, rfl, rfl, s8 _ _ eD, e8, _, rfl, if_no rfl ?_⟩⟩
            refine ⟨_, rfl, D, _, _, x0, rfl, rfl, SqL.of (s8 _ _ eD), atI_nat (j := 0) rfl, _, tc, wr1, _, _, rfl, (s5.trans s6).trans s8, by rw [e0']; exact (htc.same s6).same s8, W1, ed1, okk, by omega, by omega⟩
    · rintro σ G5 ⟨here, u, ws, v7, v8, rfl, s5, hu, W, ed, oku, lvu, nlu⟩
      have eu : u = atT y t := by
        obtain ⟨us, e⟩ := way_last y t
        have l1 : us.length = wr.length := by
          have z := congrArg List.length (ew.symm.trans e)
          rw [List.length_cons, List.length_append] at z
          have : ([atT y t] : List Tr).length = 1 := rfl
          omega
        rw [List.length_map, epr, List.length_map, ← l1, e, List.drop_left] at ed
        exact (List.cons.inj ed).1.symm
      subst eu
      refine ⟨_, rfl, _, rfl, _, rfl, v, t, y, rfl, hv4.same s5, lv, by omega, ly, fun n => absurd hy n, fun _ z G6 s6 hz => ⟨dq_of (hu.same s6) hz oku (by omega), fun G7 s7 => ⟨_, rfl, if_no rfl ⟨⟨_, _, _, _, _, _, rfl⟩, ((s04.trans s5).trans s6).trans s7⟩⟩⟩⟩
  · rintro σ G ⟨⟨v3, v4, v5, v6, v7, v8, rfl⟩, sa⟩
    exact k G (sHG.trans sa)
end
end K08
/-! _law_renamed -/
namespace K08
open PySem PySem.Spec PyProof.Rows L2
/-- a dict that tells the other names -/
def Oth (H : Hp) (oa : Addr) (f : Str → Str) (S : List Str) : Prop := ∃ kvs : List (Key × V), H oa = some (.dK kvs) ∧ ∀ x ∈ S, valV kvs (Sum.inr x : Key) = some (.str (f x))
theorem Oth.same {H H' : Hp} {oa : Addr} {f : Str → Str} {S : List Str} (s : Same H H') (h : Oth H oa f S) : Oth H' oa f S := by
  obtain ⟨kvs, e, g⟩ := h
  exact ⟨kvs, s _ _ e, g⟩
theorem Oth.get {H : Hp} {oa : Addr} {f : Str → Str} {S : List Str} {x : Str} (h : Oth H oa f S) (hx : x ∈ S) : DGet H oa (.str x) (some (.str (f x))) := by
  obtain ⟨kvs, e, g⟩ := h
  rw [← g x hx]
  exact DGet.k (k := Sum.inr x) e
theorem DTr.sameR {K : PySem.W.Frag} {H H' : Hp} {v : V} {t : Tr} (s : Same H H') (h : DTr K H v t) : DTr K H' v t := DTr.solid (Solid.of_same s) h
theorem DTrs.sameR {K : PySem.W.Frag} {H H' : Hp} {vs : List V} {ts : List Tr} (s : Same H H') (h : DTrs K H vs ts) : DTrs K H' vs ts := DTrs.solid (Solid.of_same s) h
theorem renL_take {f : Str → Str} {ts : List Tr} {i : Nat} {t : Tr} (e : ts[i]? = some t) : renL f (ts.take (i + 1)) = renL f (ts.take i) ++ [ren f t] := by
  rw [renL_map, renL_map, List.take_add_one, e, List.map_append]; rfl
section
variable {P : Program} {w : World} {K : PySem.W.Frag} {mg : Str → Option Value} {base : Heap}
abbrev s_law_renamed : Stmt := (top 104)
def N_law_renamed : List Str := ["d", "others", "kids", "child"]
theorem sc_law_renamed : FnScope N_law_renamed ["d", "others"] (defScope s_law_renamed) := ⟨rfl, rfl, rfl, by decide +kernel, rfl, by decide +kernel, by decide +kernel⟩
def spRen (K : PySem.W.Frag) (n : Nat) : Sp := fun vs H Q _ => ∃ v t oa f S, vs = [v, .ref oa] ∧ DTr K H v t ∧ t.ok ∧ Oth H oa f S ∧ (∀ x ∈ t.names, x ∈ S) ∧ t.pn.lv ≤ n ∧ ∀ u H', Same H H' → DTr K H' u (ren f t) → Q u H'
theorem ok_law_renamed (F : Has K mg "_law_renamed" s_law_renamed) (T : Txt K mg) : ∀ n, FnQ P w K mg base CX0 (n + 1) "_law_renamed" ["d", "others"] (spRen K n) := by
  intro n
  induction n with
  | zero =>
    refine F.q sc_law_renamed (fun _ _ _ _ _ _ us hl => match us, hl with | [_, _], _ => rfl) (fun vs H Q E h => by obtain ⟨_, _, _, _, _, rfl, _⟩ := h; rfl) (fun cdv A outer s H vs Q E hr h => ?_)
    obtain ⟨v, t, _, _, _, _, _, _, _, _, lv, _⟩ := h
    have := t.pn.lv_pos
    omega
  | succ n F_law_renamed =>
    refine F.q sc_law_renamed (fun _ _ _ _ _ _ us hl => match us, hl with | [_, _], _ => rfl) (fun vs H Q E h => by obtain ⟨_, _, _, _, _, rfl, _⟩ := h; rfl) (fun cdv A outer s H vs Q E hr h => ?_)
    obtain ⟨v, t, oa, f, S, rfl, hv, ok, ho, sub, lv, k⟩ := h
    refine ⟨_, PSs.nox (pss_cons (ps_if (pt_cmpR op_eq (pe_ix ix_tup (pv 0) pe_int (fun _ _ => rfl)) pe_str (by first | exact nomark _ | rfl))
  (pss_one (ps_ret (pe_op op_catW (pe_op op_catW (pe_slice sl_tupW (pv 0) po_none (po_some pe_int)) (pe_tupM (pa_cons (pe_dget (hu_of hr) (pv 1) (pe_ix ix_tup (pv 0) pe_int (fun _ _ => rfl)) (fun _ _ => rfl)) pa_nil))) (pe_slice sl_tupW (pv 0) (po_some pe_int) po_none))))
  pss_nil)
  (pss_cons (ps_set (i := 2) sc_law_renamed.nd rfl (by first | exact .inl rfl | exact .inr rfl) (pe_callTy call_tuple_of (by rfl) (T.fr "tuple" (by simp [frees])) PyProof.Rows.boot_tuple (pa_cons (pe_lc (own := [("child", 3)]) (tt := tYes) rfl sc_law_renamed.nd (pi_tup (pe_ix ix_tup (pv 0) pe_int (fun _ _ => rfl))) (blkOk_by (N := N_law_renamed) (sc := defScope s_law_renamed) (by decide +kernel)) (fun _ _ _ _ _ => (pg_name (i := 3) sc_law_renamed.nd rfl (by first | exact .inl rfl | exact .inr rfl))) (fun _ _ _ _ _ => pts_nil) (fun _ _ _ _ _ => (pe_f F_law_renamed hr pass0 (pa_cons (pv 3) (pa_cons (pv 1) pa_nil)) (hj := Nat.le_refl _)))) pa_nil)))
  (pss_one (ps_ret (pe_op op_catW (pe_op op_catW (pe_tupM (pa_cons pe_str (pa_cons (pe_dget (hu_of hr) (pv 1) (pe_ix ix_tup (pv 0) pe_int (fun _ _ => rfl)) (fun _ _ => rfl)) pa_nil))) (pe_slice sl_tupW (pv 0) (po_some pe_int) (po_some pe_int))) (pe_tupM (pa_cons (pv 2) pa_nil))))))), ?_⟩
    cases hv with
    | @w a n0 r o c dl rf sc sd h hd so =>
      have at_ : ∀ {i : Nat} {x : V}, [V.str "w", .str n0, .str r, .int o, .int c, dl, .int rf, sc][i]? = some x → atI [V.str "w", .str n0, .str r, .int o, .int c, dl, .int rf, sc] (i : Int) = some x := fun e => atI_nat e
      have hn : n0 ∈ S := sub n0 List.mem_cons_self
      refine ⟨_, rfl, a, _, _, _, rfl, rfl, h, at_ (i := 0) rfl, rfl, _, rfl, if_yes (by decide +kernel) ?_⟩
      refine ⟨_, rfl, 1, rfl, a, _, rfl, h, fun p1 G1 s1 h1 => ?_⟩
      refine ⟨_, rfl, _, rfl, a, _, _, _, rfl, rfl, s1.sqT h, at_ (i := 1) rfl, oa, _, rfl, (ho.same s1).get hn, (by show 1 ≤ sizeLine; decide), fun p2 G2 s2 n2 e2 => ?_⟩
      refine ⟨p1, p2, _, _, rfl, rfl, s2.sqT h1, SqT.of e2, (by show 1 + 1 ≤ sizeLine; decide), fun p3 G3 s3 h3 => ?_⟩
      refine ⟨_, rfl, 2, rfl, a, _, rfl, s3.sqT (s2.sqT (s1.sqT h)), fun p4 G4 s4 h4 => ?_⟩
      refine ⟨p3, p4, _, _, rfl, rfl, s4.sqT h3, h4, (by show 2 + 6 ≤ sizeLine; decide), fun p5 G5 s5 h5 => ?_⟩
      have S5 := (((s1.trans s2).trans s3).trans s4).trans s5
      refine k _ G5 S5 ?_
      rw [ren]
      exact .w h5 (hd.same S5) so
    | @s a p n0 r st mo sp dl vs ts h hk ht =>
      have at_ : ∀ {i : Nat} {x : V}, [V.str "s", .str n0, .str r, .str st, .int mo, .int sp, dl, .ref p][i]? = some x → atI [V.str "s", .str n0, .str r, .str st, .int mo, .int sp, dl, .ref p] (i : Int) = some x := fun e => atI_nat e
      have lt : vs.length = ts.length := ht.len
      have l4 : ts.length ≤ 4 := ok.2.2.2.2.2.2.1
      have hn : n0 ∈ S := sub n0 List.mem_cons_self
      refine ⟨_, rfl, a, _, _, _, rfl, rfl, h, at_ (i := 0) rfl, rfl, _, rfl, if_no (by decide +kernel) ?_⟩
      refine ⟨_, rfl, a, _, _, _, rfl, rfl, h, at_ (i := 7) rfl, p, rfl, ⟨_, hk⟩, fun D nD => ?_⟩
      refine lc_it walk_tup (fun j H' => ∃ xs, H' D = some (.lst xs) ∧ xs.length = j ∧ DTrs K H' xs (renL f (ts.take j)) ∧ Same H H') ⟨[], upd_same, rfl, .nil, Same.new nD⟩ (fun i G _ h => by obtain ⟨_, _, _, _, s⟩ := h; exact s.sqT hk) ?_ ?_
      · rintro j v G1 G2 lj ⟨xs, eD, lx, hx, s1⟩ ⟨rfl, ex⟩
        obtain ⟨tc, et, hc⟩ := ht.get ex
        refine ⟨rfl, _, rfl, _, rfl, v, tc, oa, f, S, rfl, hc.sameR s1, oks_get ok.2.2.2.2.2.2.2 et, ho.same s1, fun x hx => sub x (List.mem_cons_of_mem _ (kid_names et x hx)), lv_kid et lv, fun u G3 s3 hu => ⟨xs, s3 _ _ eD, small1000 (by omega), xs ++ [u], upd_same, by simp [lx], ?_, same_putN (s1.trans s3) nD⟩⟩
        rw [renL_take et]
        have so : Solid G3 (upd G3 D (.lst (xs ++ [u]))) := Solid.upd (.inl ⟨_, s3 _ _ eD⟩)
        exact (DTrs.solid so (hx.sameR s3)).app (.cons (DTr.solid so hu) .nil)
      · rintro G1 ⟨xs, eD, lx, hx, s1⟩
        rw [lt, List.take_length] at hx
        refine ⟨D, xs, rfl, .inl ⟨SqL.of eD, fun t1 nt1 => ?_⟩⟩
        have s2 : Same G1 (upd G1 t1 (.tup xs)) := Same.new nt1
        have e2 : (upd G1 t1 (.tup xs)) t1 = some (.tup xs) := upd_same
        generalize upd G1 t1 (.tup xs) = G2 at s2 e2 ⊢
        have s02 := s1.trans s2
        refine ⟨_, rfl, _, rfl, a, _, _, _, rfl, rfl, s02.sqT h, at_ (i := 1) rfl, oa, _, rfl, (ho.same s02).get hn, (by show 2 ≤ sizeLine; decide), fun p3 G3 s3 n3 e3 => ?_⟩
        refine ⟨_, rfl, 2, rfl, 7, rfl, a, _, rfl, s3.sqT (s02.sqT h), fun p4 G4 s4 h4 => ?_⟩
        refine ⟨p3, p4, _, _, rfl, rfl, s4.sqT (SqT.of e3), h4, (by show 2 + 5 ≤ sizeLine; decide), fun p5 G5 s5 h5 => ?_⟩
        refine ⟨_, rfl, (by show 1 ≤ sizeLine; decide), fun p6 G6 s6 n6 e6 => ?_⟩
        refine ⟨p5, p6, _, _, rfl, rfl, s6.sqT h5, SqT.of e6, (by show 7 + 1 ≤ sizeLine; decide), fun p7 G7 s7 h7 => ?_⟩
        have s27 := (((s3.trans s4).trans s5).trans s6).trans s7
        refine k _ G7 (s02.trans s27) ?_
        rw [ren]
        exact .s h7 (SqT.of (s27 _ _ e2)) ((hx.sameR s2).sameR s27)
end
end K08
/-! _law_renamed_text -/
namespace K08
open PySem PySem.Spec PyProof.Rows L2 TL
/-- what a line is split into -/
def lineW (d : Nat) (t : Tr) : List Str := List.replicate (2 * d) ("" : Str) ++ wordsT t
theorem tl_one {x y : Str} (h : tl x = tl y) : x = y := ext_tl h
theorem joinL_rep {S p : List Nat} {ps : List (List Nat)} : ∀ n, joinL S (List.replicate n [] ++ (p :: ps)) = (List.replicate n S).flatten ++ joinL S (p :: ps)
  | 0 => by simp
  | n + 1 => by
    have z := joinL_rep (S := S) (p := p) (ps := ps) n
    obtain ⟨q, r, e⟩ : ∃ q r, List.replicate n [] ++ (p :: ps) = q :: r := by
      cases n with
      | zero => exact ⟨_, _, rfl⟩
      | succ m => exact ⟨_, _, rfl⟩
    rw [List.replicate_succ, List.cons_append, List.replicate_succ, List.flatten_cons, List.append_assoc, ← z, e]
    show [] ++ (S ++ joinL S (q :: r)) = _
    rw [List.nil_append]
theorem flat_one (n c : Nat) : (List.replicate n [c]).flatten = List.replicate n c := by
  induction n with
  | zero => rfl
  | succ n ih => rw [List.replicate_succ, List.flatten_cons, ih, List.replicate_succ]; rfl
theorem words_cons (t : Tr) : ∃ k r, wordsT t = k :: t.name :: r := by cases t <;> exact ⟨_, _, rfl⟩
theorem line_join {d : Nat} (h : d < 21) (t : Tr) : Txt.join " " (lineW d t) = lineT d t := by
  refine tl_one ?_
  rw [line_tl h t]
  unfold bodyT lineW
  rw [join_eq, join_eq, tl_join, tl_join, List.map_append, List.map_replicate]
  obtain ⟨k, r, e⟩ := words_cons t
  have e0 : tl ("" : Str) = [] := by decide +kernel
  have e1 : tl (" " : Str) = [32] := by decide +kernel
  rw [e0, e1, e, List.map_cons, joinL_rep, flat_one]
theorem line_split {d : Nat} (h : d < 21) {t : Tr} (ok : t.ok) : Txt.split (lineT d t) " " = lineW d t := by
  rw [← line_join h t]
  refine split_join (s := 32) (S := []) (by decide +kernel) (by decide +kernel) (fun e => ?_) fun p hp hm => ?_
  · have z := congrArg List.length e
    unfold lineW at z
    rw [List.length_append, words_len] at z
    have : ([] : List Str).length = 0 := rfl
    omega
  · unfold lineW at hp
    rcases List.mem_append.mp hp with q | q
    · rw [List.eq_of_mem_replicate q] at hm
      have e0 : tl ("" : Str) = [] := by decide +kernel
      rw [e0] at hm; cases hm
    · exact ((words_wd ok p q).1 32 hm).1 rfl
theorem lineW_len (d : Nat) (t : Tr) : (lineW d t).length = 2 * d + 7 := by
  unfold lineW
  rw [List.length_append, List.length_replicate, words_len]
theorem numT_ne {i : Int} (h : 0 ≤ i) : numT i ≠ "" := fun e => by
  have z := num_tl h
  rw [e] at z
  have e0 : tl ("" : Str) = [] := by decide +kernel
  rw [e0] at z
  exact numL_ne _ z.symm
theorem dlT_ne {v : V} (h : DlOk v) : dlT v ≠ "" := by
  rcases h with rfl | ⟨i, rfl, h0, h1⟩
  · exact (by decide +kernel : ("-" : Str) ≠ "")
  · exact numT_ne h0
theorem nm_ne {n : Str} (h : NmOk n) : n ≠ "" := fun e => by
  have z := h.1
  rw [e] at z
  revert z
  decide +kernel
theorem rs_ne {x : Str} (h : x ∈ restartsS) : x ≠ "" := by
  have all : ∀ y ∈ restartsS, y ≠ "" := by decide +kernel
  exact all x h
theorem st_ne {x : Str} (h : x ∈ strategiesS) : x ≠ "" := by
  have all : ∀ y ∈ strategiesS, y ≠ "" := by decide +kernel
  exact all x h
theorem words_ne {t : Tr} (ok : t.ok) : ∀ x ∈ wordsT t, x ≠ "" := by
  cases t with
  | w n r o c dl rf sc sd =>
    obtain ⟨h1, h2, h3, h4, h5, h6, _⟩ := ok
    intro x hx
    simp only [wordsT, List.mem_cons, List.not_mem_nil, or_false] at hx
    rcases hx with rfl | rfl | rfl | rfl | rfl | rfl | rfl
    · decide +kernel
    · exact nm_ne h1
    · exact rs_ne h2
    · exact numT_ne h3.1
    · exact numT_ne h4.1
    · exact dlT_ne h5
    · exact numT_ne h6.1
  | s n r st mo sp dl ts =>
    obtain ⟨h1, h2, h3, h4, h5, h6, _⟩ := ok
    intro x hx
    simp only [wordsT, List.mem_cons, List.not_mem_nil, or_false] at hx
    rcases hx with rfl | rfl | rfl | rfl | rfl | rfl | rfl
    · decide +kernel
    · exact nm_ne h1
    · exact rs_ne h2
    · exact st_ne h3
    · exact numT_ne h4.1
    · exact numT_ne (by omega)
    · exact dlT_ne h6
theorem lineW_at {d : Nat} {t : Tr} {k : Nat} {x : Str} (ok : t.ok) (h : (lineW d t)[k]? = some x) : x = "" ↔ k < 2 * d := by
  unfold lineW at h
  rcases Nat.lt_or_ge k (2 * d) with c | c
  · rw [List.getElem?_append_left (by rw [List.length_replicate]; exact c), List.getElem?_replicate, if_pos c] at h
    exact ⟨fun _ => c, fun _ => (Option.some.inj h).symm⟩
  · rw [List.getElem?_append_right (by rw [List.length_replicate]; exact c)] at h
    exact ⟨fun e => absurd e (words_ne ok x (List.mem_of_getElem? h)), fun l => by omega⟩
theorem lineW_name (d : Nat) (t : Tr) : (lineW d t)[2 * d + 1]? = some t.name := by
  obtain ⟨k, r, e⟩ := words_cons t
  unfold lineW
  rw [List.getElem?_append_right (by rw [List.length_replicate]; omega), List.length_replicate, e]
  have : 2 * d + 1 - 2 * d = 1 := by omega
  rw [this]; rfl
theorem words_ren (f : Str → Str) (t : Tr) : wordsT (ren f t) = (wordsT t).set 1 (f t.name) := by cases t <;> rfl
theorem lineW_ren (f : Str → Str) (d : Nat) (t : Tr) : (lineW d t).set (2 * d + 1) (f t.name) = lineW d (ren f t) := by
  unfold lineW
  rw [words_ren, List.set_append_right _ _ (by rw [List.length_replicate]; omega), List.length_replicate]
  have : 2 * d + 1 - 2 * d = 1 := by omega
  rw [this]
theorem lines_ren (f : Str → Str) (t : Tr) : linesT 0 (ren f t) = (pre 0 t).map fun p => lineT p.1 (ren f p.2) := by
  unfold linesT
  rw [pre_ren, List.map_map]; rfl
mutual
theorem pre_names : ∀ (d : Nat) (t : Tr), (pre d t).map (fun p => p.2.name) = t.names
  | d, .w _ _ _ _ _ _ _ _ => by rw [pre]; rfl
  | d, .s n _ _ _ _ _ ts => by
    rw [pre, List.map_cons, preL_names (d + 1) ts]; rfl
theorem preL_names : ∀ (d : Nat) (ts : List Tr), (preL d ts).map (fun p => p.2.name) = Tr.namesL ts
  | d, [] => by rw [preL]; rfl
  | d, t :: ts => by
    rw [preL, List.map_append, pre_names d t, preL_names d ts]; rfl
end
theorem lineW_wd {d : Nat} {t : Tr} (ok : t.ok) : ∀ x ∈ lineW d t, x.length ≤ 20 := fun x hx => by
  unfold lineW at hx
  rcases List.mem_append.mp hx with q | q
  · rw [List.eq_of_mem_replicate q]; decide +kernel
  · exact (words_wd ok x q).2
section
variable {P : Program} {w : World} {K : PySem.W.Frag} {mg : Str → Option Value} {base : Heap}
abbrev s_law_renamed_text : Stmt := (top 109)
def N_law_renamed_text : List Str := ["plan", "others", "lines", "line", "words", "at", "k"]
theorem sc_law_renamed_text : FnScope N_law_renamed_text ["plan", "others"] (defScope s_law_renamed_text) := ⟨rfl, rfl, rfl, by decide +kernel, rfl, by decide +kernel, by decide +kernel⟩
def spRtx (K : PySem.W.Frag) : Sp := fun vs H Q _ => ∃ v t oa f, vs = [v, .ref oa] ∧ PTr K H v t ∧ t.ok ∧ t.pn.lv ≤ 20 ∧ t.names.length ≤ 200 ∧ Oth H oa f t.names ∧ (∀ x ∈ t.names, NmOk (f x)) ∧ ∀ H', Same H H' → Q (.str (Txt.join "\n" (linesT 0 (ren f t)))) H'
theorem ok_renamed_text (F : Has K mg "_law_renamed_text" s_law_renamed_text) (T : Txt K mg) (F_plan_text : FnQ P w K mg base CX0 23 "plan_text" ["plan"] (spText K)) : FnQ P w K mg base CX0 24 "_law_renamed_text" ["plan", "others"] (spRtx K) := by
  refine F.q sc_law_renamed_text (fun _ _ _ _ _ _ us hl => match us, hl with | [_, _], _ => rfl) (fun vs H Q E h => by obtain ⟨_, _, _, _, rfl, _⟩ := h; rfl) (fun cdv A outer s H vs Q E hr h => ?_)
  obtain ⟨v, t, oa, f, rfl, hv, ok, lv, nl, ho, nf, k⟩ := h
  have gL : mg "len" = none := T.fr _ (by simp [frees])
  refine ⟨_, PSs.nox (pss_cons (ps_set (i := 2) sc_law_renamed_text.nd rfl (by first | exact .inl rfl | exact .inr rfl) (pe_lstM pa_nil))
  (pss_cons (ps_for PassesOwn.never rfl (pi_list (pe_bm PySem.F.plainAttrs_str PySem.F.slot_str_split PySem.F.type_str_split mt_split (pe_f F_plan_text hr pass0 (pa_cons (pv 0) pa_nil)) (pa_cons pe_str pa_nil))) (pg_name (i := 3) sc_law_renamed_text.nd rfl (by first | exact .inl rfl | exact .inr rfl))
  (pss_cons (ps_set (i := 4) sc_law_renamed_text.nd rfl (by first | exact .inl rfl | exact .inr rfl) (pe_bm PySem.F.plainAttrs_str PySem.F.slot_str_split PySem.F.type_str_split mt_split (pv 3) (pa_cons pe_str pa_nil)))
  (pss_cons (ps_set (i := 5) sc_law_renamed_text.nd rfl (by first | exact .inl rfl | exact .inr rfl) (pe_ix ix_list (pe_lc (own := [("k", 6)]) rfl sc_law_renamed_text.nd (pi_range1 (by rfl) (T.fr "range" (by simp [frees])) (pa_cons (pe_callB call_len_seq (by rfl) gL boot_len (pa_cons (pv 4) pa_nil)) pa_nil)) (blkOk_by (N := N_law_renamed_text) (sc := defScope s_law_renamed_text) (by decide +kernel)) (fun _ _ _ _ _ => (pg_name (i := 6) sc_law_renamed_text.nd rfl (by first | exact .inl rfl | exact .inr rfl))) (fun _ _ _ _ _ => (pts_one (pt_cmpR op_ne (pe_ix (ix_listK K) (pv 4) (pv 6) (fun _ _ => rfl)) pe_str (by first | exact nomark _ | rfl)))) (fun _ _ _ _ _ => (pv 6))) pe_int (fun _ _ => rfl)))
  (pss_cons (ps_asg (pe_dget (hu_of hr) (pv 1) (pe_ix ix_list (pv 4) (pv 5) (fun _ _ => rfl)) (fun _ _ => rfl)) (pg_sub (pv 4) (pv 5) set_list))
  (pss_one (ps_expr (pe_bm PySem.F.plainAttrs_list PySem.F.slot_list_append PySem.F.type_list_append mt_append (pv 2) (pa_cons (pe_join pe_str (pv 4)) pa_nil))))))))
  (pss_one (ps_ret (pe_join pe_str (pv 2)))))), ?_⟩
  have tlen : (Txt.join "\n" (linesT 0 t)).length + 2 ≤ sizeLine := by
    have z := text_len ok lv nl
    exact Nat.le_trans (show _ ≤ 40002 by omega) (by decide)
  refine ⟨(by show 0 ≤ sizeLine; decide), fun ll G1 s1 n1 e1 => ?_⟩
  refine ⟨_, rfl, v, t, rfl, hv.same s1, ok, lv, nl, fun G2 s2 => ⟨rfl, _, _, rfl, rfl, by decide +kernel, tlen, fun sl nsl => ?_⟩⟩
  rw [text_split ok lv]
  have s3 : Same G2 (upd G2 sl (.lst ((linesT 0 t).map V.str))) := Same.new nsl
  have e3 : (upd G2 sl (.lst ((linesT 0 t).map V.str))) sl = some (.lst ((linesT 0 t).map V.str)) := upd_same
  generalize upd G2 sl (.lst ((linesT 0 t).map V.str)) = G3 at s3 e3 ⊢
  have nes : ll ≠ sl := fun e => by rw [← e, s2 _ _ e1] at nsl; cases nsl
  have ok_ren := ren_ok f t ok nf
  refine ⟨sl, rfl, ⟨_, SqL.of e3⟩, for_it walk_list (fun i σ G => (∃ v3 v4 v5, σ = [some v, some (.ref oa), some (.ref ll), v3, v4, v5, none]) ∧ Same H G ∧ G sl = some (.lst ((linesT 0 t).map V.str)) ∧ G ll = some (.lst ((((pre 0 t).take i).map fun p => lineT p.1 (ren f p.2)).map V.str))) ⟨⟨_, _, _, rfl⟩, (s1.trans s2).trans s3, e3, s3 _ _ (s2 _ _ e1)⟩ (fun i σ G _ h => SqL.of h.2.2.1) ?_ ?_⟩
  · rintro i x σ G Gx hi ⟨⟨v3, v4, v5, rfl⟩, s4, esl, ell⟩ ⟨rfl, ex⟩
    obtain ⟨x0, ex0, rfl⟩ : ∃ x0, (linesT 0 t)[i]? = some x0 ∧ V.str x0 = x := by
      rw [List.getElem?_map] at ex
      exact Option.map_eq_some_iff.mp ex
    obtain ⟨p, ep, rfl⟩ : ∃ p, (pre 0 t)[i]? = some p ∧ lineT p.1 p.2 = x0 := by
      unfold linesT at ex0
      rw [List.getElem?_map] at ex0
      exact Option.map_eq_some_iff.mp ex0
    obtain ⟨d, u⟩ := p
    obtain ⟨oku0, _, du⟩ := pre_ok 0 t ok (d, u) (List.mem_of_getElem? ep)
    have oku : u.ok := oku0
    have d21 : d < 21 := by have : d < 0 + t.pn.lv := du; omega
    have mu : u.name ∈ t.names := by
      rw [← pre_names 0 t]
      exact List.mem_map.mpr ⟨(d, u), List.mem_of_getElem? ep, rfl⟩
    have okr : (ren f u).ok := by
      have z := pre_ok 0 (ren f t) ok_ren (d, ren f u) (by rw [pre_ren]; exact List.mem_map.mpr ⟨(d, u), List.mem_of_getElem? ep, rfl⟩)
      exact z.1
    have lline : (lineT d u).length + 2 ≤ sizeLine := by
      rw [line_len d21]
      have := body_len oku
      exact Nat.le_trans (show _ ≤ 200 by show 2 * d + (bodyT u).length + 2 ≤ 200; omega) (by decide)
    refine ⟨_, rfl, rfl, _, _, rfl, rfl, by decide +kernel, lline, fun wl nwl => ?_⟩
    rw [line_split d21 oku]
    have s5 : Same Gx (upd Gx wl (.lst ((lineW d u).map V.str))) := Same.new nwl
    have e5 : (upd Gx wl (.lst ((lineW d u).map V.str))) wl = some (.lst ((lineW d u).map V.str)) := upd_same
    generalize upd Gx wl (.lst ((lineW d u).map V.str)) = G5 at s5 e5 ⊢
    have lw := lineW_len d u
    have lm : ((lineW d u).map V.str).length = 2 * d + 7 := by rw [List.length_map, lw]
    refine ⟨_, rfl, wl, _, rfl, .inl (SqL.of e5), ?_⟩
    refine ⟨(((lineW d u).map V.str).length : Nat), rfl, by rw [lm]; omega, by rw [lm]; omega, fun D nD => ?_⟩
    refine lc_it walk_range (n := ((lineW d u).map V.str).length) (fun j H' => ∃ xs : List V, H' D = some (.lst xs) ∧ xs.length = j - 2 * d ∧ (∀ i, i < xs.length → xs[i]? = some (.int ((2 * d + i : Nat) : Int))) ∧ Same G5 H') ⟨[], upd_same, (by show 0 = 0 - 2 * d; omega), (fun i h => absurd h (Nat.not_lt_zero i)), Same.new nD⟩ (fun _ _ _ _ => trivial) ?_ ?_
    · rintro j y H6 H7 lj ⟨xs, eD, lx, fx, s6⟩ ⟨rfl, rfl⟩
      obtain ⟨z, ez⟩ : ∃ z, (lineW d u)[j]? = some z := ⟨_, List.getElem?_eq_getElem (by rw [List.length_map] at lj; exact lj)⟩
      have iff := lineW_at oku ez
      have ea : atI ((lineW d u).map V.str) ((0 : Int) + (j : Int)) = some (.str z) := by
        rw [Int.zero_add]
        exact atI_nat (by rw [List.getElem?_map, ez]; rfl)
      refine ⟨rfl, _, rfl, _, rfl, wl, _, _, _, rfl, rfl, SqL.of (s6 _ _ e5), ea, rfl, _, rfl, ?_⟩
      by_cases c : j < 2 * d
      · exact if_no (by rw [iff.mpr c]; simp) ⟨xs, eD, by omega, fx, s6⟩
      · have nz : z ≠ "" := fun e => c (iff.mp e)
        refine if_yes (by simp; exact nz) ⟨_, rfl, xs, eD, small1000 (by rw [lm] at lj; omega), xs ++ [.int ((0 : Int) + (j : Int))], upd_same, by rw [List.length_append]; show xs.length + 1 = _; omega, fun i hi => ?_, same_putN s6 nD⟩
        rw [List.length_append] at hi
        rcases Nat.lt_or_ge i xs.length with h | h
        · rw [List.getElem?_append_left h]; exact fx i h
        · have ei : i = xs.length := by have : ([V.int ((0 : Int) + (j : Int))] : List V).length = 1 := rfl; omega
          rw [ei, List.getElem?_append_right (Nat.le_refl _), Nat.sub_self, List.getElem?_cons_zero]
          have e6 : (0 : Int) + (j : Int) = ((2 * d + xs.length : Nat) : Int) := by omega
          rw [e6]
    · rintro H6 ⟨xs, eD, lx, fx, s6⟩
      rw [lm] at lx
      refine ⟨D, xs, 1, _, rfl, rfl, SqL.of eD, atI_nat (j := 1) (fx 1 (by omega)), ?_⟩
      have e6 := s6 _ _ e5
      have en : ((lineW d u).map V.str)[2 * d + 1]? = some (.str u.name) := by rw [List.getElem?_map, lineW_name]; rfl
      have s46 := (s4.trans s5).trans s6
      refine ⟨_, rfl, _, rfl, _, rfl, wl, _, _, _, rfl, rfl, SqL.of e6, atI_nat en, oa, _, rfl, (ho.same s46).get mu, ?_⟩
      have ixn : ixN ((lineW d u).map V.str).length ((2 * d + 1 : Nat) : Int) = some (2 * d + 1) := by
        unfold ixN
        rw [if_pos (by omega), if_pos (by omega)]
        exact congrArg some (Int.toNat_natCast _)
      refine ⟨_, rfl, _, rfl, wl, _, _, 2 * d + 1, rfl, rfl, e6, ixn, ?_⟩
      have eset : ((lineW d u).map V.str).set (2 * d + 1) (V.str (f u.name)) = (lineW d (ren f u)).map V.str := by
        rw [← List.map_set, lineW_ren]
      rw [eset]
      have nw : wl ≠ ll := fun e => by rw [e, ell] at nwl; cases nwl
      have nw2 : wl ≠ sl := fun e => by rw [e, esl] at nwl; cases nwl
      have ell6 := s6 _ _ (s5 _ _ ell)
      have esl6 := s6 _ _ (s5 _ _ esl)
      have S7 : Same H (upd H6 wl (.lst ((lineW d (ren f u)).map V.str))) := same_putN s46 (none_back s4 nwl)
      have ell7 : (upd H6 wl (.lst ((lineW d (ren f u)).map V.str))) ll = _ := (upd_ne (Ne.symm nw)).trans ell6
      refine ⟨_, rfl, .inl ⟨rfl, _, SqL.of ell7⟩, ⟨_, rfl⟩, _, rfl, _, wl, lineW d (ren f u), rfl, rfl, .inl (SqL.of upd_same), ?_, ?_⟩
      · have z := sum_le (lineW_wd (d := d) okr)
        rw [lineW_len] at z ⊢
        exact Nat.le_trans (show _ ≤ 20 * 47 + 47 * 1 from Nat.add_le_add (by omega) (Nat.mul_le_mul (by omega) (by decide +kernel))) (by decide)
      · rw [line_join d21]
        have lpt := List.length_take_le i (pre 0 t)
        have lpl : (pre 0 t).length = t.names.length := pre_len 0 t
        refine ⟨ll, _, _, rfl, rfl, ell7, small1000 (by rw [List.length_map, List.length_map, List.length_take]; omega), ⟨_, _, _, rfl⟩, same_putN S7 n1, ?_, ?_⟩
        · rw [upd_ne (Ne.symm nes), upd_ne (Ne.symm nw2)]; exact esl6
        · rw [upd_same, List.take_add_one, ep, List.map_append, List.map_append]; rfl
  · rintro σ G ⟨⟨v3, v4, v5, rfl⟩, s4, esl, ell⟩
    have lpl : (linesT 0 t).length = (pre 0 t).length := by unfold linesT; rw [List.length_map]
    rw [List.length_map, lpl, List.take_length, ← lines_ren] at ell
    refine ⟨⟨_, rfl⟩, _, rfl, _, ll, linesT 0 (ren f t), rfl, rfl, .inl (SqL.of ell), ?_, k G s4⟩
    have z := lines_sum (d := 0) ok_ren (by rw [ren_pn]; omega)
    rw [linesT_len]
    have l2 : (ren f t).names.length = t.names.length := by rw [ren_names, List.length_map]
    rw [l2] at z ⊢
    exact Nat.le_trans (show _ ≤ 190 * 200 + 200 * 1 from Nat.add_le_add (by omega) (Nat.mul_le_mul (by omega) (by decide +kernel))) (by decide)
end
end K08
/-! _law_rule, _law_got -/
namespace K08
open PySem PySem.Spec PyProof.Rows L2
/-- the two errors in the clauses -/
structure ErrT (K : PySem.W.Frag) : Prop where
  e1 : PySem.W.exmOne K (.ref (He.ga K "BadRoot")) (.ref (He.ga K "BadRoot")) = some true
  e3 : PySem.W.exmOne K (.ref (He.ga K "NoPlace")) (.ref (He.ga K "NoPlace")) = some true
theorem xf_of {K : PySem.W.Frag} {C : Addr} {newId : String} {bmB : List Value} (T : XCl K C newId bmB) : XfC K C := ⟨T.ga, T.gg, T.xb, T.hd⟩
section
variable {P : Program} {w : World} {K : PySem.W.Frag} {mg : Str → Option Value} {base : Heap}
abbrev s_law_rule : Stmt := (top 105)
def N_law_rule : List Str := ["plan", "error"]
theorem sc_law_rule : FnScope N_law_rule ["plan"] (defScope s_law_rule) := ⟨rfl, rfl, rfl, by decide +kernel, rfl, by decide +kernel, by decide +kernel⟩
abbrev s_law_got : Stmt := (top 106)
def N_law_got : List Str := ["plan", "label"]
theorem sc_law_got : FnScope N_law_got ["plan", "label"] (defScope s_law_got) := ⟨rfl, rfl, rfl, by decide +kernel, rfl, by decide +kernel, by decide +kernel⟩
theorem ok_law_rule (F : Has K mg "_law_rule" s_law_rule) (T : Txt K mg) (TE : Err K mg "BadRoot" "rule") (ET : ErrT K) (F_check_root : FnQ P w K mg base (L2.CX P w) 23 "check_root" ["plan"] (spChkR K)) : FnQ P w K mg base CX0 24 "_law_rule" ["plan"] (spRule K) := by
  refine F.q sc_law_rule (fun _ _ _ _ _ _ us hl => match us, hl with | [_], _ => rfl) (fun vs H Q E h => by obtain ⟨_, _, rfl, _⟩ := h; rfl) (fun cdv A outer s H vs Q E hr h => ?_)
  obtain ⟨v, t, rfl, hv, ok, lv, nl, k⟩ := h
  refine ⟨_, PSs.nox (pss_one (ps_try_asN (X := (cxOf CX0 P w K mg base N_law_rule "_law_rule" (defScope s_law_rule) (He.ga K "_law_rule") cdv A outer s H E).nox) (i := 1) (n := "error") rfl rfl sc_law_rule.nd rfl rfl (fun W pn xe tk _ => (pss_one (ps_ret (pe_fS F_check_root hr (fun σ => passAt tk σ) (pa_cons (pv 0) pa_nil))))) (.cons (c := .ref (He.ga K "BadRoot")) ⟨rfl, by decide, .inl TE.gl⟩ (fun a oe cls d pn hz hf => (pss_one (ps_ret (pe_xf (xf_of TE.cl) TE.xi.nf hz hf (pv 1))))) .nil))), ?_⟩
  refine ⟨_, rfl, v, t, rfl, hv, ok, lv, nl, fun x ex e H' s1 n1 q => ?_, fun e H' s1 => ?_⟩
  · refine ⟨true, ET.e1, fun _ a na => ?_, fun z => nomatch z⟩
    refine ⟨_, rfl, rfl, rfl, e, _, .str x, rfl, q, by kernel_rfl, ?_⟩
    have z := k H' s1
    rw [ex] at z
    exact z
  · have z := k H' s1
    rw [e] at z
    exact z
def spGot (K : PySem.W.Frag) : Sp := fun vs H Q _ => ∃ v t x, vs = [v, .str x] ∧ PTr K H v t ∧ t.pn.lv ≤ 7 ∧ t.names.length ≤ 1000 ∧ x.length ≤ 20 ∧
  (x ∉ t.names → ∀ H', Same H H' → Q .non H') ∧ (x ∈ t.names → ∀ y H', Same H H' → PTr K H' y (atT x t) → Q y H')
theorem ok_law_got (F : Has K mg "_law_got" s_law_got) (T : Txt K mg) (TN : ErrL K mg "NoPlace" "place") (ET : ErrT K) (F_plan_at : FnQ P w K mg base (L2.CX P w) 13 "plan_at" ["plan", "place"] (spAt K)) : FnQ P w K mg base CX0 14 "_law_got" ["plan", "label"] (spGot K) := by
  refine F.q sc_law_got (fun _ _ _ _ _ _ us hl => match us, hl with | [_, _], _ => rfl) (fun vs H Q E h => by obtain ⟨_, _, _, rfl, _⟩ := h; rfl) (fun cdv A outer s H vs Q E hr h => ?_)
  obtain ⟨v, t, x, rfl, hv, lv, nl, lx, kx, k⟩ := h
  refine ⟨_, PSs.nox (pss_one (ps_try_only (X := (cxOf CX0 P w K mg base N_law_got "_law_got" (defScope s_law_got) (He.ga K "_law_got") cdv A outer s H E).nox) rfl rfl (c := .ref (He.ga K "NoPlace")) ⟨rfl, by decide, .inl TN.gl⟩ takes0 (fun W pn xe tk _ => (pss_one (ps_ret (pe_fS F_plan_at hr (fun σ => passAt tk σ) (pa_cons (pv 0) (pa_cons (pv 1) pa_nil)))))) (fun a oe cls d pn hz hf => (pss_one (ps_ret pe_non))))), ?_⟩
  refine ⟨_, rfl, _, rfl, v, t, x, rfl, hv, lv, nl, lx, fun mx e H' s1 n1 q => ?_, fun mx y H' s1 hy => k mx y H' s1 hy⟩
  exact ⟨true, ET.e3, fun _ a na => kx mx H' s1, fun z => nomatch z⟩
end
end K08
/-! _law_renaming_right -/
namespace K08
open PySem PySem.Spec PyProof.Rows L2
section
variable {P : Program} {w : World} {K : PySem.W.Frag} {mg : Str → Option Value} {base : Heap}
abbrev s_law_renaming_right : Stmt := (top 110)
def N_law_renaming_right : List Str := ["m", "plan", "other", "others", "kind_now", "label", "fresh", "again", "one"]
theorem sc_law_renaming_right : FnScope N_law_renaming_right ["m", "plan", "other", "others", "kind_now"] (defScope s_law_renaming_right) := ⟨rfl, rfl, rfl, by decide +kernel, rfl, by decide +kernel, by decide +kernel⟩
/-- changed, called as the law calls it -/
structure Chg (P : Program) (w : World) (K : PySem.W.Frag) (mg : Str → Option Value) (base : Heap) : Prop where
  gl : mg "changed" = some (.ref (He.ga K "changed"))
  kp : PySem.W.keepIn K (.ref (He.ga K "changed")) = true
  fn : FnRK P w K mg base (L2.CX P w) 37 (He.ga K "changed") ["restart"] (spChg K)
theorem chg_of (F : Has K mg "changed" s_changed) (T : Txt K mg) (L : InF P w K mg base) (TN : ErrL K mg "NoPlace" "place") (F_changed_below : FnQ P w K mg base (L2.CX P w) 36 "_changed_below" ["plan", "place", "settings"] (spCb K 7)) : Chg P w K mg base :=
  ⟨F.gl, F.df.elim fun _ D => D.kp, ok_changed F T L TN F_changed_below bind_restart⟩
theorem at_chg {x r : Str} {t : Tr} {ws : List Tr} (h : WayP x t ws) : atT x (chgT x r t) = setR r (atT x t) := by
  induction h with
  | @hit t c =>
    have z : atT x t = t := at_of_last (us := []) (by rw [way_hit c]; rfl)
    have e : chgT x r t = setR r t := by
      cases t with
      | w => rfl
      | s m _ _ _ _ _ _ =>
        have c' : m = x := c
        rw [chgT, if_pos c']; rfl
    have c2 : (setR r t).name = x := by rw [← c]; cases t <;> rfl
    rw [z, e]
    exact at_of_last (us := []) (by rw [way_hit c2]; rfl)
  | @down n r0 st mo sp dl ts tc ws c mt etc w ih =>
    have e : chgT x r (Tr.s n r0 st mo sp dl ts) = .s n r0 st mo sp dl (ts.set (turnOf x ts) (chgT x r tc)) := by
      rw [chgT, if_neg c, chgL_at mt etc]
    have lt := turn_lt mt
    have nse : Tr.namesL (ts.set (turnOf x ts) (chgT x r tc)) = Tr.namesL ts := by
      rw [← chgL_at (r := r) mt etc, chgL_names]
    have tse : turnOf x (ts.set (turnOf x ts) (chgT x r tc)) = turnOf x ts := by
      have go : ∀ (ts : List Tr) (tc : Tr), x ∈ Tr.namesL ts → ts[turnOf x ts]? = some tc → turnOf x (ts.set (turnOf x ts) (chgT x r tc)) = turnOf x ts := by
        intro ts
        induction ts with
        | nil => intro _ h; cases h
        | cons u us ih =>
          intro tc m e
          by_cases cu : x ∈ u.names
          · have z : turnOf x (u :: us) = 0 := by rw [turnOf, if_pos cu]
            rw [z] at e ⊢
            have eu : u = tc := by simpa using e
            subst eu
            rw [List.set_cons_zero, turnOf, chg_names, if_pos cu]
          · have z : turnOf x (u :: us) = turnOf x us + 1 := by rw [turnOf, if_neg cu]
            rw [z] at e ⊢
            have m2 : x ∈ u.names ++ Tr.namesL us := m
            rw [List.set_cons_succ, turnOf, if_neg cu, ih tc ((List.mem_append.mp m2).resolve_left cu) (by simpa using e)]
      exact go ts tc mt etc
    rw [e, at_down c (by rw [nse]; exact mt) (tc := chgT x r tc) (by rw [tse, List.getElem?_set_self lt]), at_down c mt etc]
    exact ih
theorem restart_at {H : Hp} {v : V} {r : Str} {u : Tr} (PL : Pl K) (h : PTr K H v (setR r u)) : ∃ a C dx fs, v = .ref a ∧ H a = some (.ins C dx fs) ∧ Cls K C ∧ NoAttr K C "restart" ∧ fs.lookup ("restart" : Str) = some (V.str r) := by
  cases u with
  | w =>
    cases h with
    | w h hd so => exact ⟨_, wkA K, _, _, rfl, h, PL.cw, PL.nw _ (by simp), by kernel_rfl⟩
  | s =>
    cases h with
    | s h hk ht => exact ⟨_, suA K, _, _, rfl, h, PL.cs, PL.ns _ (by simp), by kernel_rfl⟩
theorem setR_eq (f : Str → Str) (r : Str) (u : Tr) : ren f (setR r u) = setR r (ren f u) := by cases u <;> rfl
def spRr (K : PySem.W.Frag) : Sp := fun vs H Q _ => ∃ (a c oa : Addr) (ns : List Int) (m : Int) (v u : V) (t : Tr) (f : Str → Str) (r : Str), vs = [.ref a, v, u, .ref oa, .str r] ∧ Src K H a c ns m ∧ m ≤ 900000 ∧ oa ≠ a ∧ PTr K H v t ∧ PTr K H u (ren f t) ∧ t.ok ∧ t.pn.lv ≤ 7 ∧ t.names.length ≤ 200 ∧ Oth H oa f t.names ∧ (∀ x ∈ t.names, NmOk (f x)) ∧ InjS f t.names ∧ r ∈ restartsS ∧
  ∀ H', Src K H' a c ns (m + 1) → But a H H' → Q (.bl true) H'
theorem ok_renaming_right (F : Has K mg "_law_renaming_right" s_law_renaming_right) (T : Txt K mg) (PL : Pl K) (L : InF P w K mg base) (LE : Lens K) (LW : FnR P w K mg base CX0 22 (He.ma K (wkA K) "__len__") (spLen K)) (LS : FnR P w K mg base CX0 22 (He.ma K (suA K) "__len__") (spLen K)) (C : Chg P w K mg base)
    (F_names : FnQ P w K mg base CX0 9 "names" ["plan"] (spNames K 7)) (F_law_rule : FnQ P w K mg base CX0 24 "_law_rule" ["plan"] (spRule K)) (F_is_root : FnQ P w K mg base CX0 23 "is_root" ["value"] (spIsR K)) (F_plan_text : FnQ P w K mg base CX0 23 "plan_text" ["plan"] (spText K)) (F_law_renamed_text : FnQ P w K mg base CX0 24 "_law_renamed_text" ["plan", "others"] (spRtx K))
    (F_law_of : FnQ P w K mg base CX0 2 "_law_of" ["m", "items"] (spOf K)) (F_path_to : FnQ P w K mg base (L2.CX P w) 13 "path_to" ["plan", "place"] (spPath K)) (F_plan_at : FnQ P w K mg base (L2.CX P w) 13 "plan_at" ["plan", "place"] (spAt K)) :
    FnQ P w K mg base CX0 45 "_law_renaming_right" ["m", "plan", "other", "others", "kind_now"] (spRr K) := by
  refine F.q sc_law_renaming_right (fun _ _ _ _ _ _ us hl => match us, hl with | [_, _, _, _, _], _ => rfl) (fun vs H Q E h => by obtain ⟨_, _, _, _, _, _, _, _, _, _, rfl, _⟩ := h; rfl) (fun cdv A outer s H vs Q E hr h => ?_)
  obtain ⟨a, c, oa, ns, m, v, u, t, f, r, rfl, S, hm, noa, hv, hu, ok, lv, nl, ho, nf, inj, hr1, k⟩ := h
  have gL : mg "len" = none := T.fr _ (by simp [frees])
  refine ⟨_, PSs.nox (C8.pss_cut (ps_if (pw_or (pt_cmpR (op_neD hr.units) (pe_f F_names hr pass0 (pa_cons (pv 2) pa_nil)) (pe_callTy call_tuple_of (by rfl) (T.fr "tuple" (by simp [frees])) PyProof.Rows.boot_tuple (pa_cons (pe_lc (own := [("label", 5)]) (tt := tYes) rfl sc_law_renaming_right.nd (pi_tup (pe_f F_names hr pass0 (pa_cons (pv 1) pa_nil))) (blkOk_by (N := N_law_renaming_right) (sc := defScope s_law_renaming_right) (by decide +kernel)) (fun _ _ _ _ _ => (pg_name (i := 5) sc_law_renaming_right.nd rfl (by first | exact .inl rfl | exact .inr rfl))) (fun _ _ _ _ _ => pts_nil) (fun _ _ _ _ _ => (pe_dget (hu_of hr) (pv 3) (pv 5) (fun _ _ => rfl)))) pa_nil)) (by first | exact nomark _ | rfl)) (pw_or1 (pt_cmpR op_ne (pe_f F_law_rule hr pass0 (pa_cons (pv 2) pa_nil)) (pe_f F_law_rule hr pass0 (pa_cons (pv 1) pa_nil)) (by first | exact nomark _ | rfl)))).pt
  (pss_one (ps_ret pe_bl))
  pss_nil)
  (pss_cons (ps_if (pw_or (pt_cmpR op_ne (pe_callB call_reprB (by rfl) (T.fr "repr" (by simp [frees])) boot_repr (pa_cons (pe_f F_is_root hr pass0 (pa_cons (pv 2) pa_nil)) pa_nil)) (pe_callB call_reprB (by rfl) (T.fr "repr" (by simp [frees])) boot_repr (pa_cons (pe_f F_is_root hr pass0 (pa_cons (pv 1) pa_nil)) pa_nil)) (by first | exact nomark _ | rfl)) (pw_or1 (pt_cmpR op_ne (pe_callB (call_lenOwn (CX := CX0) (n := 22) (E := fun _ _ _ => False) (hr.mono (by decide)) pass0) (by rfl) gL boot_len (pa_cons (pv 2) pa_nil)) (pe_callB (call_lenOwn (CX := CX0) (n := 22) (E := fun _ _ _ => False) (hr.mono (by decide)) pass0) (by rfl) gL boot_len (pa_cons (pv 1) pa_nil)) (by first | exact nomark _ | rfl)))).pt
  (pss_one (ps_ret pe_bl))
  pss_nil)
  (pss_cons (ps_if (pt_cmpR op_ne (pe_f F_plan_text hr pass0 (pa_cons (pv 2) pa_nil)) (pe_f F_law_renamed_text hr pass0 (pa_cons (pv 1) (pa_cons (pv 3) pa_nil))) (by first | exact nomark _ | rfl))
  (pss_one (ps_ret pe_bl))
  pss_nil)
  (pss_cons (ps_set (i := 5) sc_law_renaming_right.nd rfl (by first | exact .inl rfl | exact .inr rfl) (pe_f F_law_of hr pass0 (pa_cons (pv 0) (pa_cons (pe_callTy call_list_of (by rfl) (T.fr "list" (by simp [frees])) PyProof.Rows.boot_list (pa_cons (pe_f F_names hr pass0 (pa_cons (pv 1) pa_nil)) pa_nil)) pa_nil))))
  (pss_cons (ps_if (pt_cmpR (op_neD hr.units) (pe_f F_path_to hr passNo (pa_cons (pv 2) (pa_cons (pe_dget (hu_of hr) (pv 3) (pv 5) (fun _ _ => rfl)) pa_nil))) (pe_callTy call_tuple_of (by rfl) (T.fr "tuple" (by simp [frees])) PyProof.Rows.boot_tuple (pa_cons (pe_lc (own := [("one", 8)]) (tt := tYes) rfl sc_law_renaming_right.nd (pi_tup (pe_f F_path_to hr passNo (pa_cons (pv 1) (pa_cons (pv 5) pa_nil)))) (blkOk_by (N := N_law_renaming_right) (sc := defScope s_law_renaming_right) (by decide +kernel)) (fun _ _ _ _ _ => (pg_name (i := 8) sc_law_renaming_right.nd rfl (by first | exact .inl rfl | exact .inr rfl))) (fun _ _ _ _ _ => pts_nil) (fun _ _ _ _ _ => (pe_dget (hu_of hr) (pv 3) (pv 8) (fun _ _ => rfl)))) pa_nil)) (by first | exact nomark _ | rfl))
  (pss_one (ps_ret pe_bl))
  pss_nil)
  (pss_cons (ps_swap (is := [6, 7]) rfl sc_law_renaming_right.nd (pe_tupM (pa_cons (StD.pe_callRK (ks := ["restart"]) C.fn (hr.mono (by decide)) rfl C.gl C.kp passNo (pa_cons (pv 1) (pa_cons (pv 5) pa_nil)) (pk_cons (pv 4) pk_nil)) (pa_cons (StD.pe_callRK (ks := ["restart"]) C.fn (hr.mono (by decide)) rfl C.gl C.kp passNo (pa_cons (pv 2) (pa_cons (pe_dget (hu_of hr) (pv 3) (pv 5) (fun _ _ => rfl)) pa_nil)) (pk_cons (pv 4) pk_nil)) pa_nil))) (.cons rfl (.inl rfl) (.inr rfl) (.cons rfl (.inl rfl) (.inr rfl) .nil)))
  (pss_one (ps_ret (pe_and (pe_cmpR op_eq (pe_f F_plan_text hr pass0 (pa_cons (pv 7) pa_nil)) (pe_f F_law_renamed_text hr pass0 (pa_cons (pv 6) (pa_cons (pv 3) pa_nil))) (by first | exact nomark _ | rfl)) (pe_one (pe_cmpR op_eq (pe_fld (pe_f F_plan_at hr passNo (pa_cons (pv 7) (pa_cons (pe_dget (hu_of hr) (pv 3) (pv 5) (fun _ _ => rfl)) pa_nil))) rfl) (pv 4) (by first | exact nomark _ | rfl)))))))))))), ?_⟩
  have nok := names_ok t ok
  have okr := ren_ok f t ok nf
  have lvr : (ren f t).pn.lv = t.pn.lv := by rw [ren_pn]
  have nlr : (ren f t).names.length = t.names.length := by rw [ren_names, List.length_map]
  have szt := Tr.size_names t
  have szr := Tr.size_names (ren f t)
  have ern := ren_names f t
  have nrk : ∀ x ∈ t.names.map f, NmOk x := fun x hx => by
    obtain ⟨y, hy, rfl⟩ := List.mem_map.mp hx
    exact nf y hy
  -- names, rules
  refine ⟨fun σ G => σ = [some (.ref a), some v, some u, some (.ref oa), some (.str r), none, none, none, none] ∧ Same H G, ?_, ?_⟩
  · refine ⟨_, rfl, u, ren f t, rfl, hu, by omega, by omega, fun q1 G1 s1 hq1 => ?_⟩
    rw [ern] at hq1
    refine ⟨_, rfl, v, t, rfl, hv.same s1, lv, by omega, fun q2 G2 s2 hq2 => ⟨q2, rfl, ⟨_, hq2⟩, comp_val walk_tup (f := fun i => .str (((t.names.map f)[i]?).getD "")) (by rw [List.length_map]; exact small1000 (by omega)) (fun G g => g.sqT hq2) (fun i H x H' y b o e => by rw [y.1]; exact e) (fun i x G3 G4 R hi g1 yy kk => ?_) fun cl G3 s3 n3 e3 => ?_⟩⟩
    · obtain ⟨rfl, ex⟩ := yy
      obtain ⟨y, ey, rfl⟩ : ∃ y, t.names[i]? = some y ∧ V.str y = x := by
        rw [List.getElem?_map] at ex
        exact Option.map_eq_some_iff.mp ex
      refine ⟨rfl, _, rfl, _, rfl, oa, _, rfl, (ho.same ((s1.trans s2).trans g1)).get (List.mem_of_getElem? ey), ?_⟩
      have z := kk _ (Same.refl _)
      rw [List.getElem?_map, ey] at z
      exact z
    · have em : (List.range (t.names.map V.str).length).map (fun i => V.str (((t.names.map f)[i]?).getD "")) = (t.names.map f).map V.str := by
        rw [List.length_map]
        refine List.ext_getElem? fun i => ?_
        by_cases c : i < t.names.length
        · simp [List.getElem?_range c, List.getElem?_eq_getElem c]
        · simp [List.getElem?_eq_none (Nat.le_of_not_lt c), List.getElem?_eq_none (l := List.range t.names.length) (by simpa using Nat.le_of_not_lt c)]
      rw [em] at e3
      refine ⟨cl, _, rfl, .inl ⟨SqL.of e3, fun t1 nt1 => ?_⟩⟩
      have s4 : Same G3 (upd G3 t1 (.tup ((t.names.map f).map V.str))) := Same.new nt1
      have S4 := ((s1.trans s2).trans s3).trans s4
      refine ne_strsT nrk (s4.sqT (s3.sqT (s2.sqT hq1))) (SqT.of upd_same) ⟨_, rfl, if_no rfl ?_⟩
      refine ⟨_, rfl, u, ren f t, rfl, hu.same S4, okr, by omega, by omega, fun G5 s5 => ⟨_, rfl, v, t, rfl, hv.same (S4.trans s5), ok, lv, by omega, fun G6 s6 => ?_⟩⟩
      rw [rule_ren inj]
      have fin : Same H G6 := (S4.trans s5).trans s6
      cases e : ruleT t with
      | none => exact ⟨rfl, _, rfl, if_no rfl ⟨rfl, fin⟩⟩
      | some x => exact ⟨rfl, _, rfl, if_no (by simp [ruleV]) ⟨rfl, fin⟩⟩
  rintro σ G ⟨rfl, s0⟩
  replace hv := hv.same s0
  replace hu := hu.same s0
  replace ho := ho.same s0
  replace S := S.same s0
  -- roots and sizes
  refine ⟨_, rfl, u, ren f t, rfl, hu, okr, by omega, by omega, fun G1 s1 => ⟨_, rfl, _, rfl, v, t, rfl, hv.same s1, ok, lv, by omega, fun G2 s2 => ⟨_, rfl, rfl, _, rfl, if_no (by rw [rule_ren inj]; simp) ⟨_, rfl, ?_⟩⟩⟩⟩
  dsimp only [tNil, cxOf]
  refine lens_at LE LW LS ((hu.same s1).same s2).pt (by omega) (by omega) fun G3 s3 => ⟨_, rfl, ?_⟩
  dsimp only [tNil, cxOf]
  have s13 := (s1.trans s2).trans s3
  refine lens_at LE LW LS (hv.same s13).pt (by omega) (by omega) fun G4 s4 => ⟨rfl, _, rfl, if_no (by rw [ren_pn]; simp) ?_⟩
  have s14 := s13.trans s4
  -- texts
  refine ⟨_, rfl, u, ren f t, rfl, hu.same s14, okr, by omega, by omega, fun G5 s5 => ⟨_, rfl, _, rfl, v, t, oa, f, rfl, (hv.same s14).same s5, ok, by omega, nl, (ho.same s14).same s5, nf, fun G6 s6 => ⟨rfl, _, rfl, if_no (by simp) ?_⟩⟩⟩
  have s16 := (s14.trans s5).trans s6
  -- a name
  refine ⟨_, rfl, _, rfl, v, t, rfl, hv.same s16, lv, by omega, fun q7 G7 s7 hq7 => ⟨q7, _, rfl, .inr hq7, fun l8 nl8 => ?_⟩⟩
  have s8 : Same G7 (upd G7 l8 (.lst (t.names.map V.str))) := Same.new nl8
  have S8 := (S.same (s16.trans s7)).same s8
  have pos : 0 < t.names.length := by
    obtain ⟨rest, en⟩ := Tr.names_eq t
    rw [en, List.length_cons]; omega
  refine pick_of S8 (by omega) upd_same (by rw [List.length_map]; exact pos) (by rw [List.length_map]; omega) fun xv hx G9 b9 S9 => ?_
  obtain ⟨x, mx, rfl⟩ := List.mem_map.mp hx
  have b09 : But a H G9 := (((But.refl a H).same ((s0.trans (s16.trans s7)))).same s8).trans b9
  have so : Solid G G9 := (Solid.of_same ((s16.trans s7).trans s8)).trans (But.solid b9 S8.is)
  have hv9 := PTr.solid so hv
  have hu9 := PTr.solid so hu
  have ho9 : Oth G9 oa f t.names := by
    obtain ⟨kvs, e, g⟩ := (ho.same (s16.trans s7)).same s8
    exact ⟨kvs, b9 _ _ e noa, g⟩
  have lx := (nok x mx).2
  have lfx := (nf x mx).2
  have mfx : f x ∈ (ren f t).names := by rw [ern]; exact List.mem_map_of_mem mx
  have pnok : ∀ y ∈ pathT x t, y ∈ t.names := fun y hy => by
    unfold pathT at hy
    obtain ⟨w1, hw, rfl⟩ := List.mem_map.mp hy
    exact way_sub (WayP.of mx) w1 hw _ (name_mem w1)
  have pfok : ∀ y ∈ (pathT x t).map f, NmOk y := fun y hy => by
    obtain ⟨z, hz, rfl⟩ := List.mem_map.mp hy
    exact nf z (pnok z hz)
  -- paths
  refine ⟨_, rfl, _, rfl, _, rfl, oa, _, rfl, ho9.get mx, u, ren f t, f x, rfl, hu9, by omega, by omega, lfx, fun n => absurd mfx n, fun _ p1 H1 t1 hp1 => ?_⟩
  rw [path_ren inj mx] at hp1
  refine ⟨_, rfl, _, rfl, v, t, x, rfl, hv9.same t1, lv, by omega, lx, fun n => absurd mx n, fun _ p2 H2 t2 hp2 => ⟨p2, rfl, ⟨_, hp2⟩, comp_val walk_tup (f := fun i => .str ((((pathT x t).map f)[i]?).getD "")) ?_ (fun G g => g.sqT hp2) (fun i H x H' y b o e => by rw [y.1]; exact e) (fun i z G3 G4 R hi g1 yy kk => ?_) fun cl H3 t3 n3 e3 => ?_⟩⟩
  · rw [List.length_map]
    unfold pathT
    rw [List.length_map]
    have := wayT_len x t
    exact small1000 (by omega)
  · obtain ⟨rfl, ex⟩ := yy
    obtain ⟨y, ey, rfl⟩ : ∃ y, (pathT x t)[i]? = some y ∧ V.str y = z := by
      rw [List.getElem?_map] at ex
      exact Option.map_eq_some_iff.mp ex
    refine ⟨rfl, _, rfl, _, rfl, oa, _, rfl, (ho9.same ((t1.trans t2).trans g1)).get (pnok y (List.mem_of_getElem? ey)), ?_⟩
    have z := kk _ (Same.refl _)
    rw [List.getElem?_map, ey] at z
    exact z
  have em : (List.range ((pathT x t).map V.str).length).map (fun i => V.str ((((pathT x t).map f)[i]?).getD "")) = ((pathT x t).map f).map V.str := by
    rw [List.length_map]
    refine List.ext_getElem? fun i => ?_
    by_cases c : i < (pathT x t).length
    · simp [List.getElem?_range c, List.getElem?_eq_getElem c]
    · simp [List.getElem?_eq_none (Nat.le_of_not_lt c), List.getElem?_eq_none (l := List.range (pathT x t).length) (by simpa using Nat.le_of_not_lt c)]
  rw [em] at e3
  refine ⟨cl, _, rfl, .inl ⟨SqL.of e3, fun t4 nt4 => ?_⟩⟩
  have s4' : Same H3 (upd H3 t4 (.tup (((pathT x t).map f).map V.str))) := Same.new nt4
  have T4 := ((t1.trans t2).trans t3).trans s4'
  refine ne_strsT pfok (s4'.sqT (t3.sqT (t2.sqT hp1))) (SqT.of upd_same) ⟨_, rfl, if_no rfl ?_⟩
  -- changed
  refine ⟨_, rfl, _, rfl, _, rfl, rfl, v, t, r, x, rfl, rfl, hv9.same T4, ok, by omega, lv, nl, mx, lx, hr1, fun v2 H5 t5 hv2 => ?_⟩
  have T5 := T4.trans t5
  refine ⟨_, rfl, _, rfl, _, rfl, oa, _, rfl, (ho9.same T5).get mx, ?_⟩
  refine ⟨_, rfl, rfl, u, ren f t, r, f x, rfl, rfl, hu9.same T5, okr, by omega, by omega, by omega, mfx, lfx, hr1, fun u2 H6 t6 hu2 => ?_⟩
  rw [chg_ren inj mx t fun _ h => h] at hu2
  refine ⟨(by show 2 ≤ sizeLine; decide), fun tq H7 t7 n7 e7 => ⟨tq, _, rfl, SqT.of e7, rfl, ?_⟩⟩
  have ok2 := chg_ok (x := x) hr1 t ok
  have nm2 := chg_names x r t
  have pn2 := chg_pn x r t
  have ok3 : (ren f (chgT x r t)).ok := ren_ok f _ ok2 (by rw [nm2]; exact nf)
  have l3 : (ren f (chgT x r t)).names.length = t.names.length := by rw [ren_names, nm2, List.length_map]
  have v3 : (ren f (chgT x r t)).pn.lv = t.pn.lv := by rw [ren_pn, pn2]
  have T7 := (T5.trans t6).trans t7
  refine ⟨_, rfl, u2, ren f (chgT x r t), rfl, hu2.same t7, ok3, by omega, by omega, fun H8 t8 => ⟨_, rfl, _, rfl, v2, chgT x r t, oa, f, rfl, ((hv2.same t6).same t7).same t8, ok2, by rw [pn2]; omega, by rw [nm2]; exact nl, by rw [nm2]; exact (ho9.same T7).same t8, by rw [nm2]; exact nf, fun H9 t9 => ⟨rfl, _, rfl, if_yes (by simp) ?_⟩⟩⟩
  have mfx2 : f x ∈ (ren f (chgT x r t)).names := by rw [ren_names, nm2]; exact List.mem_map_of_mem mx
  have eat : atT (f x) (ren f (chgT x r t)) = setR r (ren f (atT x t)) := by
    have z := at_ren (f := f) (x := x) (t := chgT x r t) (by rw [nm2]; exact inj) (by rw [nm2]; exact mx)
    rw [z, at_chg (WayP.of mx), setR_eq]
  refine ⟨_, rfl, _, rfl, _, rfl, oa, _, rfl, ((ho9.same T7).same (t8.trans t9)).get mx, u2, ren f (chgT x r t), f x, rfl, (hu2.same t7).same (t8.trans t9), by omega, by omega, lfx, fun n => absurd mfx2 n, fun _ y H10 t10 hy => ?_⟩
  rw [eat] at hy
  obtain ⟨na1, nC, ndx, nfs, nv, nh, ncl, nna, nlk⟩ := restart_at PL hy
  have fin := ((T7.trans t8).trans t9).trans t10
  refine ⟨na1, nC, ndx, nfs, _, nv, nh, ncl, nna, nlk, _, rfl, rfl, ?_⟩
  have z := k H10 (S9.same fin) (b09.same fin)
  simpa using z
end
end K08
/-! x == y by an own ==, which is false -/
namespace StD
open PySem PySem.Spec PyProof.Rows L2
/-- what the own == promises -/
def spEqN (R : Addr → Addr → Hp → Prop) : Sp := fun vs H Q _ => ∃ a b, vs = [.ref a, .ref b] ∧ R a b H ∧ ∀ H', Ext H H' → Q (.bl false) H'
def rEqN (D : Eqv) : R2 := fun x y H Q => D x y H ∧ ∀ H', Ext H H' → Q (.bl false) H'
section
variable {X : Cx} {n : Nat}
theorem op_eqN {CX : CXT} {C f : Addr} {fd : FuncData} {ps : List Str} {R : Addr → Addr → Hp → Prop} {E : XK} (F : FnOk X.prog X.w X.K X.mg X.base CX n f fd ps (spEqN R))
    (hs : PySem.W.findIn X.K (.ref C) "__eq__" = some (some (.ref f))) (hf : PySem.W.isFn X.K (.ref f) = true) (hb : Binds X.K fd ps []) (hx : Passes CX X E) (hrm : Room n X.A) : OpR X (compareOp .Eq) (rEqN (DIns C R)) := by
  intro pins s σ H x y u v Q I rx ry hq
  obtain ⟨d, q⟩ := hq
  obtain ⟨a, b, dx, dy, fs, gs, rfl, rfl, ha, hb', hr⟩ := d
  cases rx
  cases ry
  show wpAny (model X.prog X.w) X.A (richCompare .Eq (.ref a) (.ref b)) (EP X pins σ Q) X.xe s
  obtain ⟨mA, J, _⟩ := ins_get I.hok ha
  obtain ⟨mB, J', _⟩ := ins_get I.hok hb'
  obtain ⟨od, J, _⟩ := J.look
  obtain ⟨od', J', _⟩ := J'.look
  obtain ⟨m, hF⟩ := I.fr
  refine PySem.W.cmp_K (op := .Eq) (tb := .ref C) hrm.units0 hF I.ok.mod.kin J J'.type (by simp [PySem.W.notFirst]) hs hf ?_
  have hsp : spEqN R [.ref a, .ref b] H (fun v H' => v = .bl false ∧ Ext H H') E := ⟨a, b, rfl, hr, fun H' e => ⟨rfl, e⟩⟩
  have hl := F.len _ _ _ _ hsp
  have r2 : Vals [V.ref a, V.ref b] [Value.ref a, Value.ref b] := .cons rfl (.cons rfl .nil)
  refine wpAny_call (codeAny_mono (F.run X.A X.stack s H ⟨[.ref a, .ref b], []⟩ [.ref a, .ref b] [.ref a, .ref b] _ E hrm I.env0 (by
    have := hb s [.ref a, .ref b] I.kIn (by simpa using hl)
    simpa using this) r2 hsp) fun r s' hq => ?_)
  cases r with
  | error e => exact hx pins σ H s e s' I hq
  | ok fl =>
    cases fl with
    | ret w =>
      obtain ⟨z, H', I', rz, ez, ex⟩ := I.after hq
      subst ez
      cases rz
      exact ⟨.bl false, H', I', rfl, q H' ex⟩
    | next => exact False.elim hq
    | brk => exact False.elim hq
    | cont => exact False.elim hq
theorem eqN_or {D D' : Eqv} (h : OpR X (compareOp .Eq) (rEqN D)) (h' : OpR X (compareOp .Eq) (rEqN D')) : OpR X (compareOp .Eq) (rEqN fun x y H => D x y H ∨ D' x y H) := by
  intro pins s σ H x y v u Q I rx ry hq
  obtain ⟨d, q⟩ := hq
  rcases d with d | d
  · exact h pins s σ H x y v u Q I rx ry ⟨d, q⟩
  · exact h' pins s σ H x y v u Q I rx ry ⟨d, q⟩
end
end StD
/-! == of plans of other names -/
namespace K08
open PySem PySem.Spec PyProof.Rows L2
/-- plans of one kind with other names -/
def NwR (K : PySem.W.Frag) (a b : Addr) (H : Hp) : Prop := ∃ dx dy n n' r o c dl rf sc r' o' c' dl' rf' sc', H a = some (.ins (wkA K) dx (wflds (.str n) r o c dl rf sc)) ∧ H b = some (.ins (wkA K) dy (wflds (.str n') r' o' c' dl' rf' sc')) ∧ n ≠ n'
def NsR (K : PySem.W.Frag) (a b : Addr) (H : Hp) : Prop := ∃ dx dy n n' p r st mo sp dl p' r' st' mo' sp' dl', H a = some (.ins (suA K) dx (sflds (.str n) p r st mo sp dl)) ∧ H b = some (.ins (suA K) dy (sflds (.str n') p' r' st' mo' sp' dl')) ∧ n ≠ n'
def Dn (K : PySem.W.Frag) : Eqv := fun x y H => DIns (wkA K) (NwR K) x y H ∨ DIns (suA K) (NsR K) x y H
section
variable {P : Program} {w : World} {K : PySem.W.Frag} {mg : Str → Option Value} {base : Heap}
theorem ok_eqN_w {fd : FuncData} (F : FunD K "__eq__" "WorkerPlan.__eq__" (defArgs s_WorkerPlan___eq__) (defBody s_WorkerPlan___eq__) (defScope s_WorkerPlan___eq__) [] [] (He.ma K (wkA K) "__eq__") fd) (T : Txt K mg) (L : Pl K) :
    FnOk P w K mg base CX0 1 (He.ma K (wkA K) "__eq__") fd ["self", "other"] (StD.spEqN (NwR K)) := by
  refine F.ok sc_WorkerPlan___eq__ (fun vs H Q E h => by obtain ⟨_, _, rfl, _⟩ := h; rfl) (fun cdv A outer s H vs Q E hr h => ?_)
  obtain ⟨a, b, rfl, ⟨dx, dy, n, n', r, o, c, dl, rf, sc, r', o', c', dl', rf', sc', ha, hb, ne⟩, k⟩ := h
  have gI : mg "isinstance" = none := T.fr _ (by simp [frees])
  refine ⟨_, PSs.nox (pss_one (ps_ret (pe_and (pe_callB call_isi (by rfl) gI boot_isinstance (pa_cons (pv 1) (pa_cons (C8.pe_gc (by rfl) T.c_WorkerPlan) pa_nil))) (pe_and (pe_cmpR op_eq (pe_fld (pv 0) rfl) (pe_fld (pv 1) rfl) (by first | exact nomark _ | rfl)) (pe_and (pe_cmpR op_eq (pe_fld (pv 0) rfl) (pe_fld (pv 1) rfl) (by first | exact nomark _ | rfl)) (pe_and (pe_cmpR op_eq (pe_fld (pv 0) rfl) (pe_fld (pv 1) rfl) (by first | exact nomark _ | rfl)) (pe_and (pe_cmpR op_eq (pe_fld (pv 0) rfl) (pe_fld (pv 1) rfl) (by first | exact nomark _ | rfl)) (pe_and (pe_cmpR op_eq (pe_fld (pv 0) rfl) (pe_fld (pv 1) rfl) (by first | exact nomark _ | rfl)) (pe_and (pe_cmpR op_eq (pe_fld (pv 0) rfl) (pe_fld (pv 1) rfl) (by first | exact nomark _ | rfl)) (pe_one (pe_cmpR op_eq (pe_fld (pv 0) rfl) (pe_fld (pv 1) rfl) (by first | exact nomark _ | rfl)))))))))))), ?_⟩
  have hp : Pt K H (.ref b) .wrk := .wrk hb
  refine ⟨_, rfl, _, _, _, _, _, rfl, .own _, hp.ty T.pk, T.pk.kit _ 5 (kt_lt _) (by decide), _, rfl, if_yes rfl ?_⟩
  exact ⟨_, rfl, a, wkA K, _, _, .str n, rfl, ha, L.cw, L.nw _ (by simp), by kernel_rfl, _, rfl, b, wkA K, _, _, .str n', rfl, hb, L.cw, L.nw _ (by simp), by kernel_rfl, rfl, _, rfl, if_no (decide_eq_false fun z => ne (by injection z)) (k H (fun _ _ e => e))⟩
theorem ok_eqN_s {fd : FuncData} (F : FunD K "__eq__" "SupervisorPlan.__eq__" (defArgs s_SupervisorPlan___eq__) (defBody s_SupervisorPlan___eq__) (defScope s_SupervisorPlan___eq__) [] [] (He.ma K (suA K) "__eq__") fd) (T : Txt K mg) (L : Pl K) {m : Nat} (Z : EqF P w K mg base m) :
    FnOk P w K mg base CX0 (2 * m + 3) (He.ma K (suA K) "__eq__") fd ["self", "other"] (StD.spEqN (NsR K)) := by
  refine F.ok sc_SupervisorPlan___eq__ (fun vs H Q E h => by obtain ⟨_, _, rfl, _⟩ := h; rfl) (fun cdv A outer s H vs Q E hr h => ?_)
  obtain ⟨a, b, rfl, ⟨dx, dy, n, n', p, r, st, mo, sp, dl, p', r', st', mo', sp', dl', ha, hb, ne⟩, k⟩ := h
  have gI : mg "isinstance" = none := T.fr _ (by simp [frees])
  refine ⟨_, PSs.nox (pss_one (ps_ret (pe_and (pe_callB call_isi (by rfl) gI boot_isinstance (pa_cons (pv 1) (pa_cons (C8.pe_gc (by rfl) T.c_SupervisorPlan) pa_nil))) (pe_and (pe_cmpR op_eq (pe_fld (pv 0) rfl) (pe_fld (pv 1) rfl) (by first | exact nomark _ | rfl)) (pe_and (pe_cmpR op_eq (pe_fld (pv 0) rfl) (pe_fld (pv 1) rfl) (by first | exact nomark _ | rfl)) (pe_and (pe_cmpR op_eq (pe_fld (pv 0) rfl) (pe_fld (pv 1) rfl) (by first | exact nomark _ | rfl)) (pe_and (pe_cmpR op_eq (pe_fld (pv 0) rfl) (pe_fld (pv 1) rfl) (by first | exact nomark _ | rfl)) (pe_and (pe_cmpR op_eq (pe_fld (pv 0) rfl) (pe_fld (pv 1) rfl) (by first | exact nomark _ | rfl)) (pe_and (pe_cmpR op_eq (pe_fld (pv 0) rfl) (pe_fld (pv 1) rfl) (by first | exact nomark _ | rfl)) (pe_one (pe_cmpR op_eq (pe_fld (pv 0) rfl) (pe_fld (pv 1) rfl) (by first | exact nomark _ | rfl)))))))))))), ?_⟩
  refine ⟨_, rfl, _, _, _, _, _, rfl, .own _, (Dd.sup hb : Dd K H (.ref b) .sup).ty T.pk, T.pk.kit 8 6 (by decide) (by decide), _, rfl, if_yes rfl ?_⟩
  exact ⟨_, rfl, a, suA K, _, _, .str n, rfl, ha, L.cs, L.ns _ (by simp), by kernel_rfl, _, rfl, b, suA K, _, _, .str n', rfl, hb, L.cs, L.ns _ (by simp), by kernel_rfl, rfl, _, rfl, if_no (decide_eq_false fun z => ne (by injection z)) (k H (fun _ _ e => e))⟩
theorem eq_dn {X : Cx} (D : Eqs X.K) {fw fs : FuncData} {n : Nat} (Fw : FnOk X.prog X.w X.K X.mg X.base CX0 n (He.ma X.K (wkA X.K) "__eq__") fw ["self", "other"] (StD.spEqN (NwR X.K))) (bw : Binds X.K fw ["self", "other"] []) (Fs : FnOk X.prog X.w X.K X.mg X.base CX0 n (He.ma X.K (suA X.K) "__eq__") fs ["self", "other"] (StD.spEqN (NsR X.K))) (bs : Binds X.K fs ["self", "other"] []) (hr : Room n X.A) : OpR X (compareOp .Eq) (StD.rEqN (Dn X.K)) :=
  StD.eqN_or (StD.op_eqN (E := E0) Fw D.w1 D.w2 bw pass0 hr) (StD.op_eqN (E := E0) Fs D.s1 D.s2 bs pass0 hr)
theorem dn_of {H : Hp} {x y : V} {t : Tr} {f : Str → Str} (h : PTr K H x t) (g : PTr K H y (ren f t)) (ne : t.name ≠ f t.name) : Dn K x y H := by
  cases t with
  | w n r o c dl rf sc sd =>
    cases h with
    | w h _ _ => cases g with
      | w g _ _ => exact .inl ⟨_, _, _, _, _, _, rfl, rfl, h, g, _, _, _, _, _, _, _, _, _, _, _, _, _, _, _, _, h, g, ne⟩
  | s n r st mo sp dl ts =>
    cases h with
    | s h _ _ => cases g with
      | s g _ _ => exact .inr ⟨_, _, _, _, _, _, rfl, rfl, h, g, _, _, _, _, _, _, _, _, _, _, _, _, _, _, _, _, h, g, ne⟩
end
end K08
/-! the new names -/
namespace K08
open PySem PySem.Spec PyProof.Rows L2 TL
def freshS : Str := "pqrstuvwxyz"
def signOf (z k : Nat) : Str := match freshS.cps.toList[(k + z) % 11]? with
  | some c => ⟨#[c]⟩
  | none => ""
/-- the name of the k-th of them -/
def newN (z k : Nat) : Str := (signOf z k ++ ("_" : Str)) ++ Str.ofString (toString (((k * 7 + z) % 40 : Nat) : Int))
theorem new_ok : ∀ z, z < 40 → ∀ k, k < 18 → isPlace (.str (newN z k)) = true ∧ (newN z k).length ≤ 20 ∧ (signOf z k).length ≤ 1 ∧ 112 ≤ ((tl (newN z k)).headD 0) ∧ (Str.ofString (toString (((k * 7 + z) % 40 : Nat) : Int))).length ≤ 2 := by decide +kernel
theorem new_once : ∀ z, z < 40 → ((List.range 18).map (newN z)).Nodup := by decide +kernel
theorem word_low : ∀ way, way < 4 → ∀ k, k < 3 → (tl (wordOf way k)).headD 0 < 112 := by decide +kernel
theorem nodup_get {α : Type} {xs : List α} {i j : Nat} (nd : xs.Nodup) (hi : i < xs.length) (hj : j < xs.length) (e : xs[i] = xs[j]) : i = j := by
  have z := List.pairwise_iff_getElem.mp nd
  rcases Nat.lt_trichotomy i j with h | h | h
  · exact absurd e (z i j hi hj h)
  · exact h
  · exact absurd e.symm (z j i hj hi h)
theorem new_inj {z i j : Nat} (hz : z < 40) (hi : i < 18) (hj : j < 18) (e : newN z i = newN z j) : i = j := by
  have nd := new_once z hz
  have l : ((List.range 18).map (newN z)).length = 18 := by simp
  have a : ((List.range 18).map (newN z))[i]'(by omega) = newN z i := by simp
  have b : ((List.range 18).map (newN z))[j]'(by omega) = newN z j := by simp
  exact nodup_get nd (by omega) (by omega) (a.trans (e.trans b.symm))
/-- the renaming by a list of the names -/
def nameF (z : Nat) (ks : List Str) (x : Str) : Str := newN z (ks.idxOf x)
theorem nameF_ok {z : Nat} {ks S : List Str} (hz : z < 40) (l : ks.length ≤ 18) (m : ∀ x, x ∈ ks ↔ x ∈ S) : (∀ x ∈ S, NmOk (nameF z ks x)) ∧ InjS (nameF z ks) S := by
  have lt : ∀ x ∈ S, ks.idxOf x < 18 := fun x hx => Nat.lt_of_lt_of_le (List.idxOf_lt_length_of_mem ((m x).mpr hx)) l
  refine ⟨fun x hx => ?_, fun a ha b hb e => ?_⟩
  · obtain ⟨z1, z2, _⟩ := new_ok z hz _ (lt x hx)
    exact ⟨z1, z2⟩
  · have e2 := new_inj hz (lt a ha) (lt b hb) e
    have ea := idx_of ((m a).mpr ha)
    have eb := idx_of ((m b).mpr hb)
    rw [e2, eb] at ea
    exact (Option.some.inj ea).symm
theorem nameF_ne {z : Nat} {ks : List Str} {x : Str} (hz : z < 40) (l : ks.length ≤ 18) (hx : x ∈ ks) (low : (tl x).headD 0 < 112) : x ≠ nameF z ks x := fun e => by
  have lt := Nat.lt_of_lt_of_le (List.idxOf_lt_length_of_mem hx) l
  obtain ⟨_, _, _, h, _⟩ := new_ok z hz _ lt
  have e2 : (tl x).headD 0 = (tl (newN z (ks.idxOf x))).headD 0 := congrArg (fun y => (tl y).headD 0) e
  omega
/-- the table after so many -/
def tabN (z : Nat) (ks : List Str) (i : Nat) : List (Key × V) := tab (ks.take i) ((List.range i).map fun j => V.str (newN z j))
theorem put_new {kvs : List (Key × V)} {k : Key} {v : V} (h : ∀ p ∈ kvs, p.1 ≠ k) : putK kvs k v = kvs ++ [(k, v)] := by
  unfold putK
  rw [if_neg]
  intro q
  obtain ⟨p, hp, e⟩ := List.any_eq_true.mp q
  exact h p hp (of_decide_eq_true e)
theorem tabN_put {z : Nat} {ks : List Str} {i : Nat} {x : Str} (nd : ks.Nodup) (e : ks[i]? = some x) : putK (tabN z ks i) (Sum.inr x) (.str (newN z i)) = tabN z ks (i + 1) := by
  have li : i < ks.length := (List.getElem?_eq_some_iff.mp e).1
  have lt : (ks.take i).length = i := by rw [List.length_take]; omega
  rw [put_new]
  · unfold tabN tab
    rw [List.take_add_one, e, List.range_succ, List.map_append, List.map_append, List.zip_append (by rw [List.length_map, List.length_map, List.length_range, lt])]
    rfl
  · intro p hp q
    have m1 : p.1 ∈ (ks.take i).map (Sum.inr : Str → Key) := by
      unfold tabN tab at hp
      exact (List.of_mem_zip (show (p.1, p.2) ∈ _ from hp)).1
    rw [q] at m1
    obtain ⟨y, hy, ey⟩ := List.mem_map.mp m1
    injection ey with ey
    subst ey
    obtain ⟨j, hj, ej⟩ := List.getElem_of_mem hy
    rw [List.getElem_take] at ej
    have hj2 : j < i := by omega
    have ek : ks[i]'li = y := Option.some.inj ((List.getElem?_eq_getElem li).symm.trans e)
    have := nodup_get nd (by omega) li (ej.trans ek.symm)
    omega
theorem tabN_len {z : Nat} {ks : List Str} {i : Nat} (h : i ≤ ks.length) : (tabN z ks i).length = i := by
  unfold tabN tab
  rw [List.length_zip, List.length_map, List.length_take, List.length_map, List.length_range]
  omega
theorem tabN_oth {H : Hp} {oa : Addr} {z : Nat} {ks S : List Str} (nd : ks.Nodup) (m : ∀ x, x ∈ ks ↔ x ∈ S) (e : H oa = some (.dK (tabN z ks ks.length))) : Oth H oa (nameF z ks) S := by
  refine ⟨_, e, fun x hx => ?_⟩
  have mx := (m x).mpr hx
  have lt := List.idxOf_lt_length_of_mem mx
  unfold tabN
  rw [List.take_length, val_tab nd (by rw [List.length_map, List.length_range]) (idx_of mx), List.getElem?_map, List.getElem?_range lt]
  rfl
/-- the names once, sorted -/
theorem merge_keys : ∀ (xs : List Str) (v : V) (as : List Str) (acc : List (Key × V)), as.Nodup → acc.map (·.1) = as.map Sum.inr → ∃ ks : List Str, (mergeK acc (xs.map fun x => (Sum.inr x, v))).map (·.1) = ks.map (Sum.inr : Str → Key) ∧ ks.Nodup ∧ (∀ x, x ∈ ks ↔ x ∈ as ∨ x ∈ xs) ∧ ks.length ≤ as.length + xs.length
  | [], v, as, acc, nd, e => ⟨as, e, nd, fun x => by simp, by simp⟩
  | x :: xs, v, as, acc, nd, e => by
    have st : mergeK acc ((x :: xs).map fun x => ((Sum.inr x : Key), v)) = mergeK (putK acc (Sum.inr x) v) (xs.map fun x => ((Sum.inr x : Key), v)) := rfl
    by_cases m : x ∈ as
    · have e2 : (putK acc (Sum.inr x) v).map (·.1) = as.map (Sum.inr : Str → Key) := by
        have any : (acc.any fun kv => decide (kv.1 = (Sum.inr x : Key))) = true := by
          have hx : (Sum.inr x : Key) ∈ acc.map (·.1) := by rw [e]; exact List.mem_map_of_mem m
          obtain ⟨p, hp, ep⟩ := List.mem_map.mp hx
          exact List.any_eq_true.mpr ⟨p, hp, decide_eq_true ep⟩
        unfold putK
        rw [if_pos any, List.map_map, ← e]
        refine List.map_congr_left fun p _ => ?_
        show (if p.1 = (Sum.inr x : Key) then (p.1, v) else p).1 = p.1
        split <;> rfl
      obtain ⟨ks, k1, k2, k3, k4⟩ := merge_keys xs v as _ nd e2
      refine ⟨ks, by rw [st]; exact k1, k2, fun y => ?_, by rw [List.length_cons]; omega⟩
      rw [k3 y, List.mem_cons]
      constructor
      · rintro (h | h)
        · exact .inl h
        · exact .inr (.inr h)
      · rintro (h | rfl | h)
        · exact .inl h
        · exact .inl m
        · exact .inr h
    · have e2 : (putK acc (Sum.inr x) v).map (·.1) = (as ++ [x]).map (Sum.inr : Str → Key) := by
        rw [put_new, List.map_append, e, List.map_append]
        · rfl
        · intro p hp q
          have hx : (Sum.inr x : Key) ∈ acc.map (·.1) := List.mem_map.mpr ⟨p, hp, q⟩
          rw [e] at hx
          obtain ⟨y, hy, ey⟩ := List.mem_map.mp hx
          injection ey with ey
          exact m (ey ▸ hy)
      have nd2 : (as ++ [x]).Nodup := List.nodup_append.mpr ⟨nd, by simp, fun a ha b hb => by rw [List.mem_singleton.mp hb]; rintro rfl; exact m ha⟩
      obtain ⟨ks, k1, k2, k3, k4⟩ := merge_keys xs v (as ++ [x]) _ nd2 e2
      refine ⟨ks, by rw [st]; exact k1, k2, fun y => ?_, by rw [List.length_append] at k4; rw [List.length_cons]; simp at k4; omega⟩
      rw [k3 y, List.mem_append, List.mem_singleton, List.mem_cons, or_assoc]
theorem text_ne {t : Tr} {f : Str → Str} (ok : t.ok) (okr : (ren f t).ok) (lv : t.pn.lv ≤ 20) (ne : t.name ≠ f t.name) : Txt.join "\n" (linesT 0 t) ≠ Txt.join "\n" (linesT 0 (ren f t)) := fun e => by
  have a := text_split ok lv
  have b := text_split okr (by rw [ren_pn]; exact lv)
  rw [e, b] at a
  have h0 : (linesT 0 t)[0]? = (linesT 0 (ren f t))[0]? := by rw [a]
  have first : ∀ u : Tr, (linesT 0 u)[0]? = some (lineT 0 u) := fun u => by cases u <;> (unfold linesT; rw [pre]; rfl)
  rw [first, first] at h0
  have h1 := Option.some.inj h0
  have w1 := line_split (d := 0) (by decide) ok
  have w2 := line_split (d := 0) (by decide) okr
  rw [h1, w2] at w1
  have n1 := lineW_name 0 t
  have n2 := lineW_name 0 (ren f t)
  rw [← w1, n2, ren_name] at n1
  exact ne (Option.some.inj n1).symm
end K08
/-! enumerate(list, k) -/
/-! enumerate of a tuple -/
namespace L2
open PySem PySem.Spec PyProof.Rows
/-- the items of the list at a, counted from k, in new pairs -/
def Ite1 (K : PySem.W.Frag) (a : Addr) (k : Int) : It where
  go := fun i H => ∃ us : List V, SqL K H a us ∧ i < us.length
  yld := fun i H v H' => ∃ T x, v = .ref T ∧ H T = none ∧ H' = upd H T (.tup [.int (k + (i : Int)), x]) ∧ ∀ us, SqL K H a us → us[i]? = some x
  stop := fun i H => ∃ us : List V, SqL K H a us ∧ i = us.length
theorem turnE1 {P : Program} {w : World} {K : PySem.W.Frag} {elts : List Expr} {kk : Nat} {tpos : Pos} {a e it : Addr} {k : Int} (ne : e ≠ it) (na : a ≠ it) (nea : e ≠ a) :
    Turn P w K (.Tuple elts kk tpos) (Ite1 K a k) [e, it] e (fun i h => (∃ old, IsEnum h e it (k + (i : Int)) old) ∧ h.IsListIter it a i) where
  mem := by simp
  obj := by
    rintro i h ⟨⟨old, g1⟩, ⟨o2, e2, _, d2⟩⟩ c hc
    simp only [List.mem_cons, List.not_mem_nil, or_false] at hc
    rcases hc with rfl | rfl
    · exact ⟨_, g1, by rintro _ ⟨⟩⟩
    · exact ⟨o2, e2, by rintro _ j; rw [d2] at j; cases j⟩
  keep := by
    rintro i h h2 ⟨⟨old, g1⟩, g2⟩ kp
    exact ⟨⟨old, kp _ (by simp) _ g1⟩, g2.at (kp it (by simp))⟩
  item := by
    rintro X rfl rfl rfl calm i pins s σ H E I apart ⟨⟨old, g1⟩, g2⟩ ⟨us, hu, lu⟩
    obtain ⟨ts, rt, pt, _⟩ := I.list hu
    have free := I.ok.hd calm
    have el : e < s.heap.objs.size := Heap.lt_size g1
    obtain ⟨x, hx⟩ : ∃ x, us[i]? = some x := ⟨us[i], by simp [lu]⟩
    have len1 : ts.toArray.size = us.length := by simpa using rt.length.symm
    refine wpAny_pyNext_enum_itemC (Draws.list (A := X.A.in1) free it a na ts.toArray) g1 (i := i) ⟨g2, pt.isList⟩ (by omega) ne (by simp [ne, nea]) ?_
    rintro u h1 tk eu j1 ⟨j2, _⟩ j3 _ kp
    obtain ⟨u2, gu, ru⟩ := rt.get hx
    have qu : u2 = u := by simpa [gu] using eu
    subst qu
    refine ⟨_, rfl, wpAny_letOwnedTupleGo_enum (s := { s with heap := h1, toks := tk + 1 }) j1 fun h2 j4 sb => ?_⟩
    have at_new : h2.get? s.heap.objs.size = some { cls := .type "tuple", data := .seq #[.int (k + (i : Int)) tk, u2] } := (sb.2 _ (Nat.ne_of_gt el)).trans j3
    have fresh := I.hok.fresh (Nat.le_refl s.heap.objs.size)
    have J : Inv X pins σ (upd H s.heap.objs.size (.tup [.int (k + (i : Int)), x])) { s with heap := h2, toks := tk + 1 } := by
      refine I.turnedNew (ch := [e, it]) (fun c o hc q => ?_) apart (Nat.le_refl _) ⟨(by show 2 ≤ sizeLine; decide), [.int (k + (i : Int)) tk, u2], .cons ⟨tk, rfl⟩ (.cons ru .nil), ⟨_, at_new, rfl, _, rfl⟩⟩
      simp only [List.mem_cons, List.not_mem_nil, or_false, not_or] at hc
      exact (sb.2 c hc.1).trans (kp c o hc.1 hc.2 q)
    have e1 : k + ((i + 1 : Nat) : Int) = k + (i : Int) + 1 := by omega
    refine ⟨.ref s.heap.objs.size, _, J, rfl, ⟨_, x, rfl, fresh, rfl, fun l hl => by rw [I.list_inj hl hu]; exact hx⟩, ⟨⟨_, by rw [e1]; exact j4⟩, j2.at fun o q => (sb.2 _ ne.symm).trans q⟩, fun c hc => ?_⟩
    have lt : c < s.heap.objs.size := by
      simp only [List.mem_cons, List.not_mem_nil, or_false] at hc
      rcases hc with rfl | rfl
      · exact el
      · obtain ⟨_, q, _⟩ := g2; exact Heap.lt_size q
    rw [upd_ne (Nat.ne_of_lt lt)]
    exact (apart c hc).1
  done := by
    rintro X rfl rfl rfl calm i pins s σ H E I apart ⟨⟨old, g1⟩, g2⟩ ⟨us, hu, fin⟩
    obtain ⟨ts, rt, pt, _⟩ := I.list hu
    have free := I.ok.hd calm
    have len1 : ts.toArray.size = us.length := by simpa using rt.length.symm
    have at_end : i = ts.toArray.size := by omega
    refine wpAny_pyNext_enum_endD (Draws.list (A := X.A.in1) free it a na ts.toArray) g1 ⟨by rw [← at_end]; exact g2, pt.isList⟩ fun h1 kp => ⟨rfl, ?_⟩
    refine I.turnedL (t' := s.toks) (ch := [e, it]) (fun c o hc q => ?_) apart
    simp only [List.mem_cons, List.not_mem_nil, or_false, not_or] at hc
    exact kp c o hc.2 q
  self := fun A i s Q E ⟨⟨_, g1⟩, _⟩ h => wpAny_pyIter_enum g1 h
def iEnum1 (K : PySem.W.Frag) (ta : TA) : TI := fun σ H R => ta σ H fun vs H1 => ∃ a us k, vs = [.ref a, .int k] ∧ -(2 ^ 63) ≤ k ∧ k < 2 ^ 63 ∧ SqL K H1 a us ∧ R (Ite1 K a k) H1
theorem pi_enum1 {X : Cx} {e e2 : Expr} {ta : TA} {p pos tpos : Pos} {elts : List Expr} {kk : Nat} (hg : Gl X "enumerate") (hm : X.mg "enumerate" = none) (ha : PA X [e, e2] ta) (hs : starEach [e, e2] X.env = (false, eval e X.env) :: starEach [e2] X.env := by rfl) (hpl : (backTo pos (starEach [e2] X.env)).any (·.1) = false := by rfl) :
    PI X (.Tuple elts kk tpos) (.Call (.Name "enumerate" p) [e, e2] [] pos) (iEnum1 X.K ta) := by
  refine ⟨fun pins s σ H R I h => Call_ (ld_blt I hg hm boot_enumerate (PyProof.Rows.callWith_type1 (thn (ha.run pos pins s σ H _ I h) ?_) hs hpl))⟩
  rintro us s1 ⟨vs, H1, I1, r1, a, xs, k, rfl, k0, k1, hu, q⟩
  cases r1 with
  | cons ra r2 =>
  obtain ⟨u2, rfl, rk⟩ := vals1 r2
  obtain rfl := show _ = Value.ref a from ra
  obtain ⟨t, rfl⟩ := rk
  obtain ⟨ts, rt, pt, _⟩ := I1.list hu
  have la : a < s1.heap.objs.size := by obtain ⟨_, z, _⟩ := id pt.isList; exact Heap.lt_size z
  refine enum_begins (begins_list a ts.toArray) pt.isList k0 k1 fun h2 g1 g2 _ kp => wpAny_pyIter_enum g1 ?_
  have e0 : k + ((0 : Nat) : Int) = k := by omega
  refine ⟨_, _, _, _, H1, rfl, I1.kept (t' := s1.toks) kp, turnE1 (Nat.succ_ne_self _) (Nat.ne_of_lt la) (Nat.ne_of_gt (Nat.lt_succ_of_lt la)), ⟨⟨_, by rw [e0]; exact g1⟩, ⟨_, g2, rfl, rfl⟩⟩, fun c hc => ?_, q⟩
  have ge : s1.heap.objs.size ≤ c := by
    simp only [List.mem_cons, List.not_mem_nil, or_false] at hc
    rcases hc with rfl | rfl
    · exact Nat.le_add_right _ 1
    · exact Nat.le_refl _
  exact I1.fpOk ge (I1.hok.fresh ge)
theorem walk_enum1 {K : PySem.W.Frag} {a : Addr} {us : List V} {k : Int} : Walk (Ite1 K a k) us.length (fun H => SqL K H a us) (YPair (fun i => some (.int (k + (i : Int)))) (fun i => us[i]?)) := by
  refine ⟨fun i H hi q => ⟨us, q, hi⟩, fun H q => ⟨us, q, rfl⟩, fun i H v H2 hi q y => ?_⟩
  obtain ⟨T, x, e1, e2, e3, e4⟩ := y
  exact ⟨T, .int (k + (i : Int)), x, e1, e2, e3, rfl, e4 us q⟩
end L2
/-! read_plan -/
namespace K08
open PySem PySem.Spec PyProof.Rows L2
section
variable {P : Program} {w : World} {K : PySem.W.Frag} {mg : Str → Option Value} {base : Heap}
theorem sl_listK {X : Cx} (K : PySem.W.Frag) (h : X.K = K := by rfl) : SlR X (rSlL K) := by
  subst h
  exact sl_list
theorem fn_line : FName "line" := ⟨fun _ _ _ _ _ _ _ _ _ _ _ _ => rfl, fun _ _ _ _ _ _ _ _ _ _ _ _ => rfl, rfl, rfl, rfl, by decide, by decide +kernel⟩
abbrev s_read_plan : Stmt := (top 86)
def N_read_plan : List Str := ["text", "way", "number", "line", "body", "depth", "plan", "row"]
theorem sc_read_plan : FnScope N_read_plan ["text"] (defScope s_read_plan) := ⟨rfl, rfl, rfl, by decide +kernel, rfl, by decide +kernel, by decide +kernel⟩
theorem ptr_ref {H : Hp} {v : V} {t : Tr} (h : PTr K H v t) : ∃ a, v = .ref a := by
  cases h with
  | w => exact ⟨_, rfl⟩
  | s => exact ⟨_, rfl⟩
theorem way_len : ∀ {xs : List (Nat × Tr)} {k : Nat} {S : Ms}, (∀ p ∈ xs, p.1 < 20) → S.way.length ≤ 20 → (runM k xs S).way.length ≤ 20
  | [], k, S, _, h => h
  | (e, t) :: xs, k, S, all, h => by
    rw [runM]
    refine way_len (fun p hp => all p (List.mem_cons_of_mem _ hp)) ?_
    have := all (e, t) List.mem_cons_self
    show (S.way.take e ++ [k]).length ≤ 20
    rw [List.length_append, List.length_take]
    show _ + 1 ≤ 20
    have : e < 20 := this
    omega
theorem way0_run : ∀ {xs : List (Nat × Tr)} {k : Nat} {S : Ms}, S.way[0]? = some 0 → (∀ p ∈ xs, 1 ≤ p.1) → (runM k xs S).way[0]? = some 0
  | [], k, S, h, _ => h
  | (e, t) :: xs, k, S, h, all => by
    rw [runM]
    refine way0_run ?_ fun p hp => all p (List.mem_cons_of_mem _ hp)
    have e1 : 1 ≤ e := all (e, t) List.mem_cons_self
    have lt := (List.getElem?_eq_some_iff.mp h).1
    show (S.way.take e ++ [k])[0]? = some 0
    rw [List.getElem?_append_left (by rw [List.length_take]; omega), List.getElem?_take_of_lt (by omega)]
    exact h
theorem way0 (k : Nat) (t : Tr) (ok : t.ok) : (runM 0 (pre 0 t) S0).way[0]? = some 0 := by
  cases t with
  | w => rw [pre]; rfl
  | s n r st mo sp dl ts =>
    rw [pre, runM]
    exact way0_run rfl fun p hp => (preL_ok 1 ts ok.2.2.2.2.2.2.2 p hp).2.1
def spRead (K : PySem.W.Frag) : Sp := fun vs H Q _ => ∃ t : Tr, vs = [.str (Txt.join "\n" (linesT 0 t))] ∧ t.ok ∧ t.pn.lv ≤ 20 ∧ t.names.length ≤ 200 ∧ ∀ u H', Same H H' → PTr K H' u t → Q u H'
/-- the trees of all lines -/
def nodesT (t : Tr) : List Tr := (pre 0 t).map Prod.snd
/-- _built, of rows -/
def spBuiltR (K : PySem.W.Frag) (n : Nat) : Sp := fun vs H Q _ => ∃ (S : Ms) (k i : Nat) (rows : Nat → Addr × Addr) (node : Nat → Tr) (t : Tr), vs = [.ref (rows i).1] ∧ Rp K H S k rows node ∧ Sub S.low i t ∧ (∀ (j : Nat) (u : Tr), (nodesT t)[j]? = some u → node (i + j) = u) ∧ i + t.names.length ≤ k ∧ t.ok ∧ t.pn.lv ≤ n ∧ n ≤ 20 ∧ t.pn.size ≤ 200 ∧ ∀ u H', Same H H' → PTr K H' u t → Q u H'
theorem ok_read_plan {fr : FuncData} (F : Has K mg "read_plan" s_read_plan) (T : Txt K mg) (TE : Err K mg "BadText" "line") (R : Rk K mg) (FR : FnOk P w K mg base CX0 1 (He.ma K (rwA K) "__init__") fr ["self", "plan"] (spRInit K)) (hbR : Binds K fr ["self", "plan"] [])
    (F_depth_of : FnQ P w K mg base CX0 1 "_depth_of" ["spaces"] (spDep K)) (F_plan_of : FnQ P w K mg base CX0 28 "_plan_of" ["words"] (spMadeT K)) (F_can_stand : FnQ P w K mg base CX0 1 "_can_stand" ["way", "depth"] (spCan K)) (F_built : FnQ P w K mg base CX0 48 "_built" ["row"] (spBuiltR K 20)) :
    FnQ P w K mg base (L2.CX P w) 49 "read_plan" ["text"] (spRead K) := by
  refine F.q sc_read_plan (fun _ _ _ _ _ _ us hl => match us, hl with | [_], _ => rfl) (fun vs H Q E h => by obtain ⟨_, rfl, _⟩ := h; rfl) (fun cdv A outer s H vs Q E hr h => ?_)
  obtain ⟨t, rfl, ok, lv, sz, k⟩ := h
  have gL : mg "len" = none := T.fr _ (by simp [frees])
  have gI : mg "isinstance" = none := T.fr _ (by simp [frees])
  refine ⟨_, (pss_cons (ps_if (pt_not (pt_val (pe_callB call_isi (by rfl) gI boot_isinstance (pa_cons (pv 0) (pa_cons (pe_bltn (v := .ty "str") (by rfl) (T.fr "str" (by simp [frees])) PyProof.Rows.boot_str rfl) pa_nil)))))
  (pss_one (ps_raise rfl (takes_of rfl rfl rfl rfl) (pmk_xc PySem.F.excBase_ValueError PySem.F.store_ValueError TE.cl TE.xi fn_line TE.ty hr (by decide) TE.gl pe_int)))
  pss_nil)
  (pss_cons (ps_set (i := 1) sc_read_plan.nd rfl (by first | exact .inl rfl | exact .inr rfl) (pe_lstM pa_nil))
  (pss_cons (ps_for (passes_of rfl) rfl (pi_enum1 (by rfl) (T.fr "enumerate" (by simp [frees])) (pa_cons (pe_bm PySem.F.plainAttrs_str PySem.F.slot_str_split PySem.F.type_str_split mt_split (pv 0) (pa_cons pe_str pa_nil)) (pa_cons pe_int pa_nil))) (pg_tup rfl (pgs_cons (pg_name (i := 2) sc_read_plan.nd rfl (by first | exact .inl rfl | exact .inr rfl)) (pgs_cons (pg_name (i := 3) sc_read_plan.nd rfl (by first | exact .inl rfl | exact .inr rfl)) pgs_nil)))
  (pss_cons (ps_set (i := 4) sc_read_plan.nd rfl (by first | exact .inl rfl | exact .inr rfl) (pe_bm PySem.F.plainAttrs_str PySem.F.slot_str_lstrip PySem.F.type_str_lstrip mt_lstripChars (pv 3) (pa_cons pe_str pa_nil)))
  (pss_cons (ps_set (i := 5) sc_read_plan.nd rfl (by first | exact .inl rfl | exact .inr rfl) (pe_f F_depth_of hr pass0 (pa_cons (pe_op op_sub (pe_callB call_len_str (by rfl) gL boot_len (pa_cons (pv 3) pa_nil)) (pe_callB call_len_str (by rfl) gL boot_len (pa_cons (pv 4) pa_nil))) pa_nil)))
  (pss_cons (ps_set (i := 6) sc_read_plan.nd rfl (by first | exact .inl rfl | exact .inr rfl) (pe_f F_plan_of hr pass0 (pa_cons (pe_bm PySem.F.plainAttrs_str PySem.F.slot_str_split PySem.F.type_str_split mt_split (pv 4) (pa_cons pe_str pa_nil)) pa_nil)))
  (pss_cons (ps_if (pw_or (pt_cmpR op_isN (pv 6) pe_non (by first | exact nomark _ | rfl)) (pw_or (pt_cmpR op_gt (pv 2) (C8.pe_gc (by rfl) T.c_MOST_PLANS) (by first | exact nomark _ | rfl)) (pw_or1 (pt_not (pt_val (pe_f F_can_stand hr pass0 (pa_cons (pv 1) (pa_cons (pv 5) pa_nil)))))))).pt
  (pss_one (ps_raise rfl (takes_of rfl rfl rfl rfl) (pmk_xc PySem.F.excBase_ValueError PySem.F.store_ValueError TE.cl TE.xi fn_line TE.ty hr (by decide) TE.gl (pv 2))))
  pss_nil)
  (pss_cons (ps_set (i := 7) sc_read_plan.nd rfl (by first | exact .inl rfl | exact .inr rfl) (pe_make R.mkr FR (hr.mono (by decide)) (by rfl) R.gl hbR .nil pass0 (pa_cons (pv 6) pa_nil)))
  (pss_cons (ps_set (i := 1) sc_read_plan.nd rfl (by first | exact .inl rfl | exact .inr rfl) (pe_op op_catM (pe_slice (sl_listK K) (pv 1) po_none (po_some (pv 5))) (pe_lstM (pa_cons (pv 7) pa_nil))))
  (pss_one (ps_if (pt_cmpR op_gt (pv 5) pe_int (by first | exact nomark _ | rfl))
  (pss_one (ps_expr (pe_bm PySem.F.plainAttrs_list PySem.F.slot_list_append PySem.F.type_list_append mt_append (pe_fld (pe_ix ix_list (pv 1) (pe_op op_sub (pv 5) pe_int) (fun _ _ => rfl)) rfl) (pa_cons (pv 7) pa_nil))))
  pss_nil)))))))))
  (pss_cons (ps_ret (pe_f F_built hr pass0 (pa_cons (pe_ix ix_list (pv 1) pe_int (fun _ _ => rfl)) pa_nil)))
  pss_nil)))), ?_⟩
  have nx : (pre 0 t).length = t.names.length := pre_len 0 t
  have ll : (linesT 0 t).length = t.names.length := by unfold linesT; rw [List.length_map, nx]
  let node : Nat → Tr := fun j => ((pre 0 t)[j]?.getD (0, t)).2
  have nodeE : ∀ {j p}, (pre 0 t)[j]? = some p → node j = p.2 := fun {j p} h => by show ((pre 0 t)[j]?.getD (0, t)).2 = _; rw [h]; rfl
  obtain ⟨okAll, subAll⟩ : okM (fun j => isS (node j)) 0 (pre 0 t) S0 ∧ Sub (runM 0 (pre 0 t) S0).low 0 t := run_all (sup := fun j => isS (node j)) t ok fun i e tt h hs => by
    show isS (node (0 + i))
    rw [Nat.zero_add, nodeE h]; exact hs
  have tl2 : (Txt.join "\n" (linesT 0 t)).length + 2 ≤ sizeLine := Nat.le_trans (show _ ≤ 40002 by have := text_len ok lv sz; omega) (by decide)
  refine ⟨_, rfl, _, _, _, _, _, rfl, .ty _, .base (.str _), T.pk.kit 3 2 (by decide) (by decide), _, rfl, if_no rfl ?_⟩
  refine ⟨(by show 0 ≤ sizeLine; decide), fun w0 G0 s0 n0 e0 => ?_⟩
  refine ⟨_, rfl, rfl, _, _, rfl, rfl, by decide +kernel, tl2, fun la na => ?_⟩
  rw [text_split ok lv]
  have sl : Same G0 (upd G0 la (.lst ((linesT 0 t).map V.str))) := Same.new na
  have ela : (upd G0 la (.lst ((linesT 0 t).map V.str))) la = some (.lst ((linesT 0 t).map V.str)) := upd_same
  generalize upd G0 la (.lst ((linesT 0 t).map V.str)) = H1 at sl ela ⊢
  have s01 := s0.trans sl
  have lx : ((linesT 0 t).map V.str).length = t.names.length := by rw [List.length_map]; exact ll
  refine ⟨la, _, 1, rfl, by decide, by decide, SqL.of ela, for_it walk_enum1 (fun i σ G => ∃ v2 v3 v4 v5 v6 v7 wl rows, σ = [some (.str (Txt.join "\n" (linesT 0 t))), some (.ref wl), v2, v3, v4, v5, v6, v7] ∧ Rd K H1 G (runM 0 ((pre 0 t).take i) S0) i rows node wl)
    ⟨none, none, none, none, none, none, w0, fun _ => (0, 0), rfl, ⟨fun i h => absurd h (Nat.not_lt_zero i), fun i h => absurd h (Nat.not_lt_zero i), fun i j h => absurd h (Nat.not_lt_zero i), (fun i h => by cases h), fun i j h => by cases h⟩, sl _ _ e0, Same.refl H1, fun j h => absurd h (Nat.not_lt_zero j), fun j _ => rfl⟩
    (fun i σ G _ h => by obtain ⟨_, _, _, _, _, _, _, _, _, Z⟩ := h; exact SqL.of (Z.s _ _ ela)) ?_ ?_⟩
  · rintro i x σ G G' hi ⟨v2, v3, v4, v5, v6, v7, wl, rows, rfl, Z⟩ yy
    obtain ⟨tp, y1, y2, rfl, ntp, rfl, e1, e2⟩ := yy
    cases e1
    rw [lx] at hi
    obtain ⟨⟨e, tt⟩, ep⟩ : ∃ p, (pre 0 t)[i]? = some p := ⟨_, List.getElem?_eq_getElem (by omega)⟩
    have ey : y2 = .str (lineT e tt) := by
      have e2 : ((linesT 0 t).map V.str)[i]? = some y2 := e2
      unfold linesT at e2
      rw [List.map_map, List.getElem?_map, ep] at e2
      exact (Option.some.inj e2).symm
    subst ey
    obtain ⟨ok', e0', e1'⟩ := pre_ok 0 t ok (e, tt) (List.mem_of_getElem? ep)
    have e20 : e < 20 := by show e < 20; have : e < 0 + t.pn.lv := e1'; omega
    have hlen := line_len (d := e) (by omega) tt
    have ok' : tt.ok := ok'
    have hb : (bodyT tt).length ≤ 147 := body_len ok'
    have s1 : Same G (upd G tp (.tup [.int (1 + (i : Int)), .str (lineT e tt)])) := Same.new ntp
    refine ⟨tp, _, rfl, SqT.of upd_same, rfl, _, _, rfl, _, _, rfl, rfl, ?_⟩
    generalize upd G tp (.tup [.int (1 + (i : Int)), .str (lineT e tt)]) = G1 at s1 ⊢
    refine ⟨_, rfl, rfl, _, _, rfl, rfl, Nat.le_trans (show _ ≤ 200 by omega) (by decide), ?_⟩
    rw [line_strip (by omega) tt]
    refine ⟨_, rfl, _, rfl, Nat.le_trans (show _ ≤ 200 by omega) (by decide), _, rfl, _, rfl, Nat.le_trans (show _ ≤ 200 by omega) (by decide), _, _, rfl, rfl, e, congrArg (fun z => [V.int z]) (show ((lineT e tt).length : Int) - ((bodyT tt).length : Int) = ((2 * e : Nat) : Int) by omega), ?_⟩
    refine ⟨_, rfl, rfl, _, _, rfl, rfl, by decide +kernel, Nat.le_trans (show _ ≤ 200 by omega) (by decide), fun wb nb => ?_⟩
    rw [body_split ok']
    have s2 : Same G1 (upd G1 wb (.lst ((wordsT tt).map V.str))) := Same.new nb
    refine ⟨wb, tt, rfl, upd_same, ok', fun u G2 s3 hu => ?_⟩
    obtain ⟨ua, rfl⟩ := ptr_ref hu
    have s12 := (s1.trans s2).trans s3
    have nE : node i = tt := nodeE ep
    obtain ⟨cn, rn⟩ := okM_at okAll ep
    have wl3 : (runM 0 ((pre 0 t).take i) S0).way.length ≤ 1000 := Nat.le_trans (way_len (fun p hp => by
      obtain ⟨_, _, z⟩ := pre_ok 0 t ok p (List.mem_of_mem_take hp)
      omega) (by decide)) (by decide)
    refine ⟨_, rfl, rfl, _, rfl, if_no (decide_eq_false fun z => nomatch z) ⟨_, rfl, _, _, rfl, rfl, _, rfl, if_no (decide_eq_false (by omega)) ⟨_, rfl, _, rfl, wl, _, i, rows, node, e, rfl, s12 _ _ Z.ew, wl3, Z.rp.same s12, ⟨cn.1, cn.2.1, fun d hd => ?_⟩, e20, fun G3 s4 => ⟨_, rfl, if_no rfl ?_⟩⟩⟩⟩
    · obtain ⟨j, a1, a2, a3⟩ := cn.2.2 d hd
      exact ⟨j, a1, ⟨Z.rp.wb j (List.mem_of_getElem? a1), a2⟩, a3⟩
    have s13 := s12.trans s4
    have hu3 := PTr.solid (Solid.of_same s4) hu
    refine ⟨_, rfl, row_new fun x dx l G4 s5 nx4 nl4 lx4 ex el => ?_⟩
    have s15 := s13.trans s5
    refine ⟨_, rfl, _, rfl, ((e : Nat) : Int), rfl, wl, _, rfl, SqL.of (s15 _ _ Z.ew), fun p np => ?_⟩
    have ct : cutV (wayV rows (runM 0 ((pre 0 t).take i) S0)) none (some ((e : Nat) : Int)) = (wayV rows (runM 0 ((pre 0 t).take i) S0)).take e := by
      unfold cutV
      rw [HT.sIx_none, HT.sIx_nat, List.drop_zero, Nat.sub_zero, Nat.min_eq_left]
      unfold wayV
      rw [List.length_map]
      exact cn.1
    rw [ct]
    have s6 : Same G4 (upd G4 p (.lst ((wayV rows (runM 0 ((pre 0 t).take i) S0)).take e))) := Same.new np
    refine ⟨_, rfl, (by show 1 ≤ sizeLine; decide), fun q G5 s7 n5 e5 => ⟨p, q, _, _, rfl, rfl, s7 _ _ upd_same, e5, ?_, fun wl2 G6 s8 n6 e6 => ?_⟩⟩
    · exact Nat.le_trans (show _ ≤ 21 by rw [List.length_take]; show _ + 1 ≤ 21; omega) (by decide)
    have N := Z.next (e := e) cn s13 (by rw [nE]; exact hu3) s5 nx4 nl4 lx4 ex el (s6.trans s7) n6 s8 e6
    have c1 := cn.1
    have gl : ((wayV rows (runM 0 ((pre 0 t).take i) S0)).take e ++ [V.ref x]).length = e + 1 := by
      rw [List.length_append, List.length_take]
      unfold wayV
      rw [List.length_map, Nat.min_eq_left c1]; rfl
    rw [Nat.zero_add] at rn
    refine ⟨_, rfl, _, _, rfl, rfl, _, rfl, ?_⟩
    cases e with
    | zero => exact if_no (decide_eq_false (by decide)) ⟨_, _, _, _, _, _, wl2, _, rfl, by rw [rn]; exact N.1 rfl⟩
    | succ d =>
      obtain ⟨j, jk, ej, ⟨dj, qj, er⟩, eat, elj, few, Zn⟩ := N.2 d rfl
      have ei : (((d + 1 : Nat) : Int) - 1) = ((d : Nat) : Int) := by omega
      refine if_yes (decide_eq_true (by omega)) ⟨_, rfl, _, rfl, _, _, rfl, rfl, wl2, _, _, _, rfl, rfl, SqL.of e6, (by rw [ei]; exact atI_nat eat), (rows j).1, rwA K, dj, _, .ref (rows j).2, rfl, er, R.cl, R.na _ (by simp), by kernel_rfl, .inl ⟨rfl, _, SqL.of elj⟩, _, rfl, (rows j).2, _, .ref x, rfl, rfl, elj, ?_, _, _, _, _, _, _, wl2, _, rfl, by rw [rn]; exact Zn⟩
      exact Nat.lt_of_le_of_lt (show _ ≤ 12 by rw [List.length_map]; omega) (by decide)
  · rintro σ G ⟨v2, v3, v4, v5, v6, v7, wl, rows, rfl, Z⟩
    rw [lx, List.take_of_length_le (by omega)] at Z
    have w00 : (runM 0 (pre 0 t) S0).way[0]? = some 0 := way0 0 t ok
    have ea : (wayV rows (runM 0 (pre 0 t) S0))[0]? = some (.ref (rows 0).1) := by unfold wayV; rw [List.getElem?_map, w00]; rfl
    refine ⟨_, rfl, wl, _, _, _, rfl, rfl, SqL.of Z.ew, atI_nat (j := 0) ea, runM 0 (pre 0 t) S0, t.names.length, 0, rows, node, t, rfl, Z.rp, subAll, fun j u h => by
      rw [Nat.zero_add]
      unfold nodesT at h
      rw [List.getElem?_map] at h
      obtain ⟨p, hp, rfl⟩ := Option.map_eq_some_iff.mp h
      exact nodeE hp, by omega, ok, lv, by decide, by rw [Tr.size_names]; exact sz, fun u H' s hu => k u H' (s01.trans (Z.s.trans s)) hu⟩
end
end K08
/-! _law_parts_right -/
namespace K08
open PySem PySem.Spec PyProof.Rows L2
theorem cut_mem {xs : List V} {lo hi : Option Int} {v : V} (h : v ∈ cutV xs lo hi) : v ∈ xs := List.mem_of_mem_drop (List.mem_of_mem_take h)
section
variable {P : Program} {w : World} {K : PySem.W.Frag} {mg : Str → Option Value} {base : Heap}
abbrev s_law_parts_right : Stmt := (top 108)
def N_law_parts_right : List Str := ["plan", "found", "label", "part", "other", "below"]
theorem sc_law_parts_right : FnScope N_law_parts_right ["plan"] (defScope s_law_parts_right) := ⟨rfl, rfl, rfl, by decide +kernel, rfl, by decide +kernel, by decide +kernel⟩
def spPrt (K : PySem.W.Frag) : Sp := fun vs H Q _ => ∃ v t, vs = [v] ∧ PTr K H v t ∧ t.ok ∧ t.pn.lv ≤ 7 ∧ t.names.length ≤ 200 ∧ t.names.Nodup ∧ ∀ H', Same H H' → Q (.bl true) H'
theorem ok_parts_right (F : Has K mg "_law_parts_right" s_law_parts_right) (T : Txt K mg) (PL : Pl K) (Z : EqF P w K mg base 20) (ED : EqD K) (L : InF P w K mg base)
    (F_names : FnQ P w K mg base CX0 9 "names" ["plan"] (spNames K 7)) (F_plan_at : FnQ P w K mg base (L2.CX P w) 13 "plan_at" ["plan", "place"] (spAt K)) (F_law_got : FnQ P w K mg base CX0 14 "_law_got" ["plan", "label"] (spGot K)) :
    FnQ P w K mg base CX0 45 "_law_parts_right" ["plan"] (spPrt K) := by
  refine F.q sc_law_parts_right (fun _ _ _ _ _ _ us hl => match us, hl with | [_], _ => rfl) (fun vs H Q E h => by obtain ⟨_, _, rfl, _⟩ := h; rfl) (fun cdv A outer s H vs Q E hr h => ?_)
  obtain ⟨v, t, rfl, hv, ok, lv, nl, nd, k⟩ := h
  refine ⟨_, PSs.nox (pss_cons (ps_set (i := 1) sc_law_parts_right.nd rfl (by first | exact .inl rfl | exact .inr rfl) (pe_f F_names hr pass0 (pa_cons (pv 0) pa_nil)))
  (pss_cons (ps_for PassesOwn.never rfl (pi_tup (pe_slice sl_tupW (pv 1) po_none (po_some pe_int))) (pg_name (i := 2) sc_law_parts_right.nd rfl (by first | exact .inl rfl | exact .inr rfl))
  (pss_cons (ps_set (i := 3) sc_law_parts_right.nd rfl (by first | exact .inl rfl | exact .inr rfl) (pe_f F_plan_at hr passNo (pa_cons (pv 0) (pa_cons (pv 2) pa_nil))))
  (pss_one (ps_for PassesOwn.never rfl (pi_tup (pv 1)) (pg_name (i := 4) sc_law_parts_right.nd rfl (by first | exact .inl rfl | exact .inr rfl))
  (pss_cons (ps_set (i := 5) sc_law_parts_right.nd rfl (by first | exact .inl rfl | exact .inr rfl) (pe_f F_law_got hr pass0 (pa_cons (pv 3) (pa_cons (pv 4) pa_nil))))
  (pss_one (ps_if (pw_or (pt_cmpR op_eq (pe_cmpR op_isN (pv 5) pe_non (by first | exact nomark _ | rfl)) (pe_cmpR (op_inOwnK P w K mg base (CX := CX0) (n := 10) (E := fun _ _ _ => False) (hr.mono (by decide)) pass0) (pv 4) (pv 3) (by first | exact nomark _ | rfl)) (by first | exact nomark _ | rfl)) (pw_or1 (pw_and (pt_cmpR op_notN (pv 5) pe_non (by first | exact nomark _ | rfl)) (pw_and1 (pt_cmpR (ne_dq ED Z (hr.mono (by decide))) (pv 5) (pe_f F_plan_at hr passNo (pa_cons (pv 0) (pa_cons (pv 4) pa_nil))) (by first | exact nomark _ | rfl)))).pt)).pt
  (pss_one (ps_ret pe_bl))
  pss_nil)))))))
  (pss_one (ps_ret pe_bl)))), ?_⟩
  have nok := names_ok t ok
  refine ⟨_, rfl, v, t, rfl, hv, lv, by omega, fun q G1 s1 hq => ?_⟩
  refine ⟨_, rfl, 6, rfl, q, _, rfl, hq, fun p2 G2 s2 hp2 => ⟨p2, rfl, ⟨_, hp2⟩, for_it walk_tup (fun i σ G => (∃ v2 v3 v4 v5, σ = [some v, some (.ref q), v2, v3, v4, v5]) ∧ Same G2 G) ⟨⟨_, _, _, _, rfl⟩, Same.refl _⟩ (fun i σ G _ h => h.2.sqT hp2) ?_ ?_⟩⟩
  · rintro i x σ G Gx hi ⟨⟨v2, v3, v4, v5, rfl⟩, sa⟩ ⟨rfl, ex⟩
    obtain ⟨y, hy, rfl⟩ := List.mem_map.mp (cut_mem (List.mem_of_getElem? ex))
    have ly := (nok y hy).2
    have s0 := (s1.trans s2).trans sa
    refine ⟨_, rfl, _, rfl, v, t, y, rfl, hv.same s0, lv, by omega, ly, fun n => absurd hy n, fun _ pt G3 s3 hpt => ?_⟩
    have A1 := at_p hy
    have s03 := s0.trans s3
    have hq3 := s3.sqT (sa.sqT (s2.sqT hq))
    refine ⟨_, rfl, q, rfl, ⟨_, hq3⟩, for_it walk_tup (fun i σ G => (∃ v4 v5, σ = [some v, some (.ref q), some (.str y), some pt, v4, v5]) ∧ Same G3 G) ⟨⟨_, _, rfl⟩, Same.refl _⟩ (fun i σ G _ h => h.2.sqT hq3) ?_ ?_⟩
    · rintro j x2 σ G4 Gy hj ⟨⟨v4, v5, rfl⟩, s4⟩ ⟨rfl, ex2⟩
      obtain ⟨z, hz, rfl⟩ := List.mem_map.mp (List.mem_of_getElem? ex2)
      have lz := (nok z hz).2
      have A2 := at_p hz
      have hp4 := hpt.same s4
      have e0 : isOne (atT y t).names (.str z) = true ↔ z ∈ (atT y t).names := by
        show (atT y t).names.contains z = true ↔ _
        exact List.contains_iff_mem
      refine ⟨_, rfl, _, rfl, pt, atT y t, z, rfl, hp4, by have := A1.lv; omega, by have := A1.nl; omega, lz, fun nz G5 s5 => ?_, fun mz b G5 s5 hb => ?_⟩
      · have cf : isOne (atT y t).names (.str z) = false := by
          cases q : isOne (atT y t).names (.str z) with
          | false => rfl
          | true => exact absurd (e0.mp q) nz
        refine ⟨_, rfl, rfl, _, rfl, _, rfl, in_at L (hp4.same s5) (by have := A1.lv; omega) (by have := A1.nl; omega) (nm_dd (nok z hz)) fun G6 s6 => ⟨rfl, _, rfl, if_no (by rw [cf]; decide) ⟨_, rfl, rfl, _, rfl, if_no rfl ⟨⟨_, _, rfl⟩, (s4.trans s5).trans s6⟩⟩⟩⟩
      · have ct := e0.mpr mz
        obtain ⟨ba, rfl⟩ := ptr_ref hb
        have eat : atT z (atT y t) = atT z t := at_at (WayP.of hy) nd rfl mz
        rw [eat] at hb
        refine ⟨_, rfl, rfl, _, rfl, _, rfl, in_at L (hp4.same s5) (by have := A1.lv; omega) (by have := A1.nl; omega) (nm_dd (nok z hz)) fun G6 s6 => ⟨rfl, _, rfl, if_no (by rw [ct]; rfl) ⟨_, rfl, rfl, _, rfl, if_yes rfl ⟨_, rfl, _, rfl, _, rfl, v, t, z, rfl, (hv.same s03).same ((s4.trans s5).trans s6), lv, by omega, lz, fun n => absurd hz n, fun _ b2 G7 s7 hb2 => ⟨dq_of ((hb.same s6).same s7) hb2 (A2.ok ok) (by have := A2.lv; omega), fun G8 s8 => ⟨_, rfl, if_no rfl ⟨⟨_, _, rfl⟩, (((s4.trans s5).trans s6).trans s7).trans s8⟩⟩⟩⟩⟩⟩⟩
    · rintro σ G4 ⟨⟨v4, v5, rfl⟩, s4⟩
      exact ⟨⟨_, _, _, _, rfl⟩, (sa.trans s3).trans s4⟩
  · rintro σ G ⟨⟨v2, v3, v4, v5, rfl⟩, sa⟩
    exact k G ((s1.trans s2).trans sa)
end
end K08
/-! _built -/
namespace K08
open PySem PySem.Spec PyProof.Rows L2
def nodesL (ts : List Tr) : List Tr := (preL 0 ts).map Prod.snd
mutual
theorem pre_snd : ∀ (d e : Nat) (t : Tr), (pre d t).map Prod.snd = (pre e t).map Prod.snd
  | d, e, .w .. => by rw [pre, pre]; rfl
  | d, e, .s n r st mo sp dl ts => by
    rw [pre, pre, List.map_cons, List.map_cons, preL_snd (d + 1) (e + 1) ts]
theorem preL_snd : ∀ (d e : Nat) (ts : List Tr), (preL d ts).map Prod.snd = (preL e ts).map Prod.snd
  | d, e, [] => by rw [preL, preL]
  | d, e, t :: ts => by
    rw [preL, preL, List.map_append, List.map_append, pre_snd d e t, preL_snd d e ts]
end
theorem nodesT_s {n r st : Str} {mo sp : Int} {dl : V} {ts : List Tr} : nodesT (.s n r st mo sp dl ts) = .s n r st mo sp dl ts :: nodesL ts := by
  unfold nodesT nodesL
  rw [pre, List.map_cons, preL_snd 1 0 ts]
theorem nodesT_0 (t : Tr) : (nodesT t)[0]? = some t := by
  cases t with
  | w => unfold nodesT; rw [pre]; rfl
  | s => rw [nodesT_s]; rfl
theorem nodesT_len (t : Tr) : (nodesT t).length = t.names.length := by unfold nodesT; rw [List.length_map, pre_len]
theorem nodesL_cons (t : Tr) (ts : List Tr) : nodesL (t :: ts) = nodesT t ++ nodesL ts := by
  unfold nodesL nodesT
  rw [preL, List.map_append]
theorem offs_len : ∀ (i : Nat) (ts : List Tr), (offs i ts).length = ts.length
  | _, [] => by rw [offs]; rfl
  | i, t :: ts => by rw [offs, List.length_cons, List.length_cons, offs_len _ ts]
theorem sub_get {low : Nat → List Nat} : ∀ {ts : List Tr} {i : Nat}, SubL low i ts → ∀ {m : Nat} {u : Tr}, ts[m]? = some u → ∃ o, (offs i ts)[m]? = some o ∧ Sub low o u ∧ i ≤ o ∧ o + u.names.length ≤ i + (Tr.namesL ts).length ∧ ∀ j x, (nodesT u)[j]? = some x → (nodesL ts)[(o - i) + j]? = some x
  | [], i, h, m, u, e => by simp at e
  | t :: ts, i, h, 0, u, e => by
    have e : t = u := by simpa using e
    subst e
    unfold SubL at h
    have l : (Tr.namesL (t :: ts)).length = t.names.length + (Tr.namesL ts).length := by
      show (t.names ++ Tr.namesL ts).length = _
      rw [List.length_append]
    refine ⟨i, by rw [offs]; rfl, h.1, Nat.le_refl _, by omega, fun j x q => ?_⟩
    rw [Nat.sub_self, Nat.zero_add, nodesL_cons, List.getElem?_append_left (List.getElem?_eq_some_iff.mp q).1]
    exact q
  | t :: ts, i, h, m + 1, u, e => by
    unfold SubL at h
    have l : (Tr.namesL (t :: ts)).length = t.names.length + (Tr.namesL ts).length := by
      show (t.names ++ Tr.namesL ts).length = _
      rw [List.length_append]
    obtain ⟨o, a, b, c, d, f⟩ := sub_get h.2 (m := m) (u := u) (by simpa using e)
    refine ⟨o, by rw [offs]; simpa using a, b, by omega, by omega, fun j x q => ?_⟩
    have z := f j x q
    rw [nodesL_cons, List.getElem?_append_right (by rw [nodesT_len]; omega), nodesT_len]
    rw [show o - i + j - t.names.length = o - (i + t.names.length) + j by omega]
    exact z
section
variable {P : Program} {w : World} {K : PySem.W.Frag} {mg : Str → Option Value} {base : Heap}
abbrev s_built : Stmt := (top 93)
def N_built : List Str := ["row", "below"]
theorem sc_built : FnScope N_built ["row"] (defScope s_built) := ⟨rfl, rfl, rfl, by decide +kernel, rfl, by decide +kernel, by decide +kernel⟩
theorem ok_built (F : Has K mg "_built" s_built) (T : Txt K mg) (R : Rk K mg) (F_with_children : FnQ P w K mg base (L2.CX P w) 28 "with_children" ["plan", "children"] (spWc K)) : ∀ n, FnQ P w K mg base CX0 (n + 28) "_built" ["row"] (spBuiltR K n) := by
  intro n
  induction n with
  | zero =>
    refine F.q sc_built (fun _ _ _ _ _ _ us hl => match us, hl with | [_], _ => rfl) (fun vs H Q E h => by obtain ⟨_, _, _, _, _, _, rfl, _⟩ := h; rfl) (fun cdv A outer s H vs Q E hr h => ?_)
    obtain ⟨S, k, i, rows, node, t, _, _, _, _, _, _, lv, _⟩ := h
    have := t.pn.lv_pos
    omega
  | succ n F_built =>
    refine F.q sc_built (fun _ _ _ _ _ _ us hl => match us, hl with | [_], _ => rfl) (fun vs H Q E h => by obtain ⟨_, _, _, _, _, _, rfl, _⟩ := h; rfl) (fun cdv A outer s H vs Q E hr h => ?_)
    obtain ⟨S, k, i, rows, node, t, rfl, Z, sub, hn, ik, ok, lv, n20, sz, kk⟩ := h
    have gI : mg "isinstance" = none := T.fr _ (by simp [frees])
    have pos : 0 < t.names.length := by cases t <;> exact Nat.succ_pos _
    have ni : node i = t := hn 0 t (nodesT_0 t)
    obtain ⟨dx, qv, er, hp⟩ := Z.rw i (by omega)
    rw [ni] at hp
    refine ⟨_, PSs.nox (pss_cons (ps_if (pt_val (pe_callB call_isi (by rfl) gI boot_isinstance (pa_cons (pe_fld (pv 0) rfl) (pa_cons (C8.pe_gc (by rfl) T.c_WorkerPlan) pa_nil))))
  (pss_one (ps_ret (pe_fld (pv 0) rfl)))
  pss_nil)
  (pss_one (ps_ret (pe_f F_with_children hr passNo (pa_cons (pe_fld (pv 0) rfl) (pa_cons (pe_lc (own := [("below", 1)]) (tt := tYes) rfl sc_built.nd (pi_list (pe_fld (pv 0) rfl)) (blkOk_by (N := N_built) (sc := defScope s_built) (by decide +kernel)) (fun _ _ _ _ _ => (pg_name (i := 1) sc_built.nd rfl (by first | exact .inl rfl | exact .inr rfl))) (fun _ _ _ _ _ => pts_nil) (fun _ _ _ _ _ => (pe_f F_built hr pass0 (pa_cons (pv 1) pa_nil) (hj := Nat.le_refl _)))) pa_nil)) (hj := by omega))))), ?_⟩
    refine ⟨_, rfl, (rows i).1, rwA K, dx, _, qv, rfl, er, R.cl, R.na _ (by simp), by kernel_rfl, _, _, _, _, _, rfl, .own _, hp.pt.ty T.pk, T.pk.kit _ 5 (kt_lt _) (by decide), _, rfl, ?_⟩
    have fldP : ∀ {G : Hp} {Kk : VK}, Same H G → Kk qv G → tFld K (tVar 0) "plan" (L2.start N_built [V.ref (rows i).1]) G Kk := fun s kk0 =>
      ⟨_, rfl, (rows i).1, rwA K, dx, _, qv, rfl, s _ _ er, R.cl, R.na _ (by simp), by kernel_rfl, kk0⟩
    cases t with
    | w n0 r0 o0 c0 dl0 rf0 sc0 sd0 => exact if_yes (by rfl) (fldP (Same.refl _) (kk _ _ (Same.refl _) hp))
    | s n0 r0 st0 mo0 sp0 dl0 ts =>
      obtain ⟨o1, o2, o3, o4, o5, o6, o7, o8⟩ := id ok
      unfold Sub at sub
      have li : S.low i = offs (i + 1) ts := sub.1
      have el : H (rows i).2 = some (.lst ((offs (i + 1) ts).map fun j => V.ref (rows j).1)) := by
        have z := Z.lo i (by omega)
        rw [li] at z; exact z
      have lo : ((offs (i + 1) ts).map fun j => V.ref (rows j).1).length = ts.length := by rw [List.length_map, offs_len]
      have lvs : 1 + Pn.lvs (Tr.pns ts) ≤ n + 1 := lv
      have szs : 1 + Pn.sizes (Tr.pns ts) ≤ 200 := sz
      have nl : (Tr.s n0 r0 st0 mo0 sp0 dl0 ts).names.length = (Tr.namesL ts).length + 1 := rfl
      refine if_no (by rfl) ⟨_, rfl, (rows i).1, rwA K, dx, _, qv, rfl, er, R.cl, R.na _ (by simp), by kernel_rfl, _, rfl, (rows i).1, rwA K, dx, _, .ref (rows i).2, rfl, er, R.cl, R.na _ (by simp), by kernel_rfl, (rows i).2, rfl, ⟨_, SqL.of el⟩, comp_any walk_list (P := fun m v G => ∃ u, ts[m]? = some u ∧ PTr K G v u) (small1000 (by rw [lo]; omega)) (fun G g => SqL.of (g _ _ el)) (fun i G x G' y b o e => by rw [y.1]; exact e) (fun i v G1 G2 g ⟨t, e, p⟩ => ⟨t, e, PTr.solid (Solid.of_same g) p⟩) (fun i v G1 D xs ys _ e ⟨t, e2, p⟩ => ⟨t, e2, PTr.solid (Solid.upd (.inl ⟨_, e⟩)) p⟩) (fun m x G1 G2 Rr hi g1 yy kr => ?_) fun cl G ws s2 _ e2 len2 val2 => ?_⟩
      · obtain ⟨rfl, ex⟩ := yy
        obtain ⟨u, eu⟩ : ∃ u, ts[m]? = some u := ⟨_, List.getElem?_eq_getElem (by rw [lo] at hi; exact hi)⟩
        obtain ⟨o, eo, su, o1, o2, nd⟩ := sub_get sub.2 eu
        have exx : x = .ref (rows o).1 := by
          rw [List.getElem?_map, eo] at ex
          exact (Option.some.inj ex).symm
        subst exx
        refine ⟨rfl, _, rfl, S, k, o, rows, node, u, rfl, Z.same g1, su, fun j y hj => ?_, by omega, oks_get o8 eu, ?_, by omega, ?_, fun u' H' s' p => kr u' H' s' ⟨u, eu, p⟩⟩
        · have z := hn (o - (i + 1) + j + 1) y (by rw [nodesT_s, List.getElem?_cons_succ]; exact nd j y hj)
          rw [← z]
          congr 1
          omega
        · have := lvs_get eu; omega
        · have := sizes_get eu; omega
      · have hp2 : PTrs K G ws ts := ptrs_of (by rw [len2, lo]) fun i v e => val2 i v e
        exact ⟨qv, cl, n0, r0, st0, mo0, sp0, dl0, [], ws, ts, rfl, hp.same s2, e2, hp2, ok, szs, by omega, fun u H' s' p => kk u H' (s2.trans s') p⟩
end
end K08
/-! the law -/
namespace K08
open PySem PySem.Spec PyProof.Rows L2 TL
/-- == of plans of other names -/
structure EqN (P : Program) (w : World) (K : PySem.W.Frag) (mg : Str → Option Value) (base : Heap) : Prop where
  at' : Eqs K
  fw : ∃ fd, FnOk P w K mg base CX0 43 (He.ma K (wkA K) "__eq__") fd ["self", "other"] (StD.spEqN (NwR K)) ∧ Binds K fd ["self", "other"] []
  fs : ∃ fd, FnOk P w K mg base CX0 43 (He.ma K (suA K) "__eq__") fd ["self", "other"] (StD.spEqN (NsR K)) ∧ Binds K fd ["self", "other"] []
theorem eqn_op {X : Cx} (E : EqN X.prog X.w X.K X.mg X.base) (hr : Room 43 X.A) : OpR X (compareOp .Eq) (StD.rEqN (Dn X.K)) := by
  obtain ⟨fw, Fw, bw⟩ := E.fw
  obtain ⟨fs, Fs, bs⟩ := E.fs
  exact eq_dn E.at' Fw bw Fs bs hr
theorem Paired.imp' {α β : Type} {F F' : α → β → Prop} (h : ∀ a b, F a b → F' a b) : ∀ {xs : List α} {ys : List β}, Paired F xs ys → Paired F' xs ys
  | _, _, .nil => .nil
  | _, _, .cons g t => .cons (h _ _ g) (Paired.imp' h t)
theorem Same6.solidD {H G : Hp} {l : Addr} {kvs : List (Key × V)} (s : Same6 H G l) (e : H l = some (.dK kvs)) : Solid H G := fun b o h n1 n2 => s b o h (by
  rintro rfl
  rw [e] at h; cases h; exact n2 _ rfl)
theorem Src.six {K : PySem.W.Frag} {H G : Hp} {a c l : Addr} {ns : List Int} {m : Int} {kvs : List (Key × V)} (S : Src K H a c ns m) (s : Same6 H G l) (e : H l = some (.dK kvs)) (ne : l ≠ a) : Src K G a c ns m := by
  obtain ⟨⟨n, r, hd, n0, n1, r0⟩, hc, few⟩ := S
  refine ⟨⟨n, r, s _ _ hd (Ne.symm ne), n0, n1, r0⟩, ?_, few⟩
  rcases hc with ⟨o, z⟩ | z
  · exact .inl ⟨o, s _ _ z (by rintro rfl; rw [e] at z; cases z)⟩
  · exact .inr z
section
variable {P : Program} {w : World} {K : PySem.W.Frag} {mg : Str → Option Value} {base : Heap}
abbrev s_law : Stmt := (top 111)
def N_law : List Str := ["cells", "m", "turn", "free", "is_mixed", "d", "plan", "some", "fresh", "others", "turned", "k", "label", "sign", "other", "again"]
theorem sc_law : FnScope N_law ["cells"] (defScope s_law) := ⟨rfl, rfl, rfl, by decide +kernel, rfl, by decide +kernel, by decide +kernel⟩
def spLaw (K : PySem.W.Frag) : Sp := fun vs H Q _ => ∃ (c : Addr) (ns : List Int), vs = [.ref c] ∧ ScrL K H c (ns.map V.int) ∧ ns.length ≤ 63 ∧ ∀ H', Q (.bl true) H'
theorem ok_law (F : Has K mg "law" s_law) (T : Txt K mg) (Z : EqF P w K mg base 20) (ED : EqD K) (EN : EqN P w K mg base) (LE : Lens K) (LW : FnR P w K mg base CX0 22 (He.ma K (wkA K) "__len__") (spLen K)) (LS : FnR P w K mg base CX0 22 (He.ma K (suA K) "__len__") (spLen K))
    (F_law_begun : FnQ P w K mg base CX0 1 "_law_begun" ["cells"] (spBegun K)) (F_law_next : FnQ P w K mg base CX0 1 "_law_next" ["m", "total"] (spNext K)) (F_law_of : FnQ P w K mg base CX0 2 "_law_of" ["m", "items"] (spOf K))
    (F_law_words : FnQ P w K mg base CX0 2 "_law_words" ["m", "many"] (spWords K)) (F_law_worker : FnQ P w K mg base CX0 3 "_law_worker" ["m", "label"] (spWorkerL K)) (F_law_tree : FnQ P w K mg base CX0 10 "_law_tree" ["m", "free", "level"] (spTree K 6))
    (F_law_build : FnQ P w K mg base CX0 50 "_law_build" ["d"] (spBuild K 20)) (F_law_counts_right : FnQ P w K mg base CX0 45 "_law_counts_right" ["plan"] (spCnt K)) (F_law_parts_right : FnQ P w K mg base CX0 45 "_law_parts_right" ["plan"] (spPrt K)) (F_names : FnQ P w K mg base CX0 9 "names" ["plan"] (spNames K 7))
    (F_law_renamed : FnQ P w K mg base CX0 8 "_law_renamed" ["d", "others"] (spRen K 7)) (F_law_renaming_right : FnQ P w K mg base CX0 45 "_law_renaming_right" ["m", "plan", "other", "others", "kind_now"] (spRr K)) (F_plan_text : FnQ P w K mg base CX0 23 "plan_text" ["plan"] (spText K)) (F_read_plan : FnQ P w K mg base (L2.CX P w) 49 "read_plan" ["text"] (spRead K)) :
    FnP P w K mg base CX0 51 "law" ["cells"] (spLaw K) := by
  refine F.g sc_law (fun _ _ _ _ _ _ us hl => match us, hl with | [_], _ => rfl) (fun vs H Q E h => by obtain ⟨_, _, rfl, _⟩ := h; rfl) (fun cdv A outer s H vs Q E gA hr h => ?_)
  obtain ⟨c, ns, rfl, hc, few, k⟩ := h
  have gL : mg "len" = none := T.fr _ (by simp [frees])
  refine ⟨_, PSs.nox (pss_cons (ps_set (i := 1) sc_law.nd rfl (by first | exact .inl rfl | exact .inr rfl) (pe_f F_law_begun hr pass0 (pa_cons (pv 0) pa_nil)))
  (pss_cons (ps_for PassesOwn.never rfl (pi_range1 (by rfl) (T.fr "range" (by simp [frees])) (pa_cons (pe_op op_add pe_int (pe_callB (call_min2 rfl) (by rfl) (T.fr "min" (by simp [frees])) boot_min (pa_cons pe_int (pa_cons (pe_callB call_len_seq (by rfl) gL boot_len (pa_cons (pv 0) pa_nil)) pa_nil)))) pa_nil)) (pg_name (i := 2) sc_law.nd rfl (by first | exact .inl rfl | exact .inr rfl))
  (pss_cons (ps_set (i := 3) sc_law.nd rfl (by first | exact .inl rfl | exact .inr rfl) (pe_f F_law_words hr pass0 (pa_cons (pv 1) (pa_cons (pe_op op_add pe_int (pe_f F_law_next hr pass0 (pa_cons (pv 1) (pa_cons pe_int pa_nil)))) pa_nil))))
  (pss_cons (ps_set (i := 4) sc_law.nd rfl (by first | exact .inl rfl | exact .inr rfl) (pe_cmpR op_eq (pe_f F_law_next hr pass0 (pa_cons (pv 1) (pa_cons pe_int pa_nil))) pe_int (by first | exact nomark _ | rfl)))
  (C8.pss_cut (ps_if (pt_val (pv 4))
  (pss_one (ps_set (i := 3) sc_law.nd rfl (.inr rfl) (pe_lc (own := [("k", 11)]) (tt := tYes) rfl sc_law.nd (pi_range1 (by rfl) (T.fr "range" (by simp [frees])) (pa_cons (pe_callB call_len_seq (by rfl) gL boot_len (pa_cons (pv 3) pa_nil)) pa_nil)) (blkOk_by (N := N_law) (sc := defScope s_law) (by decide +kernel)) (fun _ _ _ _ _ => (pg_name (i := 11) sc_law.nd rfl (by first | exact .inl rfl | exact .inr rfl))) (fun _ _ _ _ _ => pts_nil) (fun _ _ _ _ _ => (pe_f F_law_of hr pass0 (pa_cons (pv 1) (pa_cons (pe_slice (sl_listK K) (pv 3) po_none (po_some pe_int)) pa_nil)))))))
  pss_nil)
  (C8.pss_cut (ps_set (i := 5) sc_law.nd rfl (by first | exact .inl rfl | exact .inr rfl) (pe_ifExp (pt_cmpR op_eq (pe_f F_law_next hr pass0 (pa_cons (pv 1) (pa_cons pe_int pa_nil))) pe_int (by first | exact nomark _ | rfl)) (pe_f F_law_worker hr pass0 (pa_cons (pv 1) (pa_cons (pe_ix ix_list (pv 3) pe_int (fun _ _ => rfl)) pa_nil))) (pe_f F_law_tree hr pass0 (pa_cons (pv 1) (pa_cons (pv 3) (pa_cons pe_int pa_nil))))))
  (pss_cons (ps_set (i := 6) sc_law.nd rfl (by first | exact .inl rfl | exact .inr rfl) (pe_f F_law_build hr pass0 (pa_cons (pv 5) pa_nil)))
  (C8.pss_cut (ps_if (pw_or (pt_not (pt_val (pe_f F_law_counts_right hr pass0 (pa_cons (pv 6) pa_nil)))) (pw_or1 (pw_and (pt_not (pt_val (pv 4))) (pw_and1 (pt_not (pt_val (pe_f F_law_parts_right hr pass0 (pa_cons (pv 6) pa_nil)))))).pt)).pt
  (pss_one (ps_ret pe_bl))
  pss_nil)
  (pss_cons (ps_swap (is := [7, 8]) rfl sc_law.nd (pe_tupM (pa_cons (pe_callB cr_sortedS (by rfl) (T.fr "sorted" (by simp [frees])) boot_sorted (pa_cons (pe_callTy (call_listD rfl) (by rfl) (T.fr "list" (by simp [frees])) PyProof.Rows.boot_list (pa_cons (pe_callTy (call_dictP rfl) (by rfl) (T.fr "dict" (by simp [frees])) PyProof.Rows.boot_dict (pa_cons (pe_lc (own := [("label", 12)]) (tt := tYes) rfl sc_law.nd (pi_tup (pe_f F_names hr pass0 (pa_cons (pv 6) pa_nil))) (blkOk_by (N := N_law) (sc := defScope s_law) (by decide +kernel)) (fun _ _ _ _ _ => (pg_name (i := 12) sc_law.nd rfl (by first | exact .inl rfl | exact .inr rfl))) (fun _ _ _ _ _ => pts_nil) (fun _ _ _ _ _ => (pe_tupM (pa_cons (pv 12) (pa_cons pe_bl pa_nil))))) pa_nil)) pa_nil)) pa_nil)) (pa_cons pe_str pa_nil))) (.cons rfl (.inl rfl) (.inr rfl) (.cons rfl (.inl rfl) (.inr rfl) .nil)))
  (pss_cons (ps_swap (is := [9, 10]) rfl sc_law.nd (pe_tupM (pa_cons pe_dnewK (pa_cons (pe_f F_law_next hr pass0 (pa_cons (pv 1) (pa_cons pe_int pa_nil))) pa_nil))) (.cons rfl (.inl rfl) (.inr rfl) (.cons rfl (.inl rfl) (.inr rfl) .nil)))
  (C8.pss_cut (ps_for PassesOwn.never rfl (pi_enum (by rfl) (T.fr "enumerate" (by simp [frees])) (pa_cons (pv 7) pa_nil)) (pg_tup rfl (pgs_cons (pg_name (i := 11) sc_law.nd rfl (by first | exact .inl rfl | exact .inr rfl)) (pgs_cons (pg_name (i := 12) sc_law.nd rfl (by first | exact .inl rfl | exact .inr rfl)) pgs_nil)))
  (pss_cons (ps_set (i := 13) sc_law.nd rfl (by first | exact .inl rfl | exact .inr rfl) (pe_ix ix_str (pv 8) (pe_op op_mod (pe_callTy call_int1 (by rfl) (T.fr "int" (by simp [frees])) PyProof.Rows.boot_int (pa_cons (pe_op op_add (pv 11) (pv 10)) pa_nil)) pe_int) (fun _ _ => rfl)))
  (pss_one (ps_dput (hu_of hr) (pv 9) (pv 12) (pe_op op_add_str (pe_op op_add_str (pv 13) pe_str) (pe_callTy call_strV (by rfl) (T.fr "str" (by simp [frees])) PyProof.Rows.boot_str (pa_cons (pe_op op_mod (pe_callTy call_int1 (by rfl) (T.fr "int" (by simp [frees])) PyProof.Rows.boot_int (pa_cons (pe_op op_add (pe_op op_mul (pv 11) pe_int) (pv 10)) pa_nil)) pe_int) pa_nil))) rfl))))
  (pss_cons (ps_set (i := 14) sc_law.nd rfl (by first | exact .inl rfl | exact .inr rfl) (pe_f F_law_build hr pass0 (pa_cons (pe_f F_law_renamed hr pass0 (pa_cons (pv 5) (pa_cons (pv 9) pa_nil))) pa_nil)))
  (pss_cons (ps_if (pt_not (pt_val (pe_f F_law_renaming_right hr pass0 (pa_cons (pv 1) (pa_cons (pv 6) (pa_cons (pv 14) (pa_cons (pv 9) (pa_cons (pe_f F_law_of hr pass0 (pa_cons (pv 1) (pa_cons (pe_lstM (pa_cons pe_str (pa_cons pe_str (pa_cons pe_str pa_nil)))) pa_nil))) pa_nil))))))))
  (pss_one (ps_ret pe_bl))
  pss_nil)
  (pss_cons (ps_set (i := 15) sc_law.nd rfl (by first | exact .inl rfl | exact .inr rfl) (pe_f F_read_plan hr passNo (pa_cons (pe_f F_plan_text hr pass0 (pa_cons (pv 6) pa_nil)) pa_nil)))
  (pss_one (ps_if (pw_or (pt_cmpR op_ne (pe_cmpR (eqn_op EN (hr.mono (by decide))) (pv 6) (pv 14) (by first | exact nomark _ | rfl)) (pe_cmpR op_eq (pe_f F_plan_text hr pass0 (pa_cons (pv 6) pa_nil)) (pe_f F_plan_text hr pass0 (pa_cons (pv 14) pa_nil)) (by first | exact nomark _ | rfl)) (by first | exact nomark _ | rfl)) (pw_or (pt_cmpR (ne_dq ED Z (hr.mono (by decide))) (pv 6) (pv 15) (by first | exact nomark _ | rfl)) (pw_or1 (pt_cmpR op_ne (pe_callB (call_lenOwn (CX := CX0) (n := 22) (E := fun _ _ _ => False) (hr.mono (by decide)) pass0) (by rfl) gL boot_len (pa_cons (pv 15) pa_nil)) (pe_callB (call_lenOwn (CX := CX0) (n := 22) (E := fun _ _ _ => False) (hr.mono (by decide)) pass0) (by rfl) gL boot_len (pa_cons (pv 6) pa_nil)) (by first | exact nomark _ | rfl))))).pt
  (pss_one (ps_ret pe_bl))
  pss_nil)))))))))))))))
  (pss_one (ps_ret pe_bl)))), ?_⟩
  have sz : ∀ {n : Nat}, n ≤ 1000 → n ≤ sizeLine := fun h => Nat.le_trans h (by decide)
  refine ⟨_, rfl, c, ns, rfl, hc, few, fun a H1 s1 S1 na => ?_⟩
  have c1 : SqL K H1 c (ns.map V.int) := S1.cs.seq
  have nn : (3 + (if ((ns.map V.int).length : Int) < 4 then ((ns.map V.int).length : Int) else 4)) = ((3 + min 4 ns.length : Nat) : Int) := by
    rw [List.length_map]
    split <;> omega
  refine ⟨_, rfl, c, _, rfl, .inl c1, _, _, rfl, _, _, rfl, rfl, ((3 + min 4 ns.length : Nat) : Int), congrArg (fun z => [V.int z]) nn, by omega, by omega, for_range (n := 3 + min 4 ns.length) (fun i σ G => (∃ v2 v3 v4 v5 v6 v7 v8 v9 v10 v11 v12 v13 v14 v15, σ = [some (.ref c), some (.ref a), v2, v3, v4, v5, v6, v7, v8, v9, v10, v11, v12, v13, v14, v15]) ∧ Src K G a c ns (600 * i)) ⟨⟨none, none, none, none, none, none, none, none, none, none, none, none, none, none, rfl⟩, S1.more (by omega)⟩ ?_ ?_⟩
  · rintro i σ G0 hi ⟨⟨v2, v3, v4, v5, v6, v7, v8, v9, v10, v11, v12, v13, v14, v15, rfl⟩, S0⟩
    have i7 : i < 7 := by omega
    -- the names
    refine ⟨_, rfl, _, rfl, a, c, ns, _, 18, rfl, S0, by omega, by decide, by decide, fun j Ga lj Sa ba => ?_⟩
    refine ⟨_, _, rfl, rfl, a, c, ns, _, 1 + j, congrArg (fun z => [V.ref a, V.int z]) (show (1 : Int) + (j : Int) = ((1 + j : Nat) : Int) by omega), Sa, by omega, (by show 1 + j ≤ 40; omega), fun way fl Gb hway ef nf Sb bb => ?_⟩
    have lws : (wordsOf way (1 + j)).length = 1 + j := by unfold wordsOf; simp
    have wk : ∀ {k : Nat} {x : Str}, (wordsOf way (1 + j))[k]? = some x → x = wordOf way k := fun {k x} e => by
      unfold wordsOf at e
      rw [List.getElem?_map] at e
      obtain ⟨k2, e1, e2⟩ := Option.map_eq_some_iff.mp e
      have lk := (List.getElem?_eq_some_iff.mp e1).1
      rw [List.getElem?_range (by simpa using lk)] at e1
      cases e1
      exact e2.symm
    have nws : ∀ x ∈ wordsOf way (1 + j), NmOk x := fun x hx => by
      unfold wordsOf at hx
      obtain ⟨k, hk, rfl⟩ := List.mem_map.mp hx
      have z := word_ok way hway k (Nat.lt_of_lt_of_le (List.mem_range.mp hk) (by show 1 + j ≤ 40; omega))
      exact ⟨z.1, z.2.1⟩
    have ndw : (wordsOf way (1 + j)).Nodup := words_nodup hway (by show 1 + j ≤ 40; omega)
    have low : ∀ k x, k < 3 → (wordsOf way (1 + j))[k]? = some x → (tl x).headD 0 < 112 := fun k x hk e => by rw [wk e]; exact word_low way hway k hk
    generalize wordsOf way (1 + j) = fs at ef lws nws ndw low
    clear bb nf wk
    refine ⟨_, rfl, a, c, ns, _, 3, rfl, Sb, by omega, by decide, by decide, fun wy Gc lwy Sc bc => ⟨rfl, ?_⟩⟩
    have efc := bc _ _ ef (Sb.is.ne ef fun _ _ _ z => nomatch z)
    obtain ⟨mx, emx⟩ : ∃ mx : Bool, decide (V.int (wy : Nat) = V.int 0) = mx := ⟨_, rfl⟩
    rw [emx]
    refine ⟨fun σ G => ∃ (fl : Addr) (fs : List Str), σ = [some (.ref c), some (.ref a), some (.int (0 + (i : Int))), some (.ref fl), some (.bl mx), v5, v6, v7, v8, v9, v10, v11, v12, v13, v14, v15] ∧ G fl = some (.lst (fs.map V.str)) ∧ 1 ≤ fs.length ∧ fs.length ≤ 18 ∧ (∀ x ∈ fs, NmOk x) ∧ (mx = false → fs.Nodup) ∧ (∀ x, fs[0]? = some x → (tl x).headD 0 < 112) ∧ Src K G a c ns (600 * i + 30), ?_, ?_⟩
    · refine ⟨_, rfl, _, rfl, ?_⟩
      cases mx with
      | true =>
        refine if_yes rfl ⟨_, rfl, fl, _, rfl, .inl (SqL.of efc), ?_⟩
        have lm : (fs.map V.str).length = fs.length := List.length_map ..
        refine ⟨((fs.map V.str).length : Nat), rfl, by rw [lm]; omega, by rw [lm]; omega, fun D nD => ?_⟩
        refine lc_it walk_range (n := (fs.map V.str).length) (fun j H' => ∃ ws : List Str, H' D = some (.lst (ws.map V.str)) ∧ ws.length = j ∧ (∀ y ∈ ws, y ∈ fs ∧ (tl y).headD 0 < 112) ∧ Src K H' a c ns (600 * i + 3 + j) ∧ H' fl = some (.lst (fs.map V.str)))
          ⟨[], upd_same, rfl, (fun y hy => by cases hy), (Sc.same (Same.new nD)).more (by omega), Same.new nD _ _ efc⟩ (fun _ _ _ _ => trivial) ?_ ?_
        · rintro j v H6 H7 lj ⟨ws, eD, lw, hw6, S6, ef6⟩ ⟨rfl, rfl⟩
          rw [lm] at lj
          refine ⟨rfl, _, rfl, _, rfl, 3, rfl, fl, _, rfl, SqL.of ef6, fun p np => ?_⟩
          have ct : cutV (fs.map V.str) none (some (3 : Int)) = (fs.map V.str).take (min 3 fs.length) := by
            unfold cutV
            rw [HT.sIx_none, show ((3 : Int)) = ((3 : Nat) : Int) from rfl, HT.sIx_nat, List.drop_zero, Nat.sub_zero, lm]
          rw [ct]
          have np6 := (S6.same (Same.new (o := HO.lst ((fs.map V.str).take (min 3 fs.length))) np))
          refine pick_of np6 (by omega) upd_same (by rw [List.length_take, lm]; omega) (by rw [List.length_take, lm]; omega) fun v hv H8 b8 S8 => ?_
          obtain ⟨k, hk, ek⟩ := List.getElem_of_mem hv
          rw [List.length_take, lm] at hk
          have ek2 : (fs.map V.str)[k]? = some v := by
            rw [List.getElem_take] at ek
            rw [← ek]; exact List.getElem?_eq_getElem _
          rw [List.getElem?_map] at ek2
          obtain ⟨y, ey, rfl⟩ := Option.map_eq_some_iff.mp ek2
          have eD7 : (upd H7 p (.lst ((fs.map V.str).take (min 3 fs.length)))) D = some (.lst (ws.map V.str)) := Same.new np _ _ eD
          have ef7 : (upd H7 p (.lst ((fs.map V.str).take (min 3 fs.length)))) fl = some (.lst (fs.map V.str)) := Same.new np _ _ ef6
          have eD8 := b8 _ _ eD7 (np6.is.ne eD7 fun _ _ _ z => nomatch z)
          have ef8 := b8 _ _ ef7 (np6.is.ne ef7 fun _ _ _ z => nomatch z)
          have no : fl ≠ D := fun z => by rw [z] at efc; rw [efc] at nD; cases nD
          refine ⟨_, eD8, Nat.lt_of_le_of_lt (show (ws.map V.str).length ≤ 40 by rw [List.length_map]; omega) (by decide), ws ++ [y], by rw [upd_same, List.map_append]; rfl, by simp [lw], fun z hz => ?_, (S8.updL eD8).more (by omega), by rw [upd_ne no]; exact ef8⟩
          rcases List.mem_append.mp hz with h | h
          · exact hw6 z h
          · rw [List.mem_singleton.mp h]; exact ⟨List.mem_of_getElem? ey, low k y (by omega) ey⟩
        · rintro G6 ⟨ws, ew, lw, hw6, S6, ef6⟩
          rw [lm] at lw S6
          exact ⟨D, ws, rfl, ew, by omega, by omega, fun x hx => nws x (hw6 x hx).1, (fun z => nomatch z), fun x ex => (hw6 x (List.mem_of_getElem? ex)).2, S6.more (by omega)⟩
      | false => exact if_no rfl ⟨fl, fs, rfl, efc, by omega, by omega, nws, fun _ => ndw, fun x ex => low 0 x (by decide) ex, Sc.more (by omega)⟩
    clear S0 Sa ba ef lws nws Sb Sc bc efc ndw low emx
    rintro σ G ⟨fl, fs, rfl, ef, l1, l18, nfs, ndf, low, S1⟩
    obtain ⟨x0, fr, rfl⟩ : ∃ x r, fs = x :: r := by
      cases fs with
      | nil => exact absurd l1 (by simp)
      | cons x r => exact ⟨x, r, rfl⟩
    have nx0 := nfs x0 List.mem_cons_self
    have lowx := low x0 rfl
    have at0 : atI ((x0 :: fr).map V.str) 0 = some (.str x0) := atI_nat (j := 0) rfl
    -- the data
    refine ⟨fun σ G => ∃ (dv : V) (t : Tr), σ = [some (.ref c), some (.ref a), some (.int (0 + (i : Int))), some (.ref fl), some (.bl mx), some dv, v6, v7, v8, v9, v10, v11, v12, v13, v14, v15] ∧ DTr K G dv t ∧ t.ok ∧ t.names.length ≤ 18 ∧ t.pn.lv ≤ 7 ∧ (mx = false → t.names.Nodup) ∧ (tl t.name).headD 0 < 112 ∧ Src K G a c ns (600 * i + 400), ?_, ?_⟩
    · refine ⟨_, rfl, a, c, ns, _, 8, rfl, S1, by omega, by decide, by decide, fun wy Gc lwy Sc bc => ⟨rfl, _, rfl, ?_⟩⟩
      have efc := bc _ _ ef (S1.is.ne ef fun _ _ _ z => nomatch z)
      by_cases w0 : wy = 0
      · refine if_yes (decide_eq_true (by rw [w0]; rfl)) ⟨_, rfl, _, rfl, fl, _, _, _, rfl, rfl, SqL.of efc, at0, a, c, ns, _, x0, rfl, Sc, by omega, nx0, fun v t G2 hv ok nm pn S' b' => ?_⟩
        have en : t.name = x0 := by
          obtain ⟨r, e⟩ := Tr.names_eq t
          rw [nm] at e
          exact (List.cons.inj e).1.symm
        exact ⟨v, t, rfl, hv, ok, by rw [nm]; show 1 ≤ 18; decide, by rw [pn]; show 1 ≤ 7; decide, (fun _ => by rw [nm]; simp), by rw [en]; exact lowx, S'.more (by omega)⟩
      · refine if_no (decide_eq_false (by intro z; injection z with z; omega)) ⟨_, rfl, _, rfl, by decide, a, c, fl, ns, _, x0 :: fr, 1, rfl, Sc, by omega, efc, (by simp), by omega, nfs, rfl, fun v t us G2 hv ok nm lv ef' S' b2 => ?_⟩
        have lt : t.names.length ≤ 18 := by
          have := congrArg List.length nm
          rw [List.length_append] at this
          omega
        have en : t.name = x0 := by
          obtain ⟨r, e⟩ := Tr.names_eq t
          rw [e] at nm
          exact (List.cons.inj nm).1
        have ndt : mx = false → t.names.Nodup := fun h => by
          have z := ndf h
          rw [← nm] at z
          exact (List.nodup_append.mp z).1
        exact ⟨v, t, rfl, hv, ok, lt, lv, ndt, by rw [en]; exact lowx, S'.more (by omega)⟩
    clear ef l1 l18 nfs ndf low S1 nx0 at0
    rintro σ G ⟨dv, t, rfl, hd, ok, ln, lv, ndt, lowt, S1⟩
    have szn := Tr.size_names t
    have nok := names_ok t ok
    -- the plan
    refine ⟨_, rfl, dv, t, rfl, hd, ok, by omega, by decide, by omega, fun p G2 s2 hp => ?_⟩
    refine ⟨fun σ G3 => σ = [some (.ref c), some (.ref a), some (.int (0 + (i : Int))), some (.ref fl), some (.bl mx), some dv, some p, v7, v8, v9, v10, v11, v12, v13, v14, v15] ∧ Same G2 G3, ?_, ?_⟩
    · refine ⟨_, rfl, p, t, rfl, hp, ok, lv, by omega, fun G3 s3 => ⟨_, rfl, if_no rfl ⟨_, rfl, _, rfl, ?_⟩⟩⟩
      cases mx with
      | true => exact if_no rfl ⟨rfl, s3⟩
      | false => exact if_yes rfl ⟨_, rfl, p, t, rfl, hp.same s3, ok, lv, by omega, ndt rfl, fun G4 s4 => ⟨_, rfl, if_no rfl ⟨rfl, s3.trans s4⟩⟩⟩
    rintro σ G3 ⟨rfl, s3⟩
    have s23 := s2.trans s3
    replace hp := hp.same s3
    replace hd := DTr.sameR s23 hd
    have S3 := (S1.same s2).same s3
    clear S1 s2 s3 s23
    -- the names, once and in order
    refine ⟨_, rfl, p, t, rfl, hp, lv, by omega, fun q G4 s4 hq => ⟨q, rfl, ⟨_, hq⟩, fun D nD => ?_⟩⟩
    refine lc_it walk_tup (fun j H' => ∃ ps : List Addr, H' D = some (.lst (ps.map V.ref)) ∧ ps.length = j ∧ Paired (fun b kv => SqT K H' b [kV kv.1, kv.2]) ps ((t.names.take j).map fun x => ((Sum.inr x : Key), V.bl true)) ∧ Same G4 H') ⟨[], upd_same, rfl, .nil, Same.new nD⟩ (fun j G _ h => by obtain ⟨_, _, _, _, s⟩ := h; exact s.sqT hq) ?_ ?_
    · rintro j x H5 H6 lj ⟨ps, eD, lp, pr, s5⟩ ⟨rfl, ex⟩
      obtain ⟨y, ey, rfl⟩ : ∃ y, t.names[j]? = some y ∧ V.str y = x := by
        rw [List.getElem?_map] at ex
        exact Option.map_eq_some_iff.mp ex
      rw [List.length_map] at lj
      refine ⟨rfl, _, rfl, sz (by show 2 ≤ 1000; decide), fun tq H7 s7 n7 e7 => ⟨_, s7 _ _ eD, small1000 (by rw [List.length_map]; omega), ps ++ [tq], by rw [upd_same, List.map_append]; rfl, by simp [lp], ?_, same_putN (s5.trans s7) nD⟩⟩
      have so : Solid H7 (upd H7 D (.lst (ps.map V.ref ++ [V.ref tq]))) := Solid.upd (.inl ⟨_, s7 _ _ eD⟩)
      rw [List.take_add_one, ey, List.map_append]
      exact (Paired.imp' (fun b kv h => so.sqT (s7.sqT h)) pr).snoc (so.sqT (SqT.of e7))
    rintro G5 ⟨ps, eD, lp, pr, s5⟩
    rw [List.length_map, List.take_length] at pr
    obtain ⟨ks, k1, k2, k3, k4⟩ := merge_keys t.names (.bl true) [] [] List.nodup_nil rfl
    have km : (mergeK [] (t.names.map fun x => ((Sum.inr x : Key), V.bl true))).map (fun kv => kV kv.1) = ks.map V.str := by
      have z := congrArg (List.map kV) k1
      rw [List.map_map, List.map_map] at z
      exact z
    have kn : ∀ x, x ∈ ks ↔ x ∈ t.names := fun x => by rw [k3 x]; simp
    have kl : ks.length ≤ 18 := by simp at k4; omega
    refine ⟨D, ps, _, rfl, SqL.of eD, pr, fun p6 np6 => ⟨p6, _, rfl, L2.Rd.of upd_same, fun p7 np7 => ?_⟩⟩
    have e7 : (upd (upd G5 p6 (.dK (mergeK [] (t.names.map fun x => ((Sum.inr x : Key), V.bl true))))) p7 (.lst ((mergeK [] (t.names.map fun x => ((Sum.inr x : Key), V.bl true))).map fun kv => kV kv.1))) p7 = some (.lst (ks.map V.str)) := upd_same.trans (congrArg (fun z => some (HO.lst z)) km)
    have s57 : Same G5 (upd (upd G5 p6 (.dK (mergeK [] (t.names.map fun x => ((Sum.inr x : Key), V.bl true))))) p7 (.lst ((mergeK [] (t.names.map fun x => ((Sum.inr x : Key), V.bl true))).map fun kv => kV kv.1))) := (Same.new np6).trans (Same.new np7)
    generalize upd (upd G5 p6 (.dK (mergeK [] (t.names.map fun x => ((Sum.inr x : Key), V.bl true))))) p7 (.lst ((mergeK [] (t.names.map fun x => ((Sum.inr x : Key), V.bl true))).map fun kv => kV kv.1)) = G7 at e7 s57 ⊢
    refine ⟨p7, ks, rfl, SqL.of e7, by omega, fun ys p8 perm srt np8 => ?_⟩
    have s8 : Same G7 (upd G7 p8 (.lst (ys.map V.str))) := Same.new np8
    have e8 : (upd G7 p8 (.lst (ys.map V.str))) p8 = some (.lst (ys.map V.str)) := upd_same
    generalize upd G7 p8 (.lst (ys.map V.str)) = G8 at s8 e8 ⊢
    have ny : ys.Nodup := perm.nodup_iff.mpr k2
    have yn : ∀ x, x ∈ ys ↔ x ∈ t.names := fun x => by rw [perm.mem_iff, kn x]
    have yl : ys.length ≤ 18 := by rw [perm.length_eq]; exact kl
    refine ⟨sz (by show 2 ≤ 1000; decide), fun tq G9 s9 n9 e9 => ⟨tq, _, rfl, SqT.of e9, rfl, ?_⟩⟩
    have s39 := (((s4.trans s5).trans s57).trans s8).trans s9
    replace hp := hp.same s39
    replace hd := DTr.sameR s39 hd
    have S9 := S3.same s39
    have ep := s9 _ _ e8
    clear e7 s57 e8 s8 s9 e9 s39 S3 km k1 k3 k4 kn kl perm srt np6 np7 np8 pr eD s4 s5 hq k2
    -- the table
    refine fun oa noa => ?_
    have s10 : Same G9 (upd G9 oa (.dK [])) := Same.new noa
    have eo : (upd G9 oa (.dK [])) oa = some (.dK []) := upd_same
    have noa2 : oa ≠ a := by
      rintro rfl
      obtain ⟨⟨_, _, hd0, _⟩, _, _⟩ := S9
      rw [hd0] at noa; cases noa
    generalize upd G9 oa (.dK []) = G10 at s10 eo ⊢
    refine ⟨_, rfl, a, c, ns, _, 40, rfl, S9.same s10, by omega, by decide, by decide, fun z G11 lz S11 b11 => ?_⟩
    have zz : z < 40 := by omega
    refine ⟨sz (by show 2 ≤ 1000; decide), fun tq2 G12 s12 n12 e12 => ⟨tq2, _, rfl, SqT.of e12, rfl, ?_⟩⟩
    have so : Solid G9 G12 := ((Solid.of_same s10).trans (But.solid b11 (S9.same s10).is)).trans (Solid.of_same s12)
    replace hp := PTr.solid so hp
    replace hd := DTr.solid so hd
    have S12 := S11.same s12
    have ep12 : G12 p8 = some (.lst (ys.map V.str)) := s12 _ _ (b11 _ _ (s10 _ _ ep) ((S9.same s10).is.ne (s10 _ _ ep) fun _ _ _ z => nomatch z))
    have eo12 : G12 oa = some (.dK (tabN z ys 0)) := s12 _ _ (b11 _ _ eo noa2)
    clear so s12 S11 b11 s10 eo ep S9 e12 n12
    refine ⟨fun σ G => (∃ v11 v12 v13, σ = [some (.ref c), some (.ref a), some (.int (0 + (i : Int))), some (.ref fl), some (.bl mx), some dv, some p, some (.ref p8), some (.str freshS), some (.ref oa), some (.int (z : Nat)), v11, v12, v13, v14, v15]) ∧ Same6 G12 G oa ∧ G oa = some (.dK (tabN z ys ys.length)), ?_, ?_⟩
    · refine ⟨_, rfl, p8, _, rfl, SqL.of ep12, for_it walk_enum (fun j σ G => (∃ v11 v12 v13, σ = [some (.ref c), some (.ref a), some (.int (0 + (i : Int))), some (.ref fl), some (.bl mx), some dv, some p, some (.ref p8), some (.str freshS), some (.ref oa), some (.int (z : Nat)), v11, v12, v13, v14, v15]) ∧ Same6 G12 G oa ∧ G oa = some (.dK (tabN z ys j))) ⟨⟨_, _, _, rfl⟩, fun _ _ e _ => e, eo12⟩ (fun j σ G _ h => SqL.of (h.2.1 _ _ ep12 fun e => by rw [e, eo12] at ep12; cases ep12)) ?_ ?_⟩
      · rintro j x σ G H2 hj ⟨⟨v11, v12, v13, rfl⟩, s6, eo⟩ ⟨tp, x0, y, rfl, nT, rfl, e1, e2⟩
        cases e1
        obtain ⟨y0, ey, rfl⟩ : ∃ y0, ys[j]? = some y0 ∧ V.str y0 = y := by
          have e2' : (ys.map V.str)[j]? = some y := e2
          rw [List.getElem?_map] at e2'
          exact Option.map_eq_some_iff.mp e2'
        rw [List.length_map] at hj
        have j18 : j < 18 := by omega
        have sT : Same G (upd G tp (.tup [.int (j : Nat), .str y0])) := Same.new nT
        have eT : (upd G tp (.tup [.int (j : Nat), .str y0])) tp = some (.tup [.int (j : Nat), .str y0]) := upd_same
        generalize upd G tp (.tup [.int (j : Nat), .str y0]) = G1 at sT eT ⊢
        obtain ⟨n1, n2, n3, n4, n5⟩ := new_ok z zz j j18
        obtain ⟨cp, hcp⟩ : ∃ cp, freshS.cps.toList[(j + z) % 11]? = some cp := by
          have lt : (j + z) % 11 < freshS.cps.toList.length := Nat.lt_of_lt_of_le (Nat.mod_lt _ (by decide)) (by decide +kernel)
          exact ⟨_, List.getElem?_eq_getElem lt⟩
        have esn : signOf z j = ⟨#[cp]⟩ := by unfold signOf; rw [hcp]
        have e11 : ((j : Int) + (z : Int)) % 11 = (((j + z) % 11 : Nat) : Int) := by omega
        have e40 : ((j : Int) * 7 + (z : Int)) % 40 = (((j * 7 + z) % 40 : Nat) : Int) := by omega
        refine ⟨tp, _, rfl, SqT.of eT, rfl, _, _, rfl, _, _, rfl, rfl, ?_⟩
        refine ⟨_, rfl, _, rfl, _, rfl, _, _, rfl, rfl, .inl ⟨_, rfl, _, _, rfl, rfl, (by show (0 : Int) < 11; decide), freshS, _, cp, rfl, rfl, (by decide +kernel), at_g e11 hcp, ?_⟩⟩
        rw [← esn]
        refine ⟨_, rfl, _, _, rfl, rfl, ?_, ?_⟩
        · exact Nat.le_trans (show _ ≤ 1 + 1 from Nat.add_le_add n3 (by decide +kernel)) (by decide)
        refine ⟨_, rfl, _, _, rfl, rfl, .inl ⟨by omega, by omega⟩, _, rfl, _, _, rfl, rfl, .inl ⟨_, rfl, _, _, rfl, rfl, (by show (0 : Int) < 40; decide), ?_⟩⟩
        refine ⟨V.int (((j * 7 + z) % 40 : Nat) : Int), congrArg (fun n => [V.int n]) e40, lg30 (by omega) (by omega), _, _, rfl, rfl, ?_, ?_⟩
        · refine Nat.le_trans (show _ ≤ 2 + 2 from Nat.add_le_add ?_ n5) (by decide)
          rw [← tl_len, tl_append, List.length_append, tl_len, tl_len]
          exact Nat.le_trans (show _ ≤ 1 + 1 from Nat.add_le_add n3 (by decide +kernel)) (by decide)
        have eo1 := sT _ _ eo
        refine ⟨_, rfl, _, rfl, oa, _, rfl, DPut.k (k := Sum.inr y0) eo1 (by rw [tabN_len (by omega)]; exact small1000 (by omega)), ⟨_, _, _, rfl⟩, ?_, ?_⟩
        · intro b o e ne
          rw [upd_ne ne]
          exact sT _ _ (s6 _ _ e ne)
        · refine upd_same.trans (congrArg (fun z => some (HO.dK z)) ?_)
          exact tabN_put ny ey
      · rintro σ G ⟨hσ, s6, eo⟩
        rw [List.length_map] at eo
        exact ⟨hσ, s6, eo⟩
    clear ep12
    rintro σ G ⟨⟨v11, v12, v13, rfl⟩, s6, eo⟩
    -- the other plan
    have so := s6.solidD eo12
    replace hp := PTr.solid so hp
    replace hd := DTr.solid so hd
    have SG := S12.six s6 eo12 noa2
    obtain ⟨nf, inj⟩ := nameF_ok (z := z) zz yl yn
    have ho : Oth G oa (nameF z ys) t.names := tabN_oth ny yn eo
    have okr := ren_ok (nameF z ys) t ok nf
    have neq : t.name ≠ nameF z ys t.name := nameF_ne zz yl ((yn _).mpr (name_mem t)) lowt
    generalize nameF z ys = f at nf inj ho okr neq
    clear so s6 eo eo12 S12
    have nlr : (ren f t).names.length = t.names.length := by rw [ren_names, List.length_map]
    have lvr : (ren f t).pn.lv = t.pn.lv := by rw [ren_pn]
    have szr := Tr.size_names (ren f t)
    refine ⟨_, rfl, _, rfl, dv, t, oa, f, t.names, rfl, hd, ok, ho, fun _ h => h, lv, fun rv Ga sa hrv => ⟨rv, ren f t, rfl, hrv, okr, by omega, by decide, by omega, fun u Gb sb hu => ?_⟩⟩
    have sab := sa.trans sb
    refine ⟨_, rfl, _, rfl, _, rfl, _, rfl, _, rfl, sz (by show 3 ≤ 1000; decide), fun wl Gc sc nc ec => ?_⟩
    have sc3 := sab.trans sc
    have SC := SG.same sc3
    refine pick_of SC (by omega) ec (by show 0 < 3; decide) (by show 3 ≤ 1000; decide) fun rv2 hrv2 Gd bd Sd => ?_
    obtain ⟨r, rfl, hr1⟩ : ∃ r, rv2 = .str r ∧ r ∈ restartsS := by
      simp only [List.mem_cons, List.not_mem_nil, or_false] at hrv2
      rcases hrv2 with rfl | rfl | rfl
      · exact ⟨_, rfl, by decide +kernel⟩
      · exact ⟨_, rfl, by decide +kernel⟩
      · exact ⟨_, rfl, by decide +kernel⟩
    have sod : Solid G Gd := (Solid.of_same sc3).trans (But.solid bd SC.is)
    have hu2 := PTr.solid ((Solid.of_same sc).trans (But.solid bd SC.is)) hu
    have hod : Oth Gd oa f t.names := by
      obtain ⟨kvs, e, g⟩ := ho.same sc3
      exact ⟨kvs, bd _ _ e noa2, g⟩
    refine ⟨a, c, oa, ns, _, p, u, t, f, r, rfl, Sd, by omega, noa2, PTr.solid sod hp, hu2, ok, lv, by omega, hod, nf, inj, hr1, fun Ge Se be => ⟨_, rfl, if_no rfl ?_⟩⟩
    have soe : Solid Gd Ge := But.solid be Sd.is
    replace hp := PTr.solid soe (PTr.solid sod hp)
    replace hu := PTr.solid soe hu2
    -- read back
    refine ⟨_, rfl, p, t, rfl, hp, ok, by omega, by omega, fun G1 s1 => ⟨t, rfl, ok, by omega, by omega, fun g G2 s2 hg => ?_⟩⟩
    have s12 := s1.trans s2
    have hp2 := hp.same s12
    have hu2 := hu.same s12
    refine ⟨_, rfl, _, rfl, dn_of hp2 hu2 neq, fun G3 s3 => ?_⟩
    have s3' : Same G2 G3 := s3
    have hp3 := hp2.same s3'
    have hu3 := hu2.same s3'
    refine ⟨_, rfl, p, t, rfl, hp3, ok, by omega, by omega, fun G4 s4 => ⟨_, rfl, u, ren f t, rfl, hu3.same s4, okr, by omega, by omega, fun G5 s5 => ⟨rfl, rfl, _, rfl, if_no ?_ ?_⟩⟩⟩
    · have z := text_ne ok okr (by omega) neq
      simp [z]
    have s45 := s4.trans s5
    have hg5 := (hg.same s3').same s45
    refine ⟨_, rfl, _, rfl, dq_of (hp3.same s45) hg5 ok (by omega), fun G6 s6 => ⟨_, rfl, if_no rfl ⟨_, rfl, ?_⟩⟩⟩
    have s6' : Same G5 G6 := s6
    dsimp only [tNil, cxOf]
    refine lens_at LE LW LS (hg5.same s6').pt (by omega) (by omega) fun G7 s7 => ⟨_, rfl, ?_⟩
    dsimp only [tNil, cxOf]
    refine lens_at LE LW LS (((hp3.same s45).same s6').same s7).pt (by omega) (by omega) fun G8 s8 => ⟨rfl, _, rfl, if_no (by simp) ⟨⟨_, _, _, _, _, _, _, _, _, _, _, _, _, _, rfl⟩, ?_⟩⟩
    exact ((((Se.same s12).same s3').same s45).same ((s6'.trans s7).trans s8)).more (by omega)
  · rintro σ G ⟨_, S0⟩
    exact k _
end
end K08
namespace K08
open PySem PySem.Spec PyProof.Rows L2 K08H
theorem tupB_ok {K : PySem.W.Frag} {a : Addr} {xs : List V} (h : tupB K a xs = true) (H : Hp) : SqT K H a xs := by
  unfold tupB at h
  split at h
  · rename_i c dd its n sl e
    simp only [Bool.and_eq_true, decide_eq_true_eq] at h
    obtain ⟨h1, h2, h3⟩ := h
    subst h1
    exact .inr ⟨_, its, n, e, rfl, rfl, Nat.le_of_lt (small1000 h2), He.relAll_ok h3⟩
  · cases h
theorem insB_ok {K : PySem.W.Frag} {x : Str} (h : insB K x = true) : C8.InsC K (He.ga K x) := by
  unfold insB at h
  simp only [Bool.and_eq_true, decide_eq_true_eq] at h
  obtain ⟨h1, h2, h3, h4, h5, h6⟩ := h
  exact ⟨He.cls_ok h1, h2, h3, h4, h5, h6⟩
theorem fnB_ok {K : PySem.W.Frag} {C : Addr} {f : Str} (h : fnB K C f = true) : PySem.W.findIn K (.ref C) f = some (some (.ref (He.ma K C f))) ∧ PySem.W.typeIn K (.ref (He.ma K C f)) = some (.type "function") ∧ PySem.W.isFn K (.ref (He.ma K C f)) = true := by
  unfold fnB at h
  simp only [Bool.and_eq_true, decide_eq_true_eq] at h
  exact h
theorem lens_of {K : PySem.W.Frag} (h : lensB K = true) : Lens K := by
  unfold lensB at h
  simp only [Bool.and_eq_true, decide_eq_true_eq] at h
  obtain ⟨h1, h2, h3, h4⟩ := h
  exact ⟨h1, h2, h3, h4⟩
theorem ins_of {K : PySem.W.Frag} (h : insIB K = true) : Ins K := by
  unfold insIB at h
  rw [Bool.and_eq_true] at h
  obtain ⟨a1, a2, _⟩ := fnB_ok h.1
  obtain ⟨b1, b2, _⟩ := fnB_ok h.2
  exact ⟨a1, a2, b1, b2⟩
theorem errT_of {K : PySem.W.Frag} (h : errTB K = true) : ErrT K := by
  unfold errTB at h
  simp only [Bool.and_eq_true, decide_eq_true_eq] at h
  exact ⟨h.1, h.2⟩
section
variable {K : PySem.W.Frag} {h : Heap} {mg : Str → Option Value} {w : World}
theorem glo_at (X : K.In h) (G : h.Ns mainGlobals mg) (c : He.SaysXT fa fn ts w K) {x : Str} (hx : x ∈ frag1 ++ (cTups.map (·.1) ++ fns.map (·.1))) : mg x = some (.ref (He.ga K x)) :=
  He.glo_ok X G (List.all_eq_true.mp (c.x.fact 0) x hx)
theorem clss_in {x : Str} (hx : x ∈ clss) : x ∈ frag1 := List.mem_cons_of_mem _ hx
theorem txt (X : K.In h) (G : h.Ns mainGlobals mg) (c : He.SaysXT fa fn ts w K) : Txt K mg := by
  have z8 : ∀ f ∈ wNames, (He.Fa.noat "WorkerPlan" f).ok K = true := List.all_eq_true.mp (c.x.fact 8)
  refine ⟨fun x hx => He.free_ok X G (List.all_eq_true.mp (c.x.fact 1) x hx), fun p hp => ?_, fun p hp => ?_, fun p hp => ⟨_, glo_at X G c (List.mem_append_right _ (List.mem_append_left _ (List.mem_map_of_mem (f := (·.1)) hp))), rfl⟩, fun p hp H => tupB_ok (List.all_eq_true.mp (c.x.fact 4) p hp) H,
    fun x hx => ⟨_, glo_at X G c (List.mem_append_left _ (clss_in hx)), rfl⟩, ⟨insB_ok (c.x.fact 5), insB_ok (c.x.fact 6), kitD_ok (c.x.fact 7)⟩, He.noat_ok (z8 "script" (by simp))⟩
  · obtain ⟨t, e⟩ := He.int_ok X G (List.all_eq_true.mp (c.x.fact 2) p hp)
    exact ⟨_, e, t, rfl⟩
  · obtain ⟨t, e⟩ := He.str_ok X G (List.all_eq_true.mp (c.x.fact 3) p hp)
    exact ⟨_, e, t, rfl⟩
theorem wk (X : K.In h) (G : h.Ns mainGlobals mg) (c : He.SaysXT fa fn ts w K) : Wk K mg :=
  ⟨glo_at X G c (List.mem_append_left _ (clss_in (by simp [clss]))), (insB_ok (c.x.fact 5)).cl, fun f hf => He.noat_ok (List.all_eq_true.mp (c.x.fact 8) f hf), He.mkr_ok (c.x.fact 9)⟩
theorem has (X : K.In h) (G : h.Ns mainGlobals mg) (c : He.SaysXT fa fn ts w K) {x : Str} {i : Nat} (hx : (x, i) ∈ fns) : Has K mg x (top i) := by
  have m : dF x i ∈ fn := List.mem_cons_of_mem _ (List.mem_cons_of_mem _ (List.mem_cons_of_mem _ (List.mem_cons_of_mem _ (List.mem_cons_of_mem _ (List.mem_cons_of_mem _ (List.mem_cons_of_mem _ (List.mem_cons_of_mem _ (List.mem_cons_of_mem _ (List.mem_append_left _ (List.mem_map_of_mem (f := fun p : Str × Nat => dF p.1 p.2) hx))))))))))
  obtain ⟨fd, F⟩ := c.x.def_in m
  exact ⟨glo_at X G c (List.mem_append_right _ (List.mem_append_right _ (List.mem_map_of_mem (f := (·.1)) hx))), fd, F⟩
theorem winit (c : He.SaysXT fa fn ts w K) : ∃ fd, FunD K "__init__" "WorkerPlan.__init__" (defArgs s_WorkerPlan___init__) (defBody s_WorkerPlan___init__) (defScope s_WorkerPlan___init__) [] (wDef (dsAt K)) (He.ma K (wkA K) "__init__") fd := by
  obtain ⟨fd, F⟩ := c.x.def_in (d := dW) List.mem_cons_self
  exact ⟨fd, F⟩
theorem wlen (c : He.SaysXT fa fn ts w K) : ∃ fd, FunD K "__len__" "WorkerPlan.__len__" (defArgs s_WorkerPlan___len__) (defBody s_WorkerPlan___len__) (defScope s_WorkerPlan___len__) [] [] (He.ma K (wkA K) "__len__") fd := by
  obtain ⟨fd, F⟩ := c.x.def_in (d := dLw) (List.mem_cons_of_mem _ (List.mem_cons_of_mem _ List.mem_cons_self))
  exact ⟨fd, F⟩
theorem slen (c : He.SaysXT fa fn ts w K) : ∃ fd, FunD K "__len__" "SupervisorPlan.__len__" (defArgs s_SupervisorPlan___len__) (defBody s_SupervisorPlan___len__) (defScope s_SupervisorPlan___len__) [] [] (He.ma K (suA K) "__len__") fd := by
  obtain ⟨fd, F⟩ := c.x.def_in (d := dLs) (List.mem_cons_of_mem _ (List.mem_cons_of_mem _ (List.mem_cons_of_mem _ List.mem_cons_self)))
  exact ⟨fd, F⟩
theorem tabF (X : K.In h) (G : h.Ns mainGlobals mg) (c : He.SaysXT fa fn ts w K) : Tab K w mg := by
  obtain ⟨es, n, D⟩ := c.table 0
  refine ⟨⟨_, glo_at X G c (List.mem_append_left _ (by simp [frag1])), rfl⟩, ⟨es, n, D⟩, fun x ks e => ?_, fun x e => ?_⟩
  · have z := List.all_eq_true.mp (c.x.fact 11) (x, ks) (lookup_mem e)
    dsimp only at z
    split at z
    · rename_i a q
      exact ⟨a, q, fun H => tupB_ok z H⟩
    · cases z
  · have k : keysB K = true := c.x.fact 12
    unfold keysB at k
    have at_ := D.at_
    dsimp only [ts] at at_
    rw [at_] at k
    have all := List.all_eq_true.mp k
    unfold PySem.W.nsIn
    rw [at_]
    have none_ : es.toList.find? (·.key.isStr x) = none := by
      rw [List.find?_eq_none]
      intro d hd q
      have z := all d hd
      split at z
      · rename_i y t ek
        rw [ek] at q
        have ey : y = x := eq_of_beq (show (y == x) = true from q)
        rw [ey, e] at z
        cases z
      · cases z
    have noref : es.toList.any (·.refKey) = false := by
      rw [List.any_eq_false]
      intro d hd q
      have z := all d hd
      split at z
      · rename_i y t ek
        unfold DictEntry.refKey at q
        rw [ek] at q
        cases q
      · cases z
    dsimp only
    rw [none_]
    dsimp only
    rw [noref]
    rfl
theorem err (X : K.In h) (G : h.Ns mainGlobals mg) {x f : Str} (z : errB K x f = true) (m : ∃ i, dI x i ∈ fn ∧ ∃ p1 p2 q1 q2 q3 q4 : Pos, defArgs (inClass (top i) 0) = aF f p1 p2 ∧ defBody (inClass (top i) 0) = bF f q1 q2 q3 q4 ∧ defScope (inClass (top i) 0) = sF f) (c : He.SaysXT fa fn ts w K) : Err K mg x f := by
  unfold errB at z
  simp only [Bool.and_eq_true, decide_eq_true_eq] at z
  obtain ⟨z1, z2, z3, z4, z5, z6⟩ := z
  obtain ⟨i, mi, p1, p2, q1, q2, q3, q4, e1, e2, e3⟩ := m
  obtain ⟨fd, ⟨oc, od, dV, kV, doc, pm, an, cdv, ct, osl, rfl, lk, cd, dfl, _⟩, _⟩ := c.x.def_in mi
  refine ⟨He.glo_ok X G z1, xclB_ok z2, ⟨z5, z3, z4, ?_⟩, z6⟩
  rcases dfl with ⟨_, rfl⟩ | ⟨n, _⟩
  · dsimp only [dI] at lk cd
    rw [e1, e2, e3] at lk
    exact ⟨_, _, _, _, _, _, _, _, _, _, _, _, _, _, _, _, lk, cd⟩
  · exact absurd rfl n
theorem fn_err {d : He.DefD} (h : d ∈ [dI "BadSetting" 21, dI "BadChild" 22, dI "BadScript" 25, dI "BadText" 24, dI "BadRoot" 23, dI "NoPlace" 26]) : d ∈ fn := List.mem_cons_of_mem _ (List.mem_cons_of_mem _ (List.mem_cons_of_mem _ (List.mem_cons_of_mem _ (List.mem_cons_of_mem _ (List.mem_cons_of_mem _ (List.mem_cons_of_mem _ (List.mem_cons_of_mem _ (List.mem_cons_of_mem _ (List.mem_append_right _ h)))))))))
theorem errS (X : K.In h) (G : h.Ns mainGlobals mg) (c : He.SaysXT fa fn ts w K) : Err K mg "BadSetting" "setting" :=
  err X G (c.x.fact 13) ⟨21, fn_err List.mem_cons_self, _, _, _, _, _, _, rfl, rfl, rfl⟩ c
theorem errI (X : K.In h) (G : h.Ns mainGlobals mg) (c : He.SaysXT fa fn ts w K) : Err K mg "BadScript" "index" :=
  err X G (c.x.fact 14) ⟨25, fn_err (List.mem_cons_of_mem _ (List.mem_cons_of_mem _ List.mem_cons_self)), _, _, _, _, _, _, rfl, rfl, rfl⟩ c
theorem errC (X : K.In h) (G : h.Ns mainGlobals mg) (c : He.SaysXT fa fn ts w K) : Err K mg "BadChild" "index" :=
  err X G (c.x.fact 18) ⟨22, fn_err (List.mem_cons_of_mem _ List.mem_cons_self), _, _, _, _, _, _, rfl, rfl, rfl⟩ c
theorem errX (X : K.In h) (G : h.Ns mainGlobals mg) (c : He.SaysXT fa fn ts w K) : Err K mg "BadText" "line" :=
  err X G (c.x.fact 20) ⟨24, fn_err (List.mem_cons_of_mem _ (List.mem_cons_of_mem _ (List.mem_cons_of_mem _ List.mem_cons_self))), _, _, _, _, _, _, rfl, rfl, rfl⟩ c
theorem errL (X : K.In h) (G : h.Ns mainGlobals mg) {x f : Str} (z : errLB K x f = true) (m : ∃ i, dI x i ∈ fn ∧ ∃ p1 p2 q1 q2 q3 q4 : Pos, defArgs (inClass (top i) 0) = aF f p1 p2 ∧ defBody (inClass (top i) 0) = bF f q1 q2 q3 q4 ∧ defScope (inClass (top i) 0) = sF f) (c : He.SaysXT fa fn ts w K) : ErrL K mg x f := by
  unfold errLB at z
  simp only [Bool.and_eq_true, decide_eq_true_eq] at z
  obtain ⟨z1, z2, z3, z4, z5, z6⟩ := z
  obtain ⟨i, mi, p1, p2, q1, q2, q3, q4, e1, e2, e3⟩ := m
  obtain ⟨fd, ⟨oc, od, dV, kV, doc, pm, an, cdv, ct, osl, rfl, lk, cd, dfl, _⟩, _⟩ := c.x.def_in mi
  refine ⟨He.glo_ok X G z1, xclB_ok z2, ⟨z5, z3, z4, ?_⟩, z6⟩
  rcases dfl with ⟨_, rfl⟩ | ⟨n, _⟩
  · dsimp only [dI] at lk cd
    rw [e1, e2, e3] at lk
    exact ⟨_, _, _, _, _, _, _, _, _, _, _, _, _, _, _, _, lk, cd⟩
  · exact absurd rfl n
theorem errN (X : K.In h) (G : h.Ns mainGlobals mg) (c : He.SaysXT fa fn ts w K) : ErrL K mg "NoPlace" "place" :=
  errL X G (c.x.fact 26) ⟨26, fn_err (List.mem_cons_of_mem _ (List.mem_cons_of_mem _ (List.mem_cons_of_mem _ (List.mem_cons_of_mem _ (List.mem_cons_of_mem _ List.mem_cons_self))))), _, _, _, _, _, _, rfl, rfl, rfl⟩ c
theorem errR (X : K.In h) (G : h.Ns mainGlobals mg) (c : He.SaysXT fa fn ts w K) : Err K mg "BadRoot" "rule" :=
  err X G (c.x.fact 27) ⟨23, fn_err (List.mem_cons_of_mem _ (List.mem_cons_of_mem _ (List.mem_cons_of_mem _ (List.mem_cons_of_mem _ List.mem_cons_self)))), _, _, _, _, _, _, rfl, rfl, rfl⟩ c
theorem wcont (c : He.SaysXT fa fn ts w K) : ∃ fd, FunD K "__contains__" "WorkerPlan.__contains__" (defArgs s_WorkerPlan___contains__) (defBody s_WorkerPlan___contains__) (defScope s_WorkerPlan___contains__) [] [] (He.ma K (wkA K) "__contains__") fd := by
  obtain ⟨fd, F⟩ := c.x.def_in (d := dCw) (List.mem_cons_of_mem _ (List.mem_cons_of_mem _ (List.mem_cons_of_mem _ (List.mem_cons_of_mem _ (List.mem_cons_of_mem _ (List.mem_cons_of_mem _ (List.mem_cons_of_mem _ (List.mem_cons_self))))))))
  exact ⟨fd, F⟩
theorem scont (c : He.SaysXT fa fn ts w K) : ∃ fd, FunD K "__contains__" "SupervisorPlan.__contains__" (defArgs s_SupervisorPlan___contains__) (defBody s_SupervisorPlan___contains__) (defScope s_SupervisorPlan___contains__) [] [] (He.ma K (suA K) "__contains__") fd := by
  obtain ⟨fd, F⟩ := c.x.def_in (d := dCs) (List.mem_cons_of_mem _ (List.mem_cons_of_mem _ (List.mem_cons_of_mem _ (List.mem_cons_of_mem _ (List.mem_cons_of_mem _ (List.mem_cons_of_mem _ (List.mem_cons_of_mem _ (List.mem_cons_of_mem _ (List.mem_cons_self)))))))))
  exact ⟨fd, F⟩
theorem rk_of (X : K.In h) (G : h.Ns mainGlobals mg) (c : He.SaysXT fa fn ts w K) : Rk K mg :=
  ⟨glo_at X G c (List.mem_append_left _ (clss_in (by simp [clss]))), He.cls_ok (c.x.fact 21), fun f hf => He.noat_ok (List.all_eq_true.mp (c.x.fact 22) f hf), He.mkr_ok (c.x.fact 23)⟩
theorem rinit (c : He.SaysXT fa fn ts w K) : ∃ fd, FunD K "__init__" "Row.__init__" (defArgs s_Row___init__) (defBody s_Row___init__) (defScope s_Row___init__) [] [] (He.ma K (rwA K) "__init__") fd := by
  obtain ⟨fd, F⟩ := c.x.def_in (d := dR) (List.mem_cons_of_mem _ (List.mem_cons_of_mem _ (List.mem_cons_of_mem _ (List.mem_cons_of_mem _ (List.mem_cons_of_mem _ (List.mem_cons_of_mem _ (List.mem_cons_self)))))))
  exact ⟨fd, F⟩
theorem su (X : K.In h) (G : h.Ns mainGlobals mg) (c : He.SaysXT fa fn ts w K) : Su K mg :=
  ⟨glo_at X G c (List.mem_append_left _ (clss_in (by simp [clss]))), (insB_ok (c.x.fact 6)).cl, fun f hf => He.noat_ok (List.all_eq_true.mp (c.x.fact 15) f hf), He.mkr_ok (c.x.fact 16)⟩
theorem sinit (c : He.SaysXT fa fn ts w K) : ∃ fd, FunD K "__init__" "SupervisorPlan.__init__" (defArgs s_SupervisorPlan___init__) (defBody s_SupervisorPlan___init__) (defScope s_SupervisorPlan___init__) [] sDef (He.ma K (suA K) "__init__") fd := by
  obtain ⟨fd, F⟩ := c.x.def_in (d := dS) (List.mem_cons_of_mem _ List.mem_cons_self)
  exact ⟨fd, F⟩
theorem pl_of (c : He.SaysXT fa fn ts w K) : Pl K :=
  ⟨(insB_ok (c.x.fact 5)).cl, (insB_ok (c.x.fact 6)).cl, fun f hf => He.noat_ok (List.all_eq_true.mp (c.x.fact 8) f hf), fun f hf => He.noat_ok (List.all_eq_true.mp (c.x.fact 15) f hf)⟩
theorem weq (c : He.SaysXT fa fn ts w K) : ∃ fd, FunD K "__eq__" "WorkerPlan.__eq__" (defArgs s_WorkerPlan___eq__) (defBody s_WorkerPlan___eq__) (defScope s_WorkerPlan___eq__) [] [] (He.ma K (wkA K) "__eq__") fd := by
  obtain ⟨fd, F⟩ := c.x.def_in (d := dEw) (List.mem_cons_of_mem _ (List.mem_cons_of_mem _ (List.mem_cons_of_mem _ (List.mem_cons_of_mem _ (List.mem_cons_self)))))
  exact ⟨fd, F⟩
theorem seq_ (c : He.SaysXT fa fn ts w K) : ∃ fd, FunD K "__eq__" "SupervisorPlan.__eq__" (defArgs s_SupervisorPlan___eq__) (defBody s_SupervisorPlan___eq__) (defScope s_SupervisorPlan___eq__) [] [] (He.ma K (suA K) "__eq__") fd := by
  obtain ⟨fd, F⟩ := c.x.def_in (d := dEs) (List.mem_cons_of_mem _ (List.mem_cons_of_mem _ (List.mem_cons_of_mem _ (List.mem_cons_of_mem _ (List.mem_cons_of_mem _ (List.mem_cons_self))))))
  exact ⟨fd, F⟩
theorem eqd_of (c : He.SaysXT fa fn ts w K) : EqD K := by
  have z : eqsB K = true := c.x.fact 19
  unfold eqsB at z
  simp only [Bool.and_eq_true, decide_eq_true_eq] at z
  obtain ⟨⟨z1, z2⟩, z3, z4, z5, z6⟩ := z
  obtain ⟨a1, _, a3⟩ := fnB_ok z1
  obtain ⟨b1, _, b3⟩ := fnB_ok z2
  exact ⟨⟨a1, a3, b1, b3⟩, z3, z4, z5, z6, weq c, seq_ c⟩
/-- the empty tuple among WorkerPlan's defaults -/
theorem ds_ok (c : He.SaysXT fa fn ts w K) (H : Hp) : SqT K H (dsAt K) [] := tupB_ok (c.x.fact 10) H
end
end K08
namespace K08
open PySem PySem.Spec PyProof.Rows L2 K08H
section
variable {P : Program} {K : PySem.W.Frag} {h : Heap} {mg : Str → Option Value} {w : World}
/-- all defs put together -/
theorem law_all {base : Heap} (X : K.In h) (G : h.Ns mainGlobals mg) (c : He.SaysXT fa fn ts w K) : FnP P w K mg base CX0 51 "law" ["cells"] (spLaw K) := by
  have T := txt X G c
  have W := wk X G c
  have S := su X G c
  have TD := tabF X G c
  have TS := errS X G c
  have TI := errI X G c
  have TC := errC X G c
  have TX := errX X G c
  have R := rk_of X G c
  have L : Lens K := lens_of (c.x.fact 17)
  have TN := errN X G c
  have TR := errR X G c
  have M : ErrT K := errT_of (c.x.fact 25)
  have IN : Ins K := ins_of (c.x.fact 24)
  have PL := pl_of c
  have ED := eqd_of c
  have Hs : ∀ {x : Str} {n : Nat} (i : Nat), fns[i]? = some (x, n) → Has K mg x (top n) := fun i z => has X G c (List.mem_of_getElem? z)
  obtain ⟨fw, FD⟩ := winit c
  obtain ⟨fs, FDs⟩ := sinit c
  obtain ⟨lw, LW⟩ := wlen c
  obtain ⟨ls, LS⟩ := slen c
  obtain ⟨rw_, RW⟩ := rinit c
  obtain ⟨cw, CW⟩ := wcont c
  obtain ⟨cs, CS⟩ := scont c
  obtain ⟨mvA, hbA⟩ := wk_bindA FD
  obtain ⟨mvR, hbR⟩ := wk_bindR FD
  obtain ⟨mvD, hbD⟩ := wk_bindD FD
  have i_int := ok_is_integer (P := P) (w := w) (base := base) (Hs 0 rfl) T
  have i_btw := ok_is_between (Hs 1 rfl) T i_int
  have i_one := ok_is_one_of (P := P) (w := w) (base := base) (Hs 2 rfl) T
  have i_word := ok_is_word (P := P) (w := w) (base := base) (Hs 3 rfl) T
  have i_place := ok_is_place_name (Hs 4 rfl) T i_word
  have i_sent := ok_is_sent_word (Hs 5 rfl) T i_word
  have i_val := ok_is_sent_value (Hs 6 rfl) T i_btw
  have i_given := ok_is_given_reason (Hs 7 rfl) T i_word
  have i_dval := ok_is_deed_value (Hs 10 rfl) T i_val
  have i_add := ok_has_add (P := P) (w := w) (base := base) (Hs 11 rfl) T
  have i_item := ok_is_item (Hs 9 rfl) T i_sent i_dval i_btw i_given i_word i_add
  have i_deed := ok_is_deed (Hs 8 rfl) T TD i_item
  have i_deeds := ok_are_deeds (Hs 13 rfl) T i_deed
  have i_row := ok_is_row (Hs 12 rfl) T i_word i_btw i_deeds
  have i_wrow := ok_wrong_row (Hs 14 rfl) T TI i_row
  have i_scr := ok_is_script (Hs 15 rfl) T i_wrow
  have i_plan := ok_is_plan (P := P) (w := w) (base := base) (Hs 16 rfl) T
  have i_dead := ok_is_deadline (Hs 17 rfl) T i_btw
  have i_set := ok_check_settings (P := P) (w := w) (base := base) (Hs 18 rfl) T TS
  have naC : NoAttr K (suA K) "children" := S.na "children" (by simp)
  have i_in := ok_plans_in (P := P) (w := w) (base := base) (Hs 20 rfl) T naC S.cl 20
  have i_inF := ok_plansF (P := P) (w := w) (base := base) (Hs 20 rfl) T PL 7
  have i_names := ok_names (Hs 21 rfl) T PL i_inF
  have i_lev := ok_levels_of (P := P) (w := w) (base := base) (Hs 26 rfl) T naC S.cl 20
  have lenW := ok_len_w LW T i_in
  have lenS := ok_len_s LS T i_in
  have i_kids := ok_check_children (Hs 19 rfl) T TC L lenW lenS i_plan i_lev
  have FW := ok_winit FD T W i_set i_place i_one i_btw i_dead i_scr
  have FS := ok_sinit FDs T S i_set i_place i_one i_btw i_dead i_kids
  have IF : InF P w K mg base := ⟨IN, ok_in_w CW T i_names i_one, ok_in_s CS T i_names i_one⟩
  have i_turn := ok_turn_to (Hs 25 rfl) T IF
  have i_way := ok_way_to (Hs 24 rfl) T PL IF TN i_turn
  have i_at := ok_plan_at (Hs 22 rfl) T i_way
  have i_path := ok_path_to (Hs 23 rfl) T PL i_way
  have i_prod := ok_greatest_product (P := P) (w := w) (base := base) (Hs 27 rfl) T PL 7
  have i_rule := ok_broken_rule (Hs 28 rfl) T i_names i_lev i_prod
  have i_chk := ok_check_root (Hs 29 rfl) T TR i_rule
  have i_isr := ok_is_root (Hs 30 rfl) T i_rule
  have i_sof := ok_settings_of (P := P) (w := w) (base := base) (Hs 35 rfl) T PL
  have i_sv := ok_supervisor (Hs 36 rfl) T S FS
  have SV := sv_k (Hs 36 rfl) i_sv
  have i_wc := ok_with_children (Hs 33 rfl) T i_sof SV
  have i_ws := ok_with_settings (Hs 34 rfl) T PL TS W FW hbD i_sof SV
  have i_cb := ok_changed_below (Hs 32 rfl) T PL i_ws i_turn i_wc 7
  have CH := chg_of (Hs 31 rfl) T IF TN i_cb
  have Z := eqf_all (P := P) (w := w) (base := base) ED T PL 20
  have EN : EqN P w K mg base := by
    obtain ⟨fw, Dw⟩ := weq c
    obtain ⟨fs, Ds⟩ := seq_ c
    have bw : Binds K fw ["self", "other"] [] := FunD.bindsN Dw fun _ _ _ _ _ _ us hl => match us, hl with | [_, _], _ => rfl
    have bs : Binds K fs ["self", "other"] [] := FunD.bindsN Ds fun _ _ _ _ _ _ us hl => match us, hl with | [_, _], _ => rfl
    exact ⟨ED.at', ⟨fw, (ok_eqN_w Dw T PL).mono (by decide), bw⟩, ⟨fs, ok_eqN_s Ds T PL (m := 20) Z, bs⟩⟩
  have FR := ok_rinit (P := P) (w := w) (base := base) RW R
  have bR : Binds K rw_ ["self", "plan"] [] := FunD.bindsN RW fun _ _ _ _ _ _ us hl => match us, hl with | [_, _], _ => rfl
  have t_num := ok_number_of (P := P) (w := w) (base := base) (Hs 45 rfl) T
  have t_dl := ok_deadline_of (Hs 46 rfl) T t_num
  have t_dep := ok_depth_of (P := P) (w := w) (base := base) (Hs 41 rfl) T
  have t_can := ok_can_stand (P := P) (w := w) (base := base) (Hs 42 rfl) T R
  have t_made := ok_made_of (Hs 44 rfl) T W FW hbR (ds_ok c) S FS t_num t_dl
  have t_plan := ok_plan_of (Hs 43 rfl) T t_made
  have t_built := ok_built (Hs 47 rfl) T R i_wc 20
  have t_read := ok_read_plan (Hs 40 rfl) T TX R FR bR t_dep t_plan t_can t_built
  have t_words := ok_words_of (P := P) (w := w) (base := base) (Hs 39 rfl) T PL
  have t_lines := ok_lines_of (Hs 38 rfl) T PL t_words 20
  have t_text := ok_plan_text (Hs 37 rfl) T t_lines
  have l_begun := ok_begun (P := P) (w := w) (base := base) (Hs 48 rfl)
  have l_next := ok_next (P := P) (w := w) (base := base) (Hs 49 rfl) T
  have l_of := ok_of (Hs 50 rfl) T l_next
  have l_words := ok_words (Hs 51 rfl) T l_next
  have l_worker := ok_worker (Hs 52 rfl) T l_next l_of
  have l_over := ok_over (Hs 53 rfl) T l_next l_of
  have l_tree := ok_tree (Hs 54 rfl) T l_next l_worker l_over 6
  have l_sup := ok_sup (Hs 55 rfl) T S FS
  have l_build := ok_build (Hs 56 rfl) T W FW hbA l_sup 20
  have l_ren := ok_law_renamed (P := P) (w := w) (base := base) (Hs 57 rfl) T 7
  have l_rule := ok_law_rule (Hs 58 rfl) T TR M i_chk
  have l_got := ok_law_got (Hs 59 rfl) T TN M i_at
  have l_cnt := ok_counts_right (Hs 60 rfl) T PL Z ED IF L lenW lenS i_names t_text i_path i_at
  have l_prt := ok_parts_right (Hs 61 rfl) T PL Z ED IF i_names i_at l_got
  have l_rtx := ok_renamed_text (Hs 62 rfl) T t_text
  have l_rr := ok_renaming_right (Hs 63 rfl) T PL IF L lenW lenS CH i_names l_rule i_isr t_text l_rtx l_of i_path i_at
  exact ok_law (Hs 64 rfl) T Z ED EN L lenW lenS l_begun l_next l_of l_words l_worker l_tree l_build l_cnt l_prt i_names l_ren l_rr t_text t_read
end
end K08
open PySem PySem.W PySem.Calls PyProof.Rows
theorem PySem.Challenge.cw_watchtree_k08_whole_plans_related_holds : PySem.Challenge.rw_watchtree_k08_whole_plans_related.Holds := by
  w_on; o_law
  refine HandSHeadRun.head_any (r := OpenLaw.row PySem.Challenge.rw_watchtree_k08_whole_plans_related) (q := view (OpenLaw.row PySem.Challenge.rw_watchtree_k08_whole_plans_related).prog [111]) (H := K08H.hk) (ob := K08H.ob) (M := 20000) (loose := K08H.loose) (d := HandSHeadRun.topDef (OpenLaw.row PySem.Challenge.rw_watchtree_k08_whole_plans_related).prog 111) (kwd := []) K08H.ob_eq
    (by kernel_rfl) (fun s => by kernel_rfl) K08H.run (by kernel_rfl) (by kernel_rfl) (by kernel_rfl) (by rfl) (by first | assumption | decide +kernel) (by decide +kernel) ⟨rfl, rfl, rfl, rfl, rfl, by decide +kernel⟩ ?hw ?hc
  case hw => w_witness2
  case hc =>
    refine L2.walkG (l := PySem.Challenge.rw_watchtree_k08_whole_plans_related) (n := 63) (k := 51) (x := "cells") (CX := L2.CX0) rfl (by decide) (by kernel_rfl) ⟨rfl, by decide, by decide⟩ ?F (fun _ _ _ _ z => z)
    intro w mg fa h Y G hmg0
    obtain ⟨K, KX, c⟩ := Y
    have hmg : mg ("law" : PySem.Str) = some (.ref fa) := by
      have e : (HandSHeadRun.topDef (OpenLaw.row PySem.Challenge.rw_watchtree_k08_whole_plans_related).prog 111).name = ("law" : PySem.Str) := by kernel_rfl
      rw [← e]
      exact hmg0
    have Hl := K08.has (x := "law") (i := 111) KX G c (List.mem_of_getElem? (i := 64) rfl)
    have e := hmg.symm.trans Hl.gl
    cases e
    obtain ⟨fd, F⟩ := Hl.df
    have b := L2.FunD.bindsA (ps := ["cells"]) F fun _ _ _ _ _ _ us hl => match us, hl with | [_], _ => rfl
    refine ⟨K, fd, K08.spLaw K, KX, fun s u => b s [u] rfl, fun H a ns hl _ hS => ⟨a, ns, rfl, hS, hl, fun _ => rfl⟩, fun base _ _ => ?_⟩
    have F2 := K08.law_all (P := (PySem.Challenge.rw_watchtree_k08_whole_plans_related).prog) (base := base) KX G c
    obtain ⟨fd2, G2, _, oc2, od2, osl2, lk2⟩ := F2.fn
    obtain ⟨oc1, od1, osl1, lk1⟩ := L2.lookD F
    have same : fd2 = fd := by
      have z := lk2.symm.trans lk1
      cases z
      rfl
    rw [← same]
    exact G2
