import PyProof.Rows.All
import Wide.All
import OpenK.AllK
import Wide.FinOn
import KE.KStateDown
import HandS.ForMost
import HandS.ForExc
import HandS.Defaults
import HandS.Head0
import HandS.Head1
import HandS.Head2
import HandS.HeadEnd
import HandS.HeadHook1
import HandS.HeadHook2
import HandS.HeadHook3
import PyProof.ReprRoads
import KE.KExcInit
import KE.KExcIs
import HandS.ExcInit
import HandS.IsInst
import KE.KUnpackStar
import HandS.Codes
import HandS.NoneIn
import HandS.Walk
import PyProof.StrBlock2
import KE.GoesEnum
import HandS.Zip
import HandS.More
import HandS.MakeKwOnly
import HandS.List
import HandS.SortKw
import HandS.SlotsOwn
import HandS.NamedTupGet
import HandS.TupAny
import HandS.Star
import HandS.MakeKw
import HandS.TryOnly
import KE.KTryMore
import HandS.ExcValue
import HandS.SetFor
import HandS.Lambda
import HandS.TupMul
import HandS.EndTab
import PyProof.NeKinds
import Wide.Once
import PySem.Challenge.RW_watchtree_k02_plans_refused
set_option Elab.async false
set_option linter.all false
set_option maxRecDepth 100000
set_option maxHeartbeats 0
/-! the head's Hook with facts of one's own: truths over the written part -/
namespace He
open PySem PySem.Spec PyProof.Rows L2
abbrev Fx : Type := PySem.W.Frag → Bool
def asX (g : Addr → Option Obj) (n : Nat) : List Addr := sysModules :: asD g n
def obsX (fa : List Fx) (fn : List DefD) (K : PySem.W.Frag) : AlD := ((fa.all fun f => f K) && fn.all fun d => d.ok K, fn.map fun d => fnW K d.at_)
def SaysX (fa : List Fx) (fn : List DefD) (K : PySem.W.Frag) : Prop := obsX fa fn K = valD fn
def obsXG (n : Nat) (fa : List Fx) (fn : List DefD) (g : Addr → Option Obj) : AlD := obsX fa fn (frG g (asX g n))
def hookX (n : Nat) (fa : List Fx) (fn : List DefD) : PySem.W.Hook where
  α := AlD
  obs := fun s => obsXG n fa fn s.heap.get?
  val := fun _ => valD fn
  says := fun _ h => ∃ K : PySem.W.Frag, K.In h ∧ SaysX fa fn K
  of := fun _ _ e => ⟨_, frG_in, e⟩
  keeps := fun _ _ _ ⟨K, hK, c⟩ k => ⟨K, PySem.W.Frag.In.keeps hK k, c⟩
theorem obsXG_eq {n : Nat} {fa : List Fx} {fn : List DefD} {g : Addr → Option Obj} {s : Shared} (h : ∀ a, g a = s.heap.get? a) : obsXG n fa fn g = (hookX n fa fn).obs s := by
  obtain rfl : g = s.heap.get? := funext h
  rfl
section
variable {fa : List Fx} {fn : List DefD} {K : PySem.W.Frag}
theorem SaysX.fact (c : SaysX fa fn K) (i : Nat) {f : Fx} (h : fa[i]? = some f := by rfl) : f K = true :=
  List.all_eq_true.mp (ba (show ((fa.all fun f => f K) && fn.all fun d => d.ok K) = true from congrArg (·.1) c)).1 f (List.mem_of_getElem? h)
theorem SaysX.def_ (c : SaysX fa fn K) (i : Nat) {d : DefD} (h : fn[i]? = some d := by rfl) : ∃ fd, FunD K d.name d.qual d.params d.body d.scope (d.dvs K) (d.kws K) (fAd K d.at_) fd := by
  have all2 := (ba (show ((fa.all fun f => f K) && fn.all fun d => d.ok K) = true from congrArg (·.1) c)).2
  have same : (fn.map fun d => fnW K d.at_)[i]? = (fn.map DefD.val)[i]? := congrArg (fun z : AlD => z.2[i]?) c
  rw [List.getElem?_map, List.getElem?_map, h] at same
  exact DefD.funD (Option.some.inj same) (List.all_eq_true.mp all2 d (List.mem_of_getElem? h))
theorem SaysX.def_in (c : SaysX fa fn K) {d : DefD} (h : d ∈ fn) : ∃ fd, FunD K d.name d.qual d.params d.body d.scope (d.dvs K) (d.kws K) (fAd K d.at_) fd := by
  obtain ⟨i, hi⟩ := List.getElem?_of_mem h
  exact c.def_ i hi
end
end He
/-! facts of one's own and tables with text keys -/
namespace He
open PySem PySem.Spec PyProof.Rows L2
def obsXT (fa : List Fx) (fn : List DefD) (ts : List Tab) (K : PySem.W.Frag) : AlT := (obsX fa fn K, ts.map fun t => dicW K (t.1 K))
def SaysXT (fa : List Fx) (fn : List DefD) (ts : List Tab) (w : World) (K : PySem.W.Frag) : Prop := obsXT fa fn ts K = valT fn ts w
/-- what is looked at: the walk's addresses, and those that ex finds from them -/
def asY (g : Addr → Option Obj) (n : Nat) (ex : List (PySem.W.Frag → Addr)) : List Addr := (ex.map fun f => f (frG g (asX g n))) ++ asX g n
def obsXTG (n : Nat) (ex : List (PySem.W.Frag → Addr)) (fa : List Fx) (fn : List DefD) (ts : List Tab) (g : Addr → Option Obj) : AlT := obsXT fa fn ts (frG g (asY g n ex))
def hookXT (n : Nat) (ex : List (PySem.W.Frag → Addr)) (fa : List Fx) (fn : List DefD) (ts : List Tab) : PySem.W.Hook where
  α := AlT
  obs := fun s => obsXTG n ex fa fn ts s.heap.get?
  val := fun w => valT fn ts w
  says := fun w h => ∃ K : PySem.W.Frag, K.In h ∧ SaysXT fa fn ts w K
  of := fun _ _ e => ⟨_, frG_in, e⟩
  keeps := fun _ _ _ ⟨K, hK, c⟩ k => ⟨K, PySem.W.Frag.In.keeps hK k, c⟩
theorem obsXTG_eq {n : Nat} {ex : List (PySem.W.Frag → Addr)} {fa : List Fx} {fn : List DefD} {ts : List Tab} {g : Addr → Option Obj} {s : Shared} (h : ∀ a, g a = s.heap.get? a) : obsXTG n ex fa fn ts g = (hookXT n ex fa fn ts).obs s := by
  obtain rfl : g = s.heap.get? := funext h
  rfl
section
variable {fa : List Fx} {fn : List DefD} {ts : List Tab} {w : World} {K : PySem.W.Frag}
theorem SaysXT.x (c : SaysXT fa fn ts w K) : SaysX fa fn K := congrArg (fun z : AlT => z.1) c
theorem SaysXT.table (c : SaysXT fa fn ts w K) (i : Nat) {t : Tab} (h : ts[i]? = some t := by rfl) : ∃ es n, KDict K w (t.1 K) es n := by
  have all : ts.map (fun t => dicW K (t.1 K)) = ts.map fun t => some (keysIn w.params t.2) := congrArg (fun z : AlT => z.2) c
  have one := congrArg (fun l => l[i]?) all
  simp only [List.getElem?_map, h, Option.map_some] at one
  exact dicW_ok (Option.some.inj one)
end
end He
namespace L2
open PySem PySem.Spec PyProof.Rows
/-! data as it is shown: as Dp, and the empty dict -/
mutual
inductive Dq (K : PySem.W.Frag) (H : Hp) : V → PyData → Prop
  | non : Dq K H .non .none
  | bl (b : Bool) : Dq K H (.bl b) (.bool b)
  | int (i : Int) : Dq K H (.int i) (.int i)
  | str (x : Str) : Dq K H (.str x) (.str x)
  | lst {a : Addr} {xs : List V} {ds : List PyData} : SqL K H a xs → DqAll K H xs ds → Dq K H (.ref a) (.list ds)
  | tup {a : Addr} {xs : List V} {ds : List PyData} : SqT K H a xs → DqAll K H xs ds → Dq K H (.ref a) (.tuple ds)
  | dic {a : Addr} : H a = some (.dK []) → Dq K H (.ref a) (.dict [])
inductive DqAll (K : PySem.W.Frag) (H : Hp) : List V → List PyData → Prop
  | nil : DqAll K H [] []
  | cons {v : V} {vs : List V} {d : PyData} {ds : List PyData} : Dq K H v d → DqAll K H vs ds → DqAll K H (v :: vs) (d :: ds)
end
section
variable {X : Cx} {pins : List (Addr × Obj)} {σ : St} {H : Hp} {s : Shared}
/-- the address of sys.modules is the module's own, so nothing that is tracked lies there -/
theorem Inv.noSys (I : Inv X pins σ H s) (hS : (X.K.lookup sysModules).isSome = true) : H sysModules = none := by
  obtain ⟨o, ho⟩ := Option.isSome_iff_exists.mp hS
  exact (I.bs _ _ (I.mod.kin _ _ ho)).2
/-- a list of the module does not lie there either, if what lies there is no list -/
def sysOk (K : PySem.W.Frag) : Bool := match K.lookup sysModules with
  | some o => decide (o.cls ≠ .type "list")
  | none => false
theorem Inv.listNotSys (I : Inv X pins σ H s) (hS : sysOk X.K = true) {a : Addr} {xs : List V} (h : SqL X.K H a xs) : a ≠ sysModules := by
  unfold sysOk at hS
  cases e : X.K.lookup sysModules with
  | none => rw [e] at hS; cases hS
  | some o =>
    rw [e] at hS
    have hn : o.cls ≠ .type "list" := of_decide_eq_true hS
    intro z
    subst z
    obtain ⟨its, _, ⟨ob, n, ho, hc, _⟩, _⟩ := I.list h
    rw [I.kIn _ _ e] at ho
    cases ho
    exact hn hc
mutual
theorem Dq.reads (I : Inv X pins σ H s) (hS : sysOk X.K = true) : ∀ (d : PyData) (v : V) (u : Value), Dq X.K H v d → RelV v u → ∃ as, Reads s.heap u d as ∧ sysModules ∉ as
  | .none, _, _, h, r => by
    cases h; cases r
    exact ⟨[], .none, by simp⟩
  | .bool b, _, _, h, r => by
    cases h; cases r
    exact ⟨[], .bool b, by simp⟩
  | .int i, _, _, h, r => by
    cases h
    obtain ⟨t, rfl⟩ := r
    exact ⟨[], .int i t, by simp⟩
  | .str x, _, _, h, r => by
    cases h
    obtain ⟨t, rfl⟩ := r
    exact ⟨[], .str x t, by simp⟩
  | .list ds, _, _, h, r => by
    cases h with
    | lst hs ha =>
      cases r
      have nS := I.listNotSys hS hs
      obtain ⟨its, rv, ⟨o, n, ho, hc, _, hd⟩, _⟩ := I.list hs
      obtain ⟨as, hr, nA⟩ := Dq.readsAll I hS ds _ its ha rv
      refine ⟨_, .list ho hc hd hr, fun z => ?_⟩
      rcases List.mem_cons.mp z with z | z
      · exact nS z.symm
      · exact nA z
  | .tuple ds, _, _, h, r => by
    cases h with
    | tup hs ha =>
      cases r
      obtain ⟨its, rv, ⟨o, ho, hc, n, hd⟩, _⟩ := I.tuple hs
      obtain ⟨as, hr, nA⟩ := Dq.readsAll I hS ds _ its ha rv
      exact ⟨_, .tuple ho hc hd hr, nA⟩
  | .dict kvs, _, _, h, r => by
    cases h with
    | @dic a0 hd =>
      cases r
      obtain ⟨_, nS, vs, rel, o, es, ep, ho, hx, hdd, _, hes, _⟩ := dk_of I.hok hd
      cases rel
      have ee : es = #[] := by
        have : es.toList = [] := by cases z : es.toList with | nil => rfl | cons a b => rw [z] at hes; cases hes
        exact Array.toList_eq_nil_iff.mp this
      subst ee
      refine ⟨_, .dict (kvs := []) (as := []) (bs := []) ho hx.1 hdd (by simpa using ReadsAll.nil) (by simpa using ReadsAll.nil), fun z => ?_⟩
      have z2 : sysModules = a0 := by simpa using z
      exact (beq_eq_false_iff_ne.mp nS) z2.symm
theorem Dq.readsAll (I : Inv X pins σ H s) (hS : sysOk X.K = true) : ∀ (ds : List PyData) (vs : List V) (us : List Value), DqAll X.K H vs ds → Vals vs us → ∃ as, ReadsAll s.heap us ds as ∧ sysModules ∉ as
  | [], _, _, h, r => by
    cases h; cases r
    exact ⟨[], .nil, by simp⟩
  | d :: ds, _, _, h, r => by
    cases h with
    | cons h1 h2 =>
      cases r with
      | cons r1 r2 =>
        obtain ⟨as, q1, n1⟩ := Dq.reads I hS d _ _ h1 r1
        obtain ⟨bs, q2, n2⟩ := Dq.readsAll I hS ds _ _ h2 r2
        exact ⟨_, .cons q1 q2, fun z => (List.mem_append.mp z).elim n1 n2⟩
end
/-- repr of a list or tuple of such data -/
def rRepr (K : PySem.W.Frag) : List V → Hp → VK → Prop := fun xs H Q => ∃ (a : Addr) (d : PyData), xs = [.ref a] ∧ Dq K H (.ref a) d ∧ d.showable = true ∧ d.depth ≤ 50 ∧ d.shown.length ≤ sizeLine ∧ Q (.str d.shown) H
theorem call_reprD (hS : sysOk X.K = true) (gA : X.A.guards = some []) {k : Nat} (hr : Room k X.A) : CallR X (.builtin "repr") (rRepr X.K) := by
  intro pins s σ H xs us Q I r h
  obtain ⟨a, d, rfl, hd, sh, dp, sz, q⟩ := h
  obtain ⟨u, rfl, ru⟩ := vals1 r
  obtain rfl : u = Value.ref a := ru
  obtain ⟨as, rd, nS⟩ := Dq.reads I hS d _ _ hd rfl
  have un := hr.un
  refine repr_of_reads' rd sh (fun _ => nS) gA (by omega) (fun _ _ e => e) (fun h' u tk keep => ?_) sz
  exact ⟨.str d.shown, H, I.kept (t' := tk) keep, ⟨u, rfl⟩, q⟩
end
end L2
namespace L2
open PySem PySem.Spec PyProof.Rows
mutual
theorem Dq.same {K : PySem.W.Frag} {H H' : Hp} (s : ∀ b o, H b = some o → H' b = some o) : ∀ {v : V} {d : PyData}, Dq K H v d → Dq K H' v d
  | _, _, .non => .non
  | _, _, .bl b => .bl b
  | _, _, .int i => .int i
  | _, _, .str x => .str x
  | _, _, .lst h t => .lst (by
      rcases h with (h | ⟨o, h⟩) | h
      · exact .inl (.inl (s _ _ h))
      · exact .inl (.inr ⟨o, s _ _ h⟩)
      · exact .inr h) (DqAll.same s t)
  | _, _, .tup h t => .tup (by
      rcases h with (h | ⟨o, h⟩) | h
      · exact .inl (.inl (s _ _ h))
      · exact .inl (.inr ⟨o, s _ _ h⟩)
      · exact .inr h) (DqAll.same s t)
  | _, _, .dic h => .dic (s _ _ h)
theorem DqAll.same {K : PySem.W.Frag} {H H' : Hp} (s : ∀ b o, H b = some o → H' b = some o) : ∀ {vs : List V} {ds : List PyData}, DqAll K H vs ds → DqAll K H' vs ds
  | _, _, .nil => .nil
  | _, _, .cons h t => .cons (Dq.same s h) (DqAll.same s t)
end
theorem DqAll.rep {K : PySem.W.Frag} {H : Hp} {v : V} {d : PyData} (h : Dq K H v d) : ∀ n, DqAll K H (List.replicate n v) (List.replicate n d)
  | 0 => .nil
  | n + 1 => .cons h (DqAll.rep h n)
end L2
namespace PySem.WX
open Builtin Builtin.ObjectAttr
section
variable {M : Model} {A : Around} {E : Value → Shared → Prop} {h : Heap} {g : Array GenState} {d : Drawn} {t : Nat} {os : OsState}
variable {nm q : Str} {C N : Addr} {bs bm bmB : List Value} {hdct : Bool} {sn : List Str} {sub : List Value} {ab : Bool} {col : Option Bool} {dd : Option Addr} {k0 k1 k2 k3 k5 : Option Value} {B newId initId : String}

theorem chkNewKw (FB : ExcBaseFacts B newId initId bmB) (same : ∀ z : String, bm.contains (.type z) = bmB.contains (.type z)) {pos : List Value} {kw : List (Str × Value)} {Q : Unit → Shared → Prop}
    (atC : h.get? C = some (excClassObj nm q C N bs bm hdct sn sub ab col dd k0 k1 k2 k3 k5 newId)) (fin : Q () ⟨h, g, d, t, os⟩) : wpAny M A (checkBuiltinCall newId ⟨.ref C :: pos, kw⟩) Q E ⟨h, g, d, t, os⟩ := by
  have inMro : (Value.ref C :: bm).contains (.type B) = true := by rw [List.contains_cons, same, FB.hasB]; exact Bool.or_true _
  have _st := FB.noStar
  simp only [checkBuiltinCall, FB.newKind, FB.newSplit, FB.newRow]
  repeat (first | refine wpAny_loadPart_at atC ?_ | (refine wpAny_isSubtype_exc atC ?_; rw [inMro]) | refine wpAny_staticBase_exc atC ?_ | refine wpAny_madeBy_exc atC ?_ | simp only [bne_self_eq_false, if_false, Bool.false_eq_true] | wp_step)
  exact fin
end
section
variable {prog : Program} {w : World} {A : Around} {E : Value → Shared → Prop} {R : Result → Shared → Prop} {h : Heap} {g : Array GenState} {d : Drawn} {t : Nat} {os : OsState}
variable {nm q : Str} {C N : Addr} {bs bm bmB : List Value} {hdct : Bool} {sn : List Str} {sub : List Value} {ab : Bool} {col : Option Bool} {dd : Option Addr} {k0 k1 k2 k3 k5 : Option Value} {B newId initId : String}
/-- the object as BaseException.__new__ lays it, its arguments' tuple at tp -/
abbrev bareO (C tp : Addr) : Obj := { cls := .ref C, data := .fields #[.ref tp, .none, .none, .none, .bool false, .none] }
abbrev tupO (vs : List Value) : Obj := { cls := .type "tuple", data := .seq vs.toArray }
theorem newKw (FB : ExcBaseFacts B newId initId bmB) (same : ∀ z : String, bm.contains (.type z) = bmB.contains (.type z)) {pos : List Value} {kw : List (Str × Value)}
    (atC : h.get? C = some (excClassObj nm q C N bs bm hdct sn sub ab col dd k0 k1 k2 k3 k5 newId))
    (fin : R (.ok (.ret (.ref (h.objs.size + 1)))) ⟨(h.push (tupO pos)).push (bareO C h.objs.size), g, d, t, os⟩) (few : pos.length ≤ sizeLine) :
    codeAny (model prog w) A (.builtin newId ⟨.ref C :: pos, kw⟩) R ⟨h, g, d, t, os⟩ := by
  have _e := FB.ends
  have inB : (Value.ref C :: bm).contains (.type B) = true := by rw [List.contains_cons, same, FB.hasB]; exact Bool.or_true _
  have inA : (Value.ref C :: bm).contains (.type "AttributeError") = false := by rw [List.contains_cons, same, FB.noAttr] <;> rfl
  have inN : (Value.ref C :: bm).contains (.type "NameError") = false := by rw [List.contains_cons, same, FB.noName] <;> rfl
  refine codeAny_builtinAt FB.entry ?_
  unfold «BaseException.__new__»
  refine wpAt_bind (show wpAt _ _ _ (stack >>= _) _ _ _ from wpAt_bind (wpAt_stack fun pp rest => wpAt_of_wpAny ?_))
  wp_walk
  refine wpAt_of_wpAny ?_
  rw [FB.owner]
  repeat (first | with_reducible refine wpAny_madeHere_exc FB.canon atC ?_ | with_reducible refine wpAny_loadPart_at atC ?_ | (with_reducible refine wpAny_isSubtype_exc atC ?_; first | rw [inB] | rw [inA] | rw [inN]) | wp_step)
  show R _ _
  rw [Heap.size_push] <;> exact fin
theorem tcallKw (FB : ExcBaseFacts B newId initId bmB) (same : ∀ z : String, bm.contains (.type z) = bmB.contains (.type z)) {pos : List Value} {kw : List (Str × Value)} {fI : Addr} {Q : Fin → Shared → Prop}
    (atC : h.get? C = some (excClassObj nm q C N bs bm hdct sn sub ab col dd k0 k1 k2 k3 k5 newId))
    (ini : W.Looks (model prog w) h (typeLookup (.ref C) "__init__") (some (.ref fI))) (bnd : ∀ self, W.Looks (model prog w) h (bindSpecial (.ref fI) self) (.ref fI, [self])) (few : pos.length ≤ sizeLine)
    (fin : codeAny (model prog w) A (.call (.ref fI) ⟨.ref (h.objs.size + 1) :: pos, kw⟩)
      (fun r s' => match r with | .ok (.ret v) => v = .none ∧ Q (.done (.ret (.ref (h.objs.size + 1)))) s' | .ok _ => False | .error x => E x s')
      ⟨(h.push (tupO pos)).push (bareO C h.objs.size), g, d, t, os⟩) :
    wpAny (model prog w) A (Builtin.«type.__call__» ⟨.ref C :: pos, kw⟩) Q E ⟨h, g, d, t, os⟩ := by
  repeat (first | with_reducible refine wpAny_loadPart_at atC ?_ | with_reducible refine wpAny_madeBy_exc atC ?_ | wp_step)
  refine codeAny_call_builtin_code (Code.quiet_builtin _ FB.quiet) (chkNewKw FB same atC (newKw FB same atC ?_ few))
  show wpAny _ _ _ _ _ _
  have up : ∀ b o, h.get? b = some o → ((h.push (tupO pos)).push (bareO C h.objs.size)).get? b = some o := fun b o e => Heap.get?_push_of_some _ (Heap.get?_push_of_some _ e)
  have atC1 := up _ _ atC
  have atX : ((h.push (tupO pos)).push (bareO C h.objs.size)).get? (h.objs.size + 1) = some (bareO C h.objs.size) := by heap_get
  have inC : (Value.ref C :: bm).contains (.ref C) = true := by simp
  unfold isInstance
  repeat (first | with_reducible refine wpAny_loadPart_at atX ?_ | (with_reducible refine wpAny_isSubtype_exc atC1 ?_; rw [inC]) | wp_step)
  show wpAny _ _ (typeLookup (.ref C) _) _ _ _
  refine (ini.keeps up).at (wpAny_holding (wpAny_bind (((bnd (.ref (h.objs.size + 1))).keeps up).at (wpAny_bind (wpAny_call (codeAny_mono fin fun r s' z => ?_))))))
  rcases r with e | (v | _ | _ | _) <;> first | exact z | exact z.elim | skip
  obtain ⟨rfl, z⟩ := z
  first
    | exact wpAny_pure (wpAny_pure z)
    | (wp_walk; exact z)
/-- C(.., k = ..): laid, then the own __init__ -/
theorem callKw (FB : ExcBaseFacts B newId initId bmB) (same : ∀ z : String, bm.contains (.type z) = bmB.contains (.type z)) {pos : List Value} {kw : List (Str × Value)} {fI : Addr}
    (atC : h.get? C = some (excClassObj nm q C N bs bm hdct sn sub ab col dd k0 k1 k2 k3 k5 newId))
    (ini : W.Looks (model prog w) h (typeLookup (.ref C) "__init__") (some (.ref fI))) (bnd : ∀ self, W.Looks (model prog w) h (bindSpecial (.ref fI) self) (.ref fI, [self])) (few : pos.length ≤ sizeLine)
    (fin : codeAny (model prog w) (A.under (.builtin "type.__call__" ⟨.ref C :: pos, kw⟩)) (.call (.ref fI) ⟨.ref (h.objs.size + 1) :: pos, kw⟩) (W.InitBack (h.objs.size + 1) R)
      ⟨(h.push (tupO pos)).push (bareO C h.objs.size), g, d, t, os⟩) :
    codeAny (model prog w) A (.call (.ref C) ⟨pos, kw⟩) R ⟨h, g, d, t, os⟩ := by
  have _f1 := tc_lookup
  have _f2 := tc_bind (.ref C)
  have isTy : (⟨h, g, d, t, os⟩ : Shared).TypeIs (.ref C) "type" := ⟨_, atC, rfl⟩
  refine codeAny_of_tree (show wpAny _ _ (callAny (.ref C) _) _ _ _ from ?_)
  repeat (any_goals (first | assumption | with_reducible refine wpAny_loadPart_at atC ?_ | wp_step))
  refine ⟨rfl, codeAny_call_builtin_at (Code.quiet_builtin _ (by decide +kernel)) entry_typeCall (wpAny_check_type_call_sub atC (tcallKw FB same atC ini bnd few ?_))⟩
  refine codeAny_mono fin fun r s' z => ?_
  rcases r with e | (v | _ | _ | _) <;> exact z
end
end PySem.WX
namespace PySem.WX
open PySem.W PySem.Calls PyProof.Rows
open Builtin.ObjectAttr
section
variable {prog : Program} {w : World} {A : Around} {E : Value → Shared → Prop} {s : Shared} {K : Frag} {C : Addr} {B : String} {bmB : List Value}
/-- the first attribute of an exception that has no dict yet -/
theorem setFirst {x tp : Addr} {f : Str} {v : Value} {Q : Unit → Shared → Prop} (SF : StoreFacts B bmB "object.__setattr__" "object") (kin : K.In s.heap) (atX : s.heap.get? x = some (bareO C tp))
    (sa : findIn K (.ref C) "__setattr__" = some (some (.builtin "object.__setattr__"))) (ov : excOver K C bmB = true) (nf : findIn K (.ref C) f = some none) (hd : hasDictIn K C = true)
    (fin : ∀ h' tk dx, (∀ b o, b ≠ x → s.heap.get? b = some o → h'.get? b = some o) → s.heap.objs.size ≤ dx → dx ≠ x → h'.get? x = some { cls := .ref C, dict := some dx, data := .fields #[.ref tp, .none, .none, .none, .bool false, .none] } →
      h'.Ns1 dx (fun y => if y = f then some v else none) → Q () { s with heap := h', toks := tk }) :
    wpAny (model prog w) A (setAttr (.ref x) f v) Q E s := by
  have xlt : x ≠ s.heap.objs.size := Nat.ne_of_lt (Heap.lt_size atX)
  obtain ⟨cd, isC, hasD⟩ := any_some hd
  have tk0 : takerIn K C f = some none := by unfold takerIn; rw [nf]; rfl
  refine set_plain (od := none) kin ⟨atX, rfl, rfl, trivial⟩ sa (osa_openX (od := none) (s := { s with toks := s.toks + 1 }) SF kin ⟨atX, rfl, rfl, trivial⟩ ov tk0 fun b => ?_)
  refine wpAny_bind (wpAny_pure (wpAny_bind (instanceDict_exc (c2 := .none) (s := { s with toks := s.toks + 1 }) atX (looks_clsIn kin isC) hasD ?_)))
  have old : ∀ b o, b ≠ x → s.heap.get? b = some o → ((s.heap.push (dictOf [] 0)).update x fun o => { o with dict := some s.heap.objs.size }).get? b = some o := fun b o nb e =>
    (Heap.get?_update_ne _ _ _ _ nb).trans (Heap.get?_push_of_some _ e)
  have newX : ((s.heap.push (dictOf [] 0)).update x fun o => { o with dict := some s.heap.objs.size }).get? x = some { cls := .ref C, dict := some s.heap.objs.size, data := .fields #[.ref tp, .none, .none, .none, .bool false, .none] } :=
    Heap.get?_update_self _ (Heap.get?_push_of_some _ atX) rfl
  refine PX.store_in_new ⟨_, #[], _, (Heap.get?_update_ne _ _ _ _ xlt.symm).trans (Heap.get?_push_at rfl rfl), rfl, fun e he => absurd he (by simp), fun _ => rfl⟩ fun h' tk' ns same => ?_
  exact fin h' tk' s.heap.objs.size (fun b o nb e => (same.2 b (Nat.ne_of_lt (Heap.lt_size e))).trans (old b o nb e)) (Nat.le_refl _) xlt.symm ((same.2 x xlt).trans newX) ns
end
end PySem.WX

namespace L2
open PySem PySem.Spec PyProof.Rows
/-- two new objects are laid and tracked at once -/
theorem Inv.twoNew {X : Cx} {pins : List (Addr × Obj)} {σ : St} {H : Hp} {s : Shared} {h' : Heap} {a d : Addr} {oa od : HO} {t' : Nat} (I : Inv X pins σ H s) (k : ∀ b u, s.heap.get? b = some u → h'.get? b = some u)
    (ha : s.heap.objs.size ≤ a) (hd : s.heap.objs.size ≤ d) (ne : a ≠ d) (xa : ObjOk X.prog X.w (upd (upd H d od) a oa) h' a oa) (xd : ObjOk X.prog X.w (upd (upd H d od) a oa) h' d od) :
    Inv X pins σ (upd (upd H d od) a oa) { s with heap := h', toks := t' } := by
  have na := I.hok.fresh ha
  have nd := I.hok.fresh hd
  have keepH : ∀ {b : Addr} {o : HO}, H b = some o → upd (upd H d od) a oa b = some o := fun {b o} e => by
    rw [upd_ne (ne_of_none e na), upd_ne (ne_of_none e nd)]; exact e
  have old : ∀ {b : Addr} {u : Obj}, s.heap.get? b = some u → b ≠ a ∧ b ≠ d := fun {b u} e =>
    ⟨Nat.ne_of_lt (Nat.lt_of_lt_of_le (Heap.lt_size e) ha), Nat.ne_of_lt (Nat.lt_of_lt_of_le (Heap.lt_size e) hd)⟩
  refine I.un (h' := h') (t' := t') ⟨fun b u e _ _ _ => k b u e, fun b u e _ _ _ => ⟨u.slots, k b u e⟩, fun b u e n _ => ?_, fun b u e _ => ⟨u, k b u e⟩, fun _ _ e => keepH e, fun _ _ _ e => keepH e, fun b ps e => ⟨#[], by rw [keepH e]; simp⟩⟩ fun b o e => ?_
  · rw [upd_ne (old e).1, upd_ne (old e).2]; exact n
  · by_cases h1 : b = a
    · subst h1
      rw [upd_same] at e; cases e; exact xa
    · by_cases h2 : b = d
      · subst h2
        rw [upd_ne h1, upd_same] at e; cases e; exact xd
      · rw [upd_ne h1, upd_ne h2] at e
        exact (I.hok b o e).stay (fun c v _ q => k c v q) (fun _ q => keepH q) fun _ _ q => keepH q
/-- what is asked of an own exception class at C whose built-in base is B -/
structure XCl (K : PySem.W.Frag) (C : Addr) (newId : String) (bmB : List Value) : Prop where
  q : PySem.W.excInitIn K C bmB newId = true
  ov : PySem.W.excOver K C bmB = true
  sa : PySem.W.findIn K (.ref C) "__setattr__" = some (some (.builtin "object.__setattr__"))
  ga : PySem.W.findIn K (.ref C) "__getattribute__" = some (some (.builtin "BaseException.__getattribute__"))
  gg : PySem.W.findIn K (.ref C) "__getattr__" = some none
  hd : PySem.W.hasDictIn K C = true
  xb : PySem.W.subIn K (.ref C) (.type "BaseException") = some true
  kp : PySem.W.keepIn K (.ref C) = true
  ic : PySem.W.isClsIn K C = true
  ca : PySem.W.findIn K (.ref C) "__class__" = some (some (.builtin "object.__class__"))
  sg : PySem.W.specialIn K (.builtin "object.__class__") "__get__" = some (some (.builtin "getset_descriptor.__get__"))
  tk : PySem.W.takesIn K (.builtin "object.__class__") = some true
  mo : PySem.W.mroIn K C (.type "object") = some true
def xclB (K : PySem.W.Frag) (C : Addr) (newId : String) (bmB : List Value) : Bool :=
  PySem.W.excInitIn K C bmB newId && (PySem.W.excOver K C bmB && (decide (PySem.W.findIn K (.ref C) "__setattr__" = some (some (.builtin "object.__setattr__")))
  && (decide (PySem.W.findIn K (.ref C) "__getattribute__" = some (some (.builtin "BaseException.__getattribute__"))) && (decide (PySem.W.findIn K (.ref C) "__getattr__" = some none)
  && (PySem.W.hasDictIn K C && (decide (PySem.W.subIn K (.ref C) (.type "BaseException") = some true) && (PySem.W.keepIn K (.ref C) && (PySem.W.isClsIn K C
  && (decide (PySem.W.findIn K (.ref C) "__class__" = some (some (.builtin "object.__class__"))) && (decide (PySem.W.specialIn K (.builtin "object.__class__") "__get__" = some (some (.builtin "getset_descriptor.__get__")))
  && (decide (PySem.W.takesIn K (.builtin "object.__class__") = some true) && decide (PySem.W.mroIn K C (.type "object") = some true))))))))))))
theorem xclB_ok {K : PySem.W.Frag} {C : Addr} {newId : String} {bmB : List Value} (h : xclB K C newId bmB = true) : XCl K C newId bmB := by
  unfold xclB at h
  simp only [Bool.and_eq_true, decide_eq_true_eq] at h
  obtain ⟨a, b, c, d, e, f, g, i, j, k, l, m, n⟩ := h
  exact ⟨a, b, c, d, e, f, g, i, j, k, l, m, n⟩

/-! ### __init__(self, f): self.f = f -/
def aF (f : Str) (p1 p2 : Pos) : Arguments := { posonlyargs := [], args := [{ arg := "self", annotation := none, pos := p1 }, { arg := f, annotation := none, pos := p2 }], vararg := none, kwonlyargs := [], kw_defaults := [], kwarg := none, defaults := [] }
def bF (f : Str) (q1 q2 q3 q4 : Pos) : List Stmt := [.Assign [.Attribute (.Name "self" q1) f q2] (.Name f q3) q4]
def sF (f : Str) : Scope := { kind := .function, names := [(PySem.Str.ofString "self", .local), (f, .local)], isGenerator := false, isCoroutine := false, more := [] }
/-- what is asked of the field's name: closed for a written one -/
structure FName (f : Str) : Prop where
  pos : ∀ (q : Str) (kV doc pm : Value) (an : Option Addr) (cdv ct : Value) (p1 p2 : Pos) (b : List Stmt) (x v : Value), bindArgs (PySem.W.fnOf "__init__" q (aF f p1 p2) b (sF f) .none kV doc pm an cdv ct) ⟨[x, v], []⟩ = pure [(("self" : Str), x), (f, v)]
  kw : ∀ (q : Str) (kV doc pm : Value) (an : Option Addr) (cdv ct : Value) (p1 p2 : Pos) (b : List Stmt) (x v : Value), bindArgs (PySem.W.fnOf "__init__" q (aF f p1 p2) b (sF f) .none kV doc pm an cdv ct) ⟨[x], [(f, v)]⟩ = pure [(("self" : Str), x), (f, v)]
  ks : List.all [(("self" : Str), Value.none), (f, Value.none)] (fun y => (sF f).names.lookup y.1 == some .local || (sF f).names.lookup y.1 == some .cell) = true
  lf : (sF f).names.lookup f = some .local
  ls : (sF f).names.lookup ("self" : Str) = some .local
  db : (f == ("__debug__" : Str)) = false
  ne : ("self" : Str) ≠ f
theorem ldL {M : Model} {s : Shared} {qual : Str} {scope : Scope} {L a : Addr} {cd : Value} {m : Str → Option Value} {x : Str} {pos : Pos} {v : Value} {Q : Value → Shared → Prop} {A : Around} {E : Value → Shared → Prop} (hn : s.heap.Ns L m) (hv : m x = some v) (h : Q v s)
    (hk : scope.kind = .function) (hl : (envOfC qual scope L a cd).kindOf x = some .local) (hd : (x == ("__debug__" : Str)) = false) :
    wpAny M A (eval (.Name x pos) (envOfC qual scope L a cd)) Q E s := wpAny_Name (wpAny_loadName_local hk hl hn hv h) hd
end L2
namespace L2
open PySem PySem.Spec PyProof.Rows
/-- where the class's own __init__ stands, storing its one argument under f -/
structure XIn (K : PySem.W.Frag) (C fI : Addr) (f : Str) : Prop where
  nf : PySem.W.findIn K (.ref C) f = some none
  iC : PySem.W.findIn K (.ref C) "__init__" = some (some (.ref fI))
  tC : PySem.W.typeIn K (.ref fI) = some (.type "function")
  fn : ∃ (q : Str) (oc : Value) (od : Option Addr) (kV doc pm : Value) (an : Option Addr) (cdv ct : Value) (osl : Array (Option Value)) (p1 p2 q1 q2 q3 q4 : Pos),
    K.lookup fI = some ⟨oc, od, .func (PySem.W.fnOf "__init__" q (aF f p1 p2) (bF f q1 q2 q3 q4) (sF f) .none kV doc pm an cdv ct), osl⟩ ∧ PySem.W.codeIn K cdv q = true
section
variable {prog : Program} {w : World} {A : Around} {E : Value → Shared → Prop} {R : Result → Shared → Prop} {s : Shared} {K : PySem.W.Frag} {C fI : Addr} {f : Str} {B newId initId : String} {bmB : List Value}
/-- what stands behind the making of C(v) -/
structure XMade (h h' : Heap) (e C d : Addr) (f : Str) (v : Value) : Prop where
  keep : ∀ b o, h.get? b = some o → h'.get? b = some o
  big : h.objs.size ≤ e
  dbig : h.objs.size ≤ d
  ne : e ≠ d
  obj : ∃ tp : Addr, h'.get? e = some ({ cls := .ref C, dict := some d, data := .fields #[.ref tp, .none, .none, .none, .bool false, .none] } : Obj)
  ns : h'.Ns1 d (fun y => if y = f then some v else none)
theorem xinit (SF : StoreFacts B bmB "object.__setattr__" "object") (T : XCl K C newId bmB) (J : XIn K C fI f) (N : FName f) {x tp : Addr} {v : Value} {args : Args} (kin : K.In s.heap) (lim : s.heap.NoLimit)
    (atX : s.heap.get? x = some (PySem.WX.bareO C tp)) (notK : K.lookup x = none) (room : A.depth < recursionLimit) (ha : args = ⟨[.ref x, v], []⟩ ∨ args = ⟨[.ref x], [(f, v)]⟩)
    (fin : ∀ h' tk dx, (∀ b o, b ≠ x → s.heap.get? b = some o → h'.get? b = some o) → s.heap.objs.size ≤ dx → dx ≠ x → h'.get? x = some { cls := .ref C, dict := some dx, data := .fields #[.ref tp, .none, .none, .none, .bool false, .none] } →
      h'.Ns1 dx (fun y => if y = f then some v else none) → R (.ok (.ret .none)) { s with heap := h', toks := tk }) :
    codeAny (model prog w) A (.call (.ref fI) args) R s := by
  obtain ⟨q, oc, od, kV, doc, pm, an, cdv, ct, osl, p1, p2, q1, q2, q3, q4, lk, cd⟩ := J.fn
  have bnd : ∀ s' : Shared, BindsTo s' (PySem.W.fnOf "__init__" q (aF f p1 p2) (bF f q1 q2 q3 q4) (sF f) .none kV doc pm an cdv ct) args [(("self" : Str), Value.ref x), (f, v)] := fun s' => by
    rcases ha with rfl | rfl
    · exact BindsTo.of_eq (N.pos q kV doc pm an cdv ct p1 p2 _ _ _)
    · exact BindsTo.of_eq (N.kw q kV doc pm an cdv ct p1 p2 _ _ _)
  refine Att.call_fn (binds := [(("self" : Str), Value.ref x), (f, v)]) kin lim lk cd room (bnd s) N.ks (fun s₁ IC => ?_) rfl rfl rfl
  obtain ⟨h₁, tk₁, rfl⟩ := IC.toInCall.same
  have up : ∀ b o, s.heap.get? b = some o → h₁.get? b = some o := IC.toInCall.keep
  have ns := IC.toInCall.ns
  have zf : (envOfC q (sF f) s.heap.objs.size fI cdv).kindOf f = some .local := N.lf
  have zs : (envOfC q (sF f) s.heap.objs.size fI cdv).kindOf "self" = some .local := N.ls
  show wpAny _ _ (execs _ _) _ _ _
  refine wpAny_execs_cons (plainObj_wpAny_Assign_Attribute ?_)
  refine ldL (v := v) ns ?_ (ldL (v := .ref x) ns ?_ ?_ rfl zs (by decide)) rfl zf N.db
  · simp [bindL, zf, zs, N.ne]
  · simp [bindL, zf, zs, N.ne]
  refine PySem.WX.setFirst (s := ⟨h₁, s.gens, s.drawn, tk₁, s.os⟩) SF (kin.keeps up) (up _ _ atX) T.sa T.ov J.nf T.hd fun h' tk' dx k n1 n2 ox nx => ?_
  show wpAny _ _ (execs _ _) _ _ _
  have z : s.heap.objs.size ≤ h₁.objs.size := Nat.le_of_lt ns.lt
  exact wpAny_execs_nil (fin h' tk' dx (fun b o nb e => k b o nb (up b o e)) (Nat.le_trans z n1) n2 ox nx)
theorem xmade (FB : ExcBaseFacts B newId initId bmB) (SF : StoreFacts B bmB "object.__setattr__" "object") (T : XCl K C newId bmB) (J : XIn K C fI f) (N : FName f) {v : Value} {args : Args} (kin : K.In s.heap) (lim : s.heap.NoLimit) (room : A.depth + 1 < recursionLimit)
    (ha : args = ⟨[v], []⟩ ∨ args = ⟨[], [(f, v)]⟩) (fin : ∀ h' tk e d, XMade s.heap h' e C d f v → R (.ok (.ret (.ref e))) { s with heap := h', toks := tk }) :
    codeAny (model prog w) A (.call (.ref C) args) R s := by
  obtain ⟨nm, N', qn, bs, bm, hdct, sn, sub, ab, col, dd, k0, k1, k2, k3, k5, atC, same⟩ := PySem.W.excInit_of kin T.q
  obtain ⟨hp, g, dr, tk, os⟩ := s
  have one : args.pos.length ≤ sizeLine := by
    rcases ha with rfl | rfl
    · rw [sizeLine_eq]; exact (by decide : 1 ≤ 16777216)
    · exact Nat.zero_le _
  have up : ∀ b o, hp.get? b = some o → ((hp.push (PySem.WX.tupO args.pos)).push (PySem.WX.bareO C hp.objs.size)).get? b = some o := fun b o e => Heap.get?_push_of_some _ (Heap.get?_push_of_some _ e)
  have atX : ((hp.push (PySem.WX.tupO args.pos)).push (PySem.WX.bareO C hp.objs.size)).get? (hp.objs.size + 1) = some (PySem.WX.bareO C hp.objs.size) := by heap_get
  have notK : K.lookup (hp.objs.size + 1) = none := by
    cases e : K.lookup (hp.objs.size + 1) with
    | none => rfl
    | some o => exact absurd (Nat.lt_of_succ_lt (Heap.lt_size (kin _ _ e))) (Nat.lt_irrefl _)
  refine PySem.WX.callKw (pos := args.pos) (kw := args.kw) FB same atC (PySem.W.looks_findIn kin J.iC) (fun self => PySem.W.bind_fn kin self J.tC) one ?_
  refine xinit (s := ⟨(hp.push (PySem.WX.tupO args.pos)).push (PySem.WX.bareO C hp.objs.size), g, dr, tk, os⟩) (v := v) SF T J N (kin.keeps up) (lim.keeps up) atX notK (show A.depth + 1 < recursionLimit from room) ?_ fun h' tk' dx k n1 n2 ox nx => ?_
  · rcases ha with rfl | rfl
    · exact .inl rfl
    · exact .inr rfl
  · have big : hp.objs.size + 1 + 1 ≤ dx := by
      first
        | (simpa only [Heap.size_push] using n1)
        | exact n1
    exact ⟨rfl, fin h' tk' (hp.objs.size + 1) dx ⟨fun b o e => k b o (Nat.ne_of_lt (Nat.lt_succ_of_lt (Heap.lt_size e))) (up b o e), Nat.le_succ _, Nat.le_trans (Nat.le_trans (Nat.le_succ _) (Nat.le_succ _)) big, fun z => n2 z.symm, ⟨_, ox⟩, nx⟩⟩
end
end L2
namespace L2
open PySem PySem.Spec PyProof.Rows
section
variable {X : Cx} {C fI : Addr} {f : Str} {B newId initId : String} {bmB : List Value} {pins : List (Addr × Obj)} {σ : St} {H : Hp} {s : Shared}
/-- the reading of C(e), C(f = e) -/
def tXc (f : Str) (C : Addr) (te : TE) : TE := fun σ H Q => te σ H fun v H1 => ∀ a d, H1 a = none → H1 d = none → a ≠ d → Q (.ref a) (upd (upd H1 d (exd d [(f, v)])) a (exo a C (some d)))
theorem run_xc (FB : ExcBaseFacts B newId initId bmB) (SF : StoreFacts B bmB "object.__setattr__" "object") (T : XCl X.K C newId bmB) (J : XIn X.K C fI f) (N : FName f) {k : Nat} (hr : Room k X.A) (hk : 1 ≤ k) {us : List Value} {kw : List (Str × Value)} {x : V} {u : Value} {Q : VK}
    (I : Inv X pins σ H s) (r : RelV x u) (ha : (us = [u] ∧ kw = []) ∨ (us = [] ∧ kw = [(f, u)])) (h : ∀ a d, H a = none → H d = none → a ≠ d → Q (.ref a) (upd (upd H d (exd d [(f, x)])) a (exo a C (some d)))) :
    wpAny (model X.prog X.w) X.A (call (.ref C) us kw) (EP X pins σ Q) X.xe s := by
  have lim := I.nolimit
  have rm : X.A.depth + 1 < recursionLimit := by have := hr.dp; omega
  obtain ⟨hp, g, dr, tk, os⟩ := s
  refine wpAny_call (xmade FB SF T J N (v := u) I.kIn lim rm (by rcases ha with ⟨rfl, rfl⟩ | ⟨rfl, rfl⟩ <;> first | exact .inl rfl | exact .inr rfl) fun h' tk' e d M => ?_)
  obtain ⟨tp, ox⟩ := M.obj
  have nd : H d = none := I.hok.fresh M.dbig
  have rel : ∀ g, RelO (([(f, x)] : List (Str × V)).lookup g) (if g = f then some u else none) := relO_put (fs := []) (mA := fun _ => none) r fun g => True.intro
  have J2 : Inv X pins σ (upd (upd H d (exd d [(f, x)])) e (exo e C (some d))) ⟨h', g, dr, tk', os⟩ := I.twoNew (t' := tk') M.keep M.big M.dbig M.ne (exo_ok ox) (exd_ok M.ns rel)
  exact ⟨.ref e, _, J2, rfl, h e d (I.hok.fresh M.big) nd M.ne⟩
variable {x : Str} {p pos kpos : Pos} {e : Expr} {te : TE} {k : Nat}
theorem pe_xcPos (FB : ExcBaseFacts B newId initId bmB) (SF : StoreFacts B bmB "object.__setattr__" "object") (T : XCl X.K C newId bmB) (J : XIn X.K C fI f) (N : FName f) (hr : Room k X.A) (hk : 1 ≤ k) (hg : Gl X x) (hm : X.mg x = some (.ref C)) (he : PE X e te)
    (hdb : (x == ("__debug__" : Str)) = false := by decide) (hst : starEach (e :: []) X.env = (false, eval e X.env) :: starEach [] X.env := by rfl) (hpl : (backTo pos (starEach [] X.env)).any (·.1) = false := by rfl) :
    PE X (.Call (.Name x p) [e] [] pos) (tXc f C te) := by
  refine ⟨fun pins s σ H Q I h => ?_⟩
  refine wpAny_Call_Name_kw (ld_glob I hg hm ?_ hdb)
  refine PySem.W.callWith_K (h₀ := X.base) I.ok.mod.kin T.kp (thn ((pa_cons he pa_nil hst).run pos pins s σ H (fun vs H1 => ∃ v, vs = [v] ∧ ∀ a d, H1 a = none → H1 d = none → a ≠ d → Q (.ref a) (upd (upd H1 d (exd d [(f, v)])) a (exo a C (some d)))) I ?_) fun us s1 hh => ?_) hst hpl
  · show te σ H _
    exact (show te σ H (fun v H1 => ∃ w, [v] = [w] ∧ _) from by
      have : (fun v H1 => ∃ w, [v] = [w] ∧ ∀ a d, H1 a = none → H1 d = none → a ≠ d → Q (.ref a) (upd (upd H1 d (exd d [(f, w)])) a (exo a C (some d)))) = fun v H1 => ∀ a d, H1 a = none → H1 d = none → a ≠ d → Q (.ref a) (upd (upd H1 d (exd d [(f, v)])) a (exo a C (some d))) := by
        funext v H1
        simp
      rw [this]
      exact h)
  · obtain ⟨vs, H1, I1, r1, v, ev, q1⟩ := hh
    subst ev
    obtain ⟨u, rfl, ru⟩ := vals1 r1
    exact ⟨I1.kIn, run_xc FB SF T J N hr hk I1 ru (.inl ⟨rfl, rfl⟩) q1⟩
theorem pe_xcKw (FB : ExcBaseFacts B newId initId bmB) (SF : StoreFacts B bmB "object.__setattr__" "object") (T : XCl X.K C newId bmB) (J : XIn X.K C fI f) (N : FName f) (hr : Room k X.A) (hk : 1 ≤ k) (hg : Gl X x) (hm : X.mg x = some (.ref C)) (he : PE X e te)
    (hall : (backToKw pos (keywordEach [⟨some f, e, kpos⟩] X.env)).all (·.1.isSome) = true := by rfl) (hks : (backToKw pos (keywordEach [⟨some f, e, kpos⟩] X.env)).filterMap (·.1) = [f] := by rfl) (hdb : (x == ("__debug__" : Str)) = false := by decide)
    (hpl : ((backTo pos (starEach [] X.env)).any (·.1) || (backToKw pos (keywordEach [⟨some f, e, kpos⟩] X.env)).any (·.1.isNone)) = false := by rfl) :
    PE X (.Call (.Name x p) [] [⟨some f, e, kpos⟩] pos) (tXc f C te) := by
  refine ⟨fun pins s σ H Q I h => ?_⟩
  refine wpAny_Call_Name_kw (ld_glob I hg hm ?_ hdb)
  refine PySem.W.callWith_KW0 (h₀ := X.base) I.ok.mod.kin T.kp hall ?_ hpl
  refine thn ((pk_cons (nm := some f) (kpos := kpos) he pk_nil).run pos pins s σ H (fun vs H1 => ∃ v, vs = [v] ∧ ∀ a d, H1 a = none → H1 d = none → a ≠ d → Q (.ref a) (upd (upd H1 d (exd d [(f, v)])) a (exo a C (some d)))) I ?_) fun ws s1 hh => ?_
  · show te σ H (fun v H1 => ∃ w, [v] = [w] ∧ ∀ a d, H1 a = none → H1 d = none → a ≠ d → Q (.ref a) (upd (upd H1 d (exd d [(f, w)])) a (exo a C (some d))))
    have : (fun v H1 => ∃ w, [v] = [w] ∧ ∀ a d, H1 a = none → H1 d = none → a ≠ d → Q (.ref a) (upd (upd H1 d (exd d [(f, w)])) a (exo a C (some d)))) = fun v H1 => ∀ a d, H1 a = none → H1 d = none → a ≠ d → Q (.ref a) (upd (upd H1 d (exd d [(f, v)])) a (exo a C (some d))) := by
      funext v H1
      simp
    rw [this]
    exact h
  · obtain ⟨vs, H1, I1, r1, v, ev, q1⟩ := hh
    subst ev
    obtain ⟨u, rfl, ru⟩ := vals1 r1
    refine ⟨I1.kIn, ?_⟩
    rw [hks]
    exact run_xc FB SF T J N hr hk I1 ru (.inr ⟨rfl, rfl⟩) q1
end
end L2
namespace L2
open PySem PySem.Spec PyProof.Rows
/-! ### __init__(self): pass -/
def a0 (p1 : Pos) : Arguments := { posonlyargs := [], args := [{ arg := "self", annotation := none, pos := p1 }], vararg := none, kwonlyargs := [], kw_defaults := [], kwarg := none, defaults := [] }
def s0 : Scope := { kind := .function, names := [(PySem.Str.ofString "self", .local)], isGenerator := false, isCoroutine := false, more := [] }
structure XIn0 (K : PySem.W.Frag) (C fI : Addr) : Prop where
  iC : PySem.W.findIn K (.ref C) "__init__" = some (some (.ref fI))
  tC : PySem.W.typeIn K (.ref fI) = some (.type "function")
  fn : ∃ (q : Str) (oc : Value) (od : Option Addr) (kV doc pm : Value) (an : Option Addr) (cdv ct : Value) (osl : Array (Option Value)) (p1 q1 : Pos),
    K.lookup fI = some ⟨oc, od, .func (PySem.W.fnOf "__init__" q (a0 p1) [.Pass q1] s0 .none kV doc pm an cdv ct), osl⟩ ∧ PySem.W.codeIn K cdv q = true
section
variable {X : Cx} {C fI : Addr} {f : Str} {B newId initId : String} {bmB : List Value} {x : Str} {p pos apos : Pos} {e : Expr} {te : TE} {k : Nat}
theorem pe_xc0 (FB : ExcBaseFacts B newId initId bmB) (T : XCl X.K C newId bmB) (J : XIn0 X.K C fI) (hr : Room k X.A) (hk : 1 ≤ k) (hg : Gl X x) (hm : X.mg x = some (.ref C)) (hdb : (x == ("__debug__" : Str)) = false := by decide) :
    PE X (.Call (.Name x p) [] [] pos) (fun _ H Q => ∀ a, H a = none → Q (.ref a) (upd H a (exo a C none))) := by
  refine ⟨fun pins s σ H Q I h => ?_⟩
  refine wpAny_Call_Name_kw (ld_glob I hg hm ?_ hdb)
  refine PySem.W.callWith_K0 I.kIn T.kp ?_
  have kin := I.kIn
  have lim := I.nolimit
  have rm : X.A.depth + 1 < recursionLimit := by have := hr.dp; omega
  obtain ⟨q, oc, od, kV, doc, pm, an, cdv, ct, osl, p1, q1, lk, cd⟩ := J.fn
  obtain ⟨nm, N', qn, bs, bm, hdct, sn, sub, ab, col, dd, k0, k1, k2, k3, k5, atC, same⟩ := PySem.W.excInit_of kin T.q
  obtain ⟨hp, g, dr, tk, os⟩ := s
  have up : ∀ b o, hp.get? b = some o → ((hp.push (PySem.WX.tupO [])).push (PySem.WX.bareO C hp.objs.size)).get? b = some o := fun b o z => Heap.get?_push_of_some _ (Heap.get?_push_of_some _ z)
  have atX : ((hp.push (PySem.WX.tupO [])).push (PySem.WX.bareO C hp.objs.size)).get? (hp.objs.size + 1) = some (PySem.WX.bareO C hp.objs.size) := by heap_get
  refine wpAny_call (PySem.WX.callKw (pos := []) (kw := []) FB same atC (PySem.W.looks_findIn kin J.iC) (fun self => PySem.W.bind_fn kin self J.tC) (Nat.zero_le _) ?_)
  refine Att.call_fn (s := ⟨(hp.push (PySem.WX.tupO [])).push (PySem.WX.bareO C hp.objs.size), g, dr, tk, os⟩) (binds := [(("self" : Str), Value.ref (hp.objs.size + 1))]) (kin.keeps up) (lim.keeps up) lk cd (show X.A.depth + 1 < recursionLimit from rm) (BindsTo.of_eq rfl) rfl (fun s₁ IC => ?_) rfl rfl rfl
  obtain ⟨h₁, tk₁, rfl⟩ := IC.toInCall.same
  have up1 := IC.toInCall.keep
  refine wpAny_execs_cons (wpAny_Pass (wpAny_execs_nil ?_))
  refine ⟨rfl, ?_⟩
  have big : hp.objs.size ≤ hp.objs.size + 1 := Nat.le_succ _
  have J2 : Inv X pins σ (upd H (hp.objs.size + 1) (exo (hp.objs.size + 1) C none)) ⟨h₁, g, dr, tk₁, os⟩ := I.laid (t' := tk₁) (fun b o z => up1 b o (up b o z)) big (exo_ok (up1 _ _ atX))
  exact ⟨.ref (hp.objs.size + 1), _, J2, rfl, h _ (I.hok.fresh big)⟩
/-- e.f of such an exception -/
def tXfl (K : PySem.W.Frag) (newId : String) (bmB : List Value) (f : Str) (te : TE) : TE := fun σ H Q => te σ H fun v H1 => ∃ (a C d : Addr) (fs : List (Str × V)) (y : V), v = .ref a ∧ H1 a = some (exo a C (some d)) ∧ H1 d = some (exd d fs) ∧ fs.lookup f = some y ∧
  XCl K C newId bmB ∧ PySem.W.findIn K (.ref C) f = some none ∧ Q y H1
theorem pe_xfl (he : PE X e te) (hb : attributeBase e f X.env (eval e X.env) = eval e X.env := by rfl) : PE X (.Attribute e f apos) (tXfl X.K newId bmB f te) := by
  refine ⟨fun pins s σ H Q I h => attr_of hb (thn (he.run pins s σ H _ I h) fun u s1 hh => ?_)⟩
  obtain ⟨v, H1, I1, rv, a, C, d, fs, y, rfl, ea, ed, lf, T, nf, q⟩ := hh
  obtain rfl : u = Value.ref a := rv
  obtain ⟨t1, ho⟩ := exo_at I1.hok ea
  obtain ⟨mA, ns, rel⟩ := exd_at I1.hok ed
  obtain ⟨od, hod, look⟩ := lookIn_ns ns
  obtain ⟨w0, hw, rw0⟩ := RelO.some_of (v := y) (o := mA f) (by rw [← lf]; exact rel f)
  have J : PySem.W.InstAt s1.heap a { cls := .ref C, dict := some d, data := .fields #[.ref t1, .none, .none, .none, .bool false, .none] } C (some od) := ⟨ho, rfl, rfl, hod⟩
  exact PySem.PX.exc_get I1.kIn J T.ga T.gg T.xb (PySem.W.findObj_own T.hd nf rfl (by rw [look, hw])) (handed_of rw0) ⟨y, H1, I1.tok _, rw0, q⟩
/-- isinstance of such an exception: one class, a written tuple of classes -/
def rIsX (K : PySem.W.Frag) (newId : String) (bmB : List Value) : List V → Hp → VK → Prop := fun xs H Q => ∃ (a C : Addr) (d : Option Addr) (c : V) (u : Value) (b : Bool), xs = [.ref a, c] ∧ H a = some (exo a C d) ∧ (∀ d', d = some d' → ∃ fs, H d' = some (exd d' fs)) ∧
  XCl K C newId bmB ∧ ClsV c u ∧ PySem.W.kitOne K (.ref C) u = some b ∧ Q (.bl b) H
def rIsXT (K : PySem.W.Frag) (newId : String) (bmB : List Value) : List V → Hp → VK → Prop := fun xs H Q => ∃ (a C tp : Addr) (d : Option Addr) (cs : List V) (us : List Value) (b : Bool), xs = [.ref a, .ref tp] ∧ H a = some (exo a C d) ∧ (∀ d', d = some d' → ∃ fs, H d' = some (exd d' fs)) ∧
  XCl K C newId bmB ∧ H tp = some (.tup cs) ∧ Paired ClsV cs us ∧ PySem.W.kitAny K (.ref C) us = some b ∧ Q (.bl b) H
theorem kitE {pins : List (Addr × Obj)} {σ : St} {H : Hp} {s : Shared} {a : Addr} {d : Option Addr} (I : Inv X pins σ H s) (ea : H a = some (exo a C d)) (hd : ∀ d', d = some d' → ∃ fs, H d' = some (exd d' fs)) (T : XCl X.K C newId bmB) :
    ∃ P : Heap → Prop, PySem.W.KitX X.K (.ref a) (.ref C) P ∧ P s.heap := by
  obtain ⟨t1, ho⟩ := exo_at I.hok ea
  have cl : (PySem.W.clsIn X.K C).isSome = true := T.ic
  cases d with
  | none => exact ⟨_, PySem.W.kitx_exc (od := none) cl T.ga T.gg T.xb T.ca T.sg T.tk T.mo, ⟨ho, rfl, rfl, trivial⟩⟩
  | some d =>
    obtain ⟨fs, ed⟩ := hd d rfl
    obtain ⟨mA, ns, rel⟩ := exd_at I.hok ed
    obtain ⟨od, hod, look⟩ := lookIn_ns ns
    exact ⟨_, PySem.W.kitx_exc (od := some od) cl T.ga T.gg T.xb T.ca T.sg T.tk T.mo, ⟨ho, rfl, rfl, hod⟩⟩
theorem call_isX : CallR X (.builtin "isinstance") (rIsX X.K newId bmB) := by
  intro pins s σ H xs us Q I r h
  obtain ⟨a, C, d, c, u, b, rfl, ea, hd, T, kc, kt, q⟩ := h
  obtain ⟨u1, u2, rfl, r1, r2⟩ := vals2 r
  obtain rfl : u1 = Value.ref a := r1
  obtain rfl : u2 = u := kc.eq r2
  obtain ⟨P, Z, pr⟩ := kitE I ea hd T
  exact PySem.W.kia_one Z I.kIn pr kt (fun z => nomatch z) fun tk => ⟨.bl b, H, I.tok tk, rfl, q⟩
theorem call_isXT : CallR X (.builtin "isinstance") (rIsXT X.K newId bmB) := by
  intro pins s σ H xs us Q I r h
  obtain ⟨a, C, tp, d, cs, ws, b, rfl, ea, hd, T, hT, kc, kt, q⟩ := h
  obtain ⟨u1, u2, rfl, r1, r2⟩ := vals2 r
  obtain rfl : u1 = Value.ref a := r1
  obtain rfl : u2 = Value.ref tp := r2
  obtain ⟨P, Z, pr⟩ := kitE I ea hd T
  obtain ⟨_, its, rv, o, h1, h2, n, h3⟩ := (show ObjOk X.prog X.w H s.heap tp (.tup cs) from I.hok tp _ hT)
  obtain rfl := ClsV.all kc rv
  obtain ⟨oc, od, dt, sl⟩ := o
  simp only at h2 h3
  subst h2 h3
  exact PySem.W.kia_tup Z I.kIn pr h1 kt (fun z => nomatch z) fun tk => ⟨.bl b, H, I.tok tk, rfl, q⟩
end
end L2
/-! new objects told by what stands: the old ones, and the new one -/
namespace L2
open PySem PySem.Spec PyProof.Rows
/-- a new object o at p, all others as they were -/
abbrev NewO (H : Hp) (o : HO) (Q : VK) : Prop := ∀ p H', Same H H' → H p = none → H' p = some o → Q (.ref p) H'
theorem Same.new {H : Hp} {p : Addr} {o : HO} (h : H p = none) : Same H (upd H p o) := fun b u e => by rw [upd_ne (ne_of_none e h)]; exact e
theorem NewO.at {H : Hp} {o : HO} {Q : VK} (h : NewO H o Q) : ∀ p, H p = none → Q (.ref p) (upd H p o) := fun p n => h p _ (Same.new n) n upd_same
section
variable {X : Cx} {f : Value → Value → Sem Value} {r r' : R2}
theorem OpR.imp (h : OpR X f r) (w : ∀ x y H Q, r' x y H Q → r x y H Q) : OpR X f r' := fun pins s σ H x y v u Q I rx ry z => h pins s σ H x y v u Q I rx ry (w _ _ _ _ z)
variable {g : Value} {q q' : List V → Hp → VK → Prop}
theorem CallR.imp (h : CallR X g q) (w : ∀ xs H Q, q' xs H Q → q xs H Q) : CallR X g q' := fun pins s σ H xs us Q I r z => h pins s σ H xs us Q I r (w _ _ _ z)
def rCatM : R2 := fun x y H Q => ∃ l b xs zs, x = .ref l ∧ y = .ref b ∧ H l = some (.lst xs) ∧ H b = some (.lst zs) ∧ xs.length + zs.length ≤ sizeLine ∧ NewO H (.lst (xs ++ zs)) Q
theorem op_catM : OpR X (binaryOp .Add) rCatM := op_cat.imp fun x y H Q ⟨l, b, xs, zs, a1, a2, a3, a4, a5, k⟩ => ⟨l, b, xs, zs, a1, a2, a3, a4, a5, k.at⟩
def rRepM : R2 := fun x y H Q => ∃ l k xs, x = .ref l ∧ y = .int k ∧ H l = some (.lst xs) ∧ -(2 ^ 63) ≤ k ∧ k < 2 ^ 63 ∧ xs.length * k.toNat ≤ sizeLine ∧ NewO H (.lst (List.replicate k.toNat xs).flatten) Q
theorem op_repM : OpR X (binaryOp .Mult) rRepM := op_rep.imp fun x y H Q ⟨l, k, xs, a1, a2, a3, a4, a5, a6, q⟩ => ⟨l, k, xs, a1, a2, a3, a4, a5, a6, q.at⟩
end
section
variable {X : Cx} {e : Expr} {es : List Expr} {te : TE} {t : TA} {pos : Pos}
def tTupM (t : TA) : TE := fun σ H Q => t σ H fun xs H1 => xs.length ≤ sizeLine ∧ NewO H1 (.tup xs) Q
def tLstM (t : TA) : TE := fun σ H Q => t σ H fun xs H1 => xs.length ≤ sizeLine ∧ NewO H1 (.lst xs) Q
theorem pe_tupM {x1} (h : PA X es t) : PE X (.Tuple es x1 pos) (tTupM t) := by
  refine ⟨fun pins s σ H Q I hq => wpAny_Tuple_spliced (thn (h.run pos pins s σ H _ I hq) fun us s1 ⟨xs, H1, I1, r, few, q⟩ => ⟨by rw [← r.length]; exact few, ?_⟩)⟩
  exact ⟨.ref s1.heap.objs.size, _, I1.laid (o := .tup xs) (t' := s1.toks) (fun b u z => Heap.get?_push_of_some _ z) (Nat.le_refl _) ⟨few, us, r, ⟨_, Heap.get?_push_size _ rfl, rfl, _, rfl⟩⟩, rfl, q.at _ (I1.hok.fresh (Nat.le_refl _))⟩
theorem pe_lstM (h : PA X es t) : PE X (.List es pos) (tLstM t) := by
  refine ⟨fun pins s σ H Q I hq => wpAny_List_spliced (thn (h.run pos pins s σ H _ I hq) fun us s1 ⟨xs, H1, I1, r, few, q⟩ => ⟨by rw [← r.length]; exact few, ?_⟩)⟩
  exact ⟨.ref s1.heap.objs.size, _, I1.laid (o := .lst xs) (t' := s1.toks) (fun b u z => Heap.get?_push_of_some _ z) (Nat.le_refl _) ⟨few, us, 0, r, Heap.get?_push_size _ rfl⟩, rfl, q.at _ (I1.hok.fresh (Nat.le_refl _))⟩
end
section
variable {X : Cx} {C fI : Addr} {f : Str} {B newId initId : String} {bmB : List Value} {x : Str} {p pos apos kpos : Pos} {e : Expr} {te : TE} {k : Nat}
/-- C(e) of an own error class: the new object and its dict -/
def tXcM (f : Str) (C : Addr) (te : TE) : TE := fun σ H Q => te σ H fun v H1 => ∀ a d H', Same H1 H' → H1 a = none → H' a = some (exo a C (some d)) → H' d = some (exd d [(f, v)]) → Q (.ref a) H'
theorem xcM {H1 : Hp} {v : V} {f : Str} {C : Addr} {Q : VK} (h : ∀ a d H', Same H1 H' → H1 a = none → H' a = some (exo a C (some d)) → H' d = some (exd d [(f, v)]) → Q (.ref a) H') : ∀ a d, H1 a = none → H1 d = none → a ≠ d → Q (.ref a) (upd (upd H1 d (exd d [(f, v)])) a (exo a C (some d))) := fun a d na nd ne =>
  h a d _ (fun b o z => by rw [upd_ne (ne_of_none z na), upd_ne (ne_of_none z nd)]; exact z) na upd_same (by rw [upd_ne ne.symm, upd_same])
theorem pe_xcPosM (FB : ExcBaseFacts B newId initId bmB) (SF : StoreFacts B bmB "object.__setattr__" "object") (T : XCl X.K C newId bmB) (J : XIn X.K C fI f) (N : FName f) (hr : Room k X.A) (hk : 1 ≤ k) (hm : X.mg x = some (.ref C)) (he : PE X e te) (hg : Gl X x := by rfl)
    (hdb : (x == ("__debug__" : Str)) = false := by decide) (hst : starEach (e :: []) X.env = (false, eval e X.env) :: starEach [] X.env := by rfl) (hpl : (backTo pos (starEach [] X.env)).any (·.1) = false := by rfl) :
    PE X (.Call (.Name x p) [e] [] pos) (tXcM f C te) := by
  refine ⟨fun pins s σ H Q I h => wpAny_Call_Name_kw (ld_glob I hg hm ?_ hdb)⟩
  refine PySem.W.callWith_K (h₀ := X.base) I.ok.mod.kin T.kp ?_ hst hpl
  have one : PA X [e] (fun σ H Q => te σ H fun v H1 => Q [v] H1) := pa_cons he pa_nil hst
  refine thn (one.run pos pins s σ H (fun vs H1 => ∃ v, vs = [v] ∧ ∀ a d H', Same H1 H' → H1 a = none → H' a = some (exo a C (some d)) → H' d = some (exd d [(f, v)]) → Q (.ref a) H') I ?_) fun us s1 hh => ?_
  · have same : (fun (v : V) (H1 : Hp) => ∃ w, [v] = [w] ∧ ∀ a d H', Same H1 H' → H1 a = none → H' a = some (exo a C (some d)) → H' d = some (exd d [(f, w)]) → Q (.ref a) H') = fun v H1 => ∀ a d H', Same H1 H' → H1 a = none → H' a = some (exo a C (some d)) → H' d = some (exd d [(f, v)]) → Q (.ref a) H' := by
      funext v H1
      simp
    show te σ H _
    rw [same]
    exact h
  · obtain ⟨vs, H1, I1, r1, v, rfl, q1⟩ := hh
    obtain ⟨u, rfl, ru⟩ := vals1 r1
    exact ⟨I1.kIn, run_xc FB SF T J N hr hk I1 ru (.inl ⟨rfl, rfl⟩) (xcM q1)⟩
theorem pe_xcKwM (FB : ExcBaseFacts B newId initId bmB) (SF : StoreFacts B bmB "object.__setattr__" "object") (T : XCl X.K C newId bmB) (J : XIn X.K C fI f) (N : FName f) (hr : Room k X.A) (hk : 1 ≤ k) (hm : X.mg x = some (.ref C)) (he : PE X e te) (hg : Gl X x := by rfl)
    (hall : (backToKw pos (keywordEach [⟨some f, e, kpos⟩] X.env)).all (·.1.isSome) = true := by rfl) (hks : (backToKw pos (keywordEach [⟨some f, e, kpos⟩] X.env)).filterMap (·.1) = [f] := by rfl) (hdb : (x == ("__debug__" : Str)) = false := by decide)
    (hpl : ((backTo pos (starEach [] X.env)).any (·.1) || (backToKw pos (keywordEach [⟨some f, e, kpos⟩] X.env)).any (·.1.isNone)) = false := by rfl) :
    PE X (.Call (.Name x p) [] [⟨some f, e, kpos⟩] pos) (tXcM f C te) := by
  refine ⟨fun pins s σ H Q I h => wpAny_Call_Name_kw (ld_glob I hg hm ?_ hdb)⟩
  refine PySem.W.callWith_KW0 (h₀ := X.base) I.ok.mod.kin T.kp hall ?_ hpl
  have one : PK X [⟨some f, e, kpos⟩] (fun σ H Q => te σ H fun v H1 => Q [v] H1) := pk_cons he pk_nil
  refine thn (one.run pos pins s σ H (fun vs H1 => ∃ v, vs = [v] ∧ ∀ a d H', Same H1 H' → H1 a = none → H' a = some (exo a C (some d)) → H' d = some (exd d [(f, v)]) → Q (.ref a) H') I ?_) fun ws s1 hh => ?_
  · have same : (fun (v : V) (H1 : Hp) => ∃ w, [v] = [w] ∧ ∀ a d H', Same H1 H' → H1 a = none → H' a = some (exo a C (some d)) → H' d = some (exd d [(f, w)]) → Q (.ref a) H') = fun v H1 => ∀ a d H', Same H1 H' → H1 a = none → H' a = some (exo a C (some d)) → H' d = some (exd d [(f, v)]) → Q (.ref a) H' := by
      funext v H1
      simp
    show te σ H _
    rw [same]
    exact h
  · obtain ⟨vs, H1, I1, r1, v, rfl, q1⟩ := hh
    obtain ⟨u, rfl, ru⟩ := vals1 r1
    refine ⟨I1.kIn, ?_⟩
    rw [hks]
    exact run_xc FB SF T J N hr hk I1 ru (.inr ⟨rfl, rfl⟩) (xcM q1)
end
end L2
namespace L2
open PySem PySem.Spec PyProof.Rows
/-- isinstance of an own error, whatever its built-in base -/
def rIsE (K : PySem.W.Frag) : List V → Hp → VK → Prop := fun xs H Q => ∃ (n : String) (b : List Value), rIsX K n b xs H Q
def rIsET (K : PySem.W.Frag) : List V → Hp → VK → Prop := fun xs H Q => ∃ (n : String) (b : List Value), rIsXT K n b xs H Q
theorem call_isE' {X : Cx} : CallR X (.builtin "isinstance") (rIsE X.K) := fun pins s σ H xs us Q I r h => h.elim fun n h => h.elim fun b h => call_isX (newId := n) (bmB := b) pins s σ H xs us Q I r h
theorem call_isET {X : Cx} : CallR X (.builtin "isinstance") (rIsET X.K) := fun pins s σ H xs us Q I r h => h.elim fun n h => h.elim fun b h => call_isXT (newId := n) (bmB := b) pins s σ H xs us Q I r h
end L2
namespace L2
open PySem PySem.Spec PyProof.Rows
/-- {} -/
def tDNewM : TE := fun _ H Q => NewO H (.dK []) Q
theorem pe_dnewM {X : Cx} {pos : Pos} : PE X (.Dict [] [] pos) tDNewM := ⟨fun pins s σ H Q I h =>
  (pe_dnewK (X := X) (pos := pos)).run pins s σ H Q I h.at⟩
theorem Same.sqT {K : PySem.W.Frag} {H H' : Hp} {a : Addr} {xs : List V} (e : Same H H') (h : SqT K H a xs) : SqT K H' a xs := by
  rcases h with (h | ⟨o, h⟩) | h
  · exact .inl (.inl (e _ _ h))
  · exact .inl (.inr ⟨o, e _ _ h⟩)
  · exact .inr h
end L2
/-! a, .., *rest = a tuple -/
namespace L2
open PySem PySem.Spec PyProof.Rows PySem.W PySem.Calls
section
variable {X : Cx} {pos : Pos}
/-- (a, .., *r) = a tuple of k values or more: the rest as a new list -/
def gRest (K : PySem.W.Frag) (k : Nat) (t : TGs) : TG := fun v σ H Q => ∃ a xs, v = .ref a ∧ SqT K H a xs ∧ k ≤ xs.length ∧ ∀ p H', Same H H' → H p = none → H' p = some (.lst (xs.drop k)) → t (xs.take k ++ [.ref p]) σ H' Q
theorem pgs_rest {e : Expr} {q : Pos} {es : List Expr} {t : TG} {u : TGs} (h1 : PG X e t) (h2 : PGs X es u)
    (hs : (assignEach (.Starred e q :: es) X.env).map (·.2) = assign e X.env :: (assignEach es X.env).map (·.2) := by rfl) : PGs X (.Starred e q :: es) (gCons t u) := by
  refine ⟨fun pins s σ H vs us Q I r h => ?_⟩
  obtain ⟨v, vr, e1, h⟩ := h
  subst e1
  cases r with
  | cons r rr =>
    rw [hs]
    refine assignInOrder_cons (thn (h1.run pins s σ H _ _ _ I r h) fun _ s1 ⟨σ1, H1, I1, q1⟩ => ?_)
    exact h2.run pins s1 σ1 H1 _ _ Q I1 rr q1
theorem pg_rest {es : List Expr} {m k : Nat} {t : TGs} (hc : X.calm = true) (h : PGs X es t)
    (hn : (assignEach es X.env).length = k + 1 := by rfl) (hst : (assignEach es X.env).findIdx? (·.1) = some k := by rfl) : PG X (.Tuple es m pos) (gRest X.K k t) := by
  refine ⟨fun pins s σ H v u Q I r hw => ?_⟩
  obtain ⟨l, xs, rfl, hq, hk, hw⟩ := hw
  cases r
  obtain ⟨its, rv, hl, hz⟩ := I.tuple hq
  have len := rv.length
  have few : its.toArray.size ≤ sizeLine := by simpa [← len] using hz
  have hki : k ≤ its.toArray.size := by simpa [← len] using hk
  rw [assign_Tuple]
  refine wpAny_bind (wpAny_standAt ?_)
  unfold unpack
  rw [hn, hst]
  refine wpAny_bind (wpAny_holding ?_)
  have hlt : l ≠ s.heap.objs.size := by obtain ⟨o, ho, _⟩ := hl; exact Nat.ne_of_lt (Heap.lt_size ho)
  unfold unpackItems
  refine wpAny_bind ?_
  unfold notIterableAtAll
  refine wpAny_bind (wpAny_specialOf hl.typeIs slot_tuple_iter.lookup ?_)
  refine wpAny_pure ?_
  simp only [Bool.false_eq_true, if_false]
  refine wpAny_bind (wpAny_holding (iter_tuple hl ?_))
  refine wpAny_bind (wpAny_holding (draw_tuple hlt k 0 _ _ ⟨_, Heap.get?_push_size _ rfl, rfl, rfl⟩ (hl.push _) (by omega) fun h₁ hit₁ hs₁ => ?_))
  have hl₁ : IsTup h₁ l its.toArray := (hl.push _).extBut hs₁.extBut hlt
  rw [Nat.zero_add] at hit₁
  obtain ⟨oi, hoi, _⟩ := id hit₁
  obtain ⟨ol, hol, _⟩ := id hl₁
  rw [List.drop_zero]
  have hfl : (its.toArray.toList.take k).length = k := by rw [List.length_take, Array.length_toList]; omega
  rw [if_neg (show ¬ ((its.toArray.toList.take k).length < k) by rw [hfl]; omega)]
  refine wpAny_bind (wpAny_holding (kun_collect (s := { s with heap := h₁ }) (T := "tuple_iterator") (.inr (.inr (.inr rfl))) (Walks.tuple (A := X.A.in1) (I.ok.hd hc) s.heap.objs.size l hlt its.toArray) (fun j u st => st.1.typeIs) (k := k) (by omega) ⟨hit₁, hl₁⟩ (Heap.lt_size hoi) (Heap.lt_size hol) (fun h₂ tk hk2 => ?_) few))
  have z0 : k + 1 - 1 - k = 0 := by omega
  rw [z0]
  show wpAny _ _ (if (its.toArray.toList.drop k).length < 0 then _ else _) _ _ _
  rw [if_neg (by omega)]
  show wpAny _ _ (newList ((its.toArray.toList.drop k).take ((its.toArray.toList.drop k).length - 0)) >>= fun d => pure (its.toArray.toList.take k ++ [d] ++ (its.toArray.toList.drop k).drop ((its.toArray.toList.drop k).length - 0))) _ _ _
  have e1 : (its.toArray.toList.drop k).take ((its.toArray.toList.drop k).length - 0) = its.drop k := by rw [Nat.sub_zero, List.take_length]
  have e2 : its.toArray.toList.take k ++ [Value.ref h₂.objs.size] ++ (its.toArray.toList.drop k).drop ((its.toArray.toList.drop k).length - 0) = its.take k ++ [Value.ref h₂.objs.size] := by rw [Nat.sub_zero, List.drop_length, List.append_nil]
  rw [e1]
  have I1 : Inv X pins σ H { s with heap := h₂, toks := tk } := I.kept (t' := tk) fun b o e => hk2 b o (Nat.ne_of_lt (Heap.lt_size e)) (hs₁.extBut b o (Nat.ne_of_lt (Heap.lt_size e)) (Heap.get?_push_of_some _ e))
  have szd : (xs.drop k).length ≤ sizeLine := by rw [List.length_drop]; omega
  refine wpAny_bind (wpAny_newList (wpAny_pure ?_))
  show wpAny _ _ (assignInOrder _ (its.toArray.toList.take k ++ [Value.ref h₂.objs.size] ++ (its.toArray.toList.drop k).drop ((its.toArray.toList.drop k).length - 0))) _ _ _
  rw [e2]
  have I2 := I1.lnew (t' := tk) (rv.drop k) szd
  exact h.run pins _ σ _ _ _ Q I2 ((rv.take k).append (.cons (show RelV (.ref h₂.objs.size) (.ref h₂.objs.size) from rfl) .nil)) (hw _ _ (Same.new I1.fresh) I1.fresh upd_same)
end
end L2
/-! a def's promise where nothing is being shown (repr) around it -/
namespace L2
open PySem PySem.Spec PyProof.Rows
structure FnG (P : Program) (w : World) (K : PySem.W.Frag) (mg : Str → Option Value) (base : Heap) (CX : CXT) (k : Nat) (f : Addr) (fd : FuncData) (ps : List Str) (sp : Sp) : Prop where
  len : ∀ vs H Q E, sp vs H Q E → vs.length = ps.length
  run : ∀ (A : Around) (outer : List Env) (s : Shared) (H : Hp) (args : Args) (us : List Value) (vs : List V) (Q : VK) (E : XK), A.guards = some [] → Room k A → Env0 P w K mg base A outer s H → BindsTo s fd args (ps.zip us) → Vals vs us →
    sp vs H Q E → codeAny (model P w) A (.call (.ref f) args) (CR CX outer P w H s Q E) s
section
variable {P : Program} {w : World} {K : PySem.W.Frag} {mg : Str → Option Value} {base : Heap} {CX : CXT} {k : Nat} {f : Addr} {fd : FuncData} {ps : List Str} {sp : Sp}
theorem FnOk.toG (F : FnOk P w K mg base CX k f fd ps sp) : FnG P w K mg base CX k f fd ps sp := ⟨F.len, fun A o s H a us vs Q E _ => F.run A o s H a us vs Q E⟩
theorem FnG.mono {j : Nat} (F : FnG P w K mg base CX j f fd ps sp) (h : j ≤ k) : FnG P w K mg base CX k f fd ps sp := ⟨F.len, fun A o s H a us vs Q E g r => F.run A o s H a us vs Q E g (r.mono h)⟩
/-- THE RULE, with the word that no repr is under way -/
theorem fnG_of {name qual : Str} {params : Arguments} {body : List Stmt} {scope : Scope} {dV kV doc pm cdv ct oc : Value} {an od : Option Addr} {osl : Array (Option Value)} {N : List Str}
    (lk : K.lookup f = some ⟨oc, od, .func (PySem.W.fnOf name qual params body scope dV kV doc pm an cdv ct), osl⟩) (cdo : PySem.W.codeIn K cdv qual = true) (S : FnScope N ps scope) (len : ∀ vs H Q E, sp vs H Q E → vs.length = ps.length)
    (hb : ∀ (A : Around) (outer : List Env) (s : Shared) (H : Hp) (vs : List V) (Q : VK) (E : XK), A.guards = some [] → Room k (A.deeper (envOfC qual scope s.heap.objs.size f cdv)) → sp vs H Q E →
      ∃ t, PSs (cxOf CX P w K mg base N qual scope f cdv A outer s H E) body t ∧ t { nx := fun _ H' => Q .non H', rt := Q } (start N vs) H) :
    FnG P w K mg base CX (k + 1) f (PySem.W.fnOf name qual params body scope dV kV doc pm an cdv ct) ps sp := by
  refine ⟨len, fun A outer s H args us vs Q E gA room e0 bnd rv pr => ?_⟩
  have kin : K.In s.heap := e0.mod.kin.keeps fun b o z => (e0.bs b o z).1
  have noLim : s.heap.NoLimit := e0.mod.nolimit.keeps fun b o z => (e0.bs b o z).1
  refine codeAny_call_function room.depth (kin _ _ lk) rfl S.co S.gen rfl (PySem.W.codeRec_of kin cdo) (bnd _ _ _ _ (wpAny_newFunctionEnv_cells S.kind (fun y hy => ?_) fun env same s1 IC => ?_))
  · rcases S.par y.1 (List.of_mem_zip (show (y.1, y.2) ∈ ps.zip us from hy)).1 with z | z
    · exact .inl z
    · exact .inr ⟨z, PySem.W.cellsFrom_some _ _ _ (.inl z)⟩
  subst same
  obtain ⟨t, pt, rd⟩ := hb A outer s H vs Q E gA (room.deeper _) pr
  have I0 : Inv (cxOf CX P w K mg base N qual scope f cdv A outer s H E) [] (start N vs) H s1 := inv_start S room.hd e0 (len _ _ _ _ pr) rv IC
  refine ⟨noLim.keeps IC.toInCall.keep, codeAny_func (wpAny_mono (pt.run [] s1 (start N vs) H _ I0 rd) (fun fl s' z => ?_) fun e s' z => z)⟩
  cases fl with
  | ret u =>
    obtain ⟨v, σ', H', J, r2, q⟩ := z
    exact ⟨v, H', J.os, J.bare, J.base, J.hok, r2, q⟩
  | next =>
    obtain ⟨σ', H', J, q⟩ := z
    exact ⟨V.non, H', J.os, J.bare, J.base, J.hok, rfl, q⟩
  | brk => exact z.elim fun _ y => y.elim fun _ y => y.2.elim
  | cont => exact z.elim fun _ y => y.elim fun _ y => y.2.elim
theorem FunD.okG {x qual : Str} {params : Arguments} {body : List Stmt} {scope : Scope} {dvs : List V} {kws : List (Str × V)} {N : List Str} (F : FunD K x qual params body scope dvs kws f fd) (S : FnScope N ps scope) (len : ∀ vs H Q E, sp vs H Q E → vs.length = ps.length)
    (hb : ∀ (cdv : Value) (A : Around) (outer : List Env) (s : Shared) (H : Hp) (vs : List V) (Q : VK) (E : XK), A.guards = some [] → Room k (A.deeper (envOfC qual scope s.heap.objs.size f cdv)) → sp vs H Q E →
      ∃ t, PSs (cxOf CX P w K mg base N qual scope f cdv A outer s H E) body t ∧ t { nx := fun _ H' => Q .non H', rt := Q } (start N vs) H) : FnG P w K mg base CX (k + 1) f fd ps sp := by
  obtain ⟨oc, od, dV, kV, doc, pm, an, cdv, ct, osl, rfl, lk, cdo, _, _⟩ := F.ex
  exact fnG_of lk cdo S len fun A outer s H vs Q E g r p => hb cdv A outer s H vs Q E g r p
end
section
variable {X : Cx} {CX : CXT} {k : Nat} {f : Addr} {fd : FuncData} {ps : List Str} {sp : Sp} {ds : List Value} {dvs : List V} {E : XK} {x : Str} {p pos : Pos} {e : Expr} {es : List Expr} {t : TA}
/-- f(e, ..) of such a def -/
theorem pe_callG (F : FnG X.prog X.w X.K X.mg X.base CX k f fd ps sp) (gA : X.A.guards = some []) (hr : Room k X.A) (hg : Gl X x) (hm : X.mg x = some (.ref f)) (hk : PySem.W.keepIn X.K (.ref f) = true) (hb : Binds X.K fd ps ds) (hd : Vals dvs ds) (hx : Passes CX X E)
    (ha : PA X (e :: es) t) (hdb : (x == ("__debug__" : Str)) = false := by decide) (hst : starEach (e :: es) X.env = (false, eval e X.env) :: starEach es X.env := by rfl) (hpl : (backTo pos (starEach es X.env)).any (·.1) = false := by rfl) :
    PE X (.Call (.Name x p) (e :: es) [] pos) (tCall sp dvs E t) := by
  refine ⟨fun pins s σ H Q I h => wpAny_Call_Name_kw (ld_glob I hg hm ?_ hdb)⟩
  refine PySem.W.callWith_K (h₀ := X.base) I.ok.mod.kin hk (thn (ha.run pos pins s σ H _ I h) fun us s1 ⟨vs, H1, I1, r, q⟩ => ⟨I1.kIn, ?_⟩) hst hpl
  have r2 : Vals (vs ++ dvs) (us ++ ds) := r.append hd
  refine wpAny_call (codeAny_mono (F.run X.A X.stack s1 H1 ⟨us, []⟩ (us ++ ds) (vs ++ dvs) Q E gA hr I1.env0 (hb s1 us I1.kIn (by rw [← r2.length]; exact F.len _ _ _ _ q)) r2 q) fun r s' z => ?_)
  cases r with
  | error y => exact hx pins σ H1 s1 y s' I1 z
  | ok fl =>
    cases fl with
    | ret u => exact I1.after z
    | next => exact z.elim
    | brk => exact z.elim
    | cont => exact z.elim
end
/-- the script: a list that is known to the object, or one of the module's own -/
def ScrL (K : PySem.W.Frag) (H : Hp) (a : Addr) (xs : List V) : Prop :=
  (∃ o, H a = some (.frz o (.lst xs))) ∨ ∃ its : List Value, K.lookup a = some { cls := .type "list", data := .seq its.toArray } ∧ its.length ≤ sizeLine ∧ Vals xs its
theorem ScrL.seq {K : PySem.W.Frag} {H : Hp} {a : Addr} {xs : List V} (h : ScrL K H a xs) : SqL K H a xs := by
  rcases h with ⟨o, h⟩ | ⟨its, h1, h2, h3⟩
  · exact .inl (.inr ⟨o, h⟩)
  · exact .inr ⟨_, its.toArray, _, h1, rfl, rfl, rfl, by simpa using h2, by simpa using h3⟩
theorem ScrL.same {K : PySem.W.Frag} {H H' : Hp} {a : Addr} {xs : List V} (h : ScrL K H a xs) (e : ∀ b o, H b = some o → H' b = some o) : ScrL K H' a xs := by
  rcases h with ⟨o, h⟩ | h
  · exact .inl ⟨o, e _ _ h⟩
  · exact .inr h
/-- the script + [..] -/
def rCatS (K : PySem.W.Frag) : R2 := fun x y H Q => ∃ l b xs zs, x = .ref l ∧ y = .ref b ∧ ScrL K H l xs ∧ H b = some (.lst zs) ∧ xs.length + zs.length ≤ sizeLine ∧ ∀ p, H p = none → Q (.ref p) (upd H p (.lst (xs ++ zs)))
theorem op_catS {X : Cx} : OpR X (binaryOp .Add) (rCatS X.K) := by
  intro pins s σ H x y v u Q I rx ry h
  obtain ⟨l, b, xs, zs, rfl, rfl, hS, hB, few, q⟩ := h
  obtain rfl : v = Value.ref l := rx
  obtain rfl : u = Value.ref b := ry
  obtain ⟨its, n, rv, lv, at_l⟩ : ∃ (its : List Value) (n : Nat), Vals xs its ∧ xs.length = its.length ∧ s.heap.get? l = some { cls := .type "list", data := .seq its.toArray n } := by
    rcases hS with ⟨o, h⟩ | ⟨its, h1, h2, h3⟩
    · obtain ⟨_, _, its, n, r, z⟩ := (show ObjOk X.prog X.w H s.heap l (.frz o (.lst xs)) from I.hok l _ h)
      exact ⟨its, n, r, r.length, z⟩
    · exact ⟨its, _, h3, h3.length, I.kIn _ _ h1⟩
  obtain ⟨_, its2, n2, rv2, lv2, at_b⟩ := I.lstM hB
  refine PySem.P.add_list at_l at_b ?_ (by rw [List.size_toArray, List.size_toArray]; omega)
  rw [show its.toArray ++ its2.toArray = (its ++ its2).toArray by simp]
  exact ⟨.ref _, _, I.lnew (t' := s.toks) (rv.append rv2) (by rw [List.length_append]; omega), rfl, q _ I.fresh⟩
/-- the law's own call -/
theorem lawG {P : Program} {w : World} {K : PySem.W.Frag} {mg mb : Str → Option Value} {CX : CXT} {k : Nat} {fa a : Addr} {fd : FuncData} {x : Str} {sp : Sp} {s₁ : Shared} {vs : List Value} {ns : List Int}
    (kin : K.In s₁.heap) (gl : s₁.heap.Ns mainGlobals mg) (bl : s₁.heap.Ns builtinsNs mb) (bb : ∀ y : Str, y ≠ "__name__" → mb y = bootBuiltins y) (nl : s₁.heap.NoLimit) (gn : s₁.gens = #[])
    (hs : s₁.heap.get? a = some { cls := .type "list", data := .seq vs.toArray }) (hi : IntsAre vs ns) (hl : ns.length ≤ sizeLine) (hr : Room k callerA)
    (F : ∀ base : Heap, K.In base → base.Ns mainGlobals mg → FnG P w K mg base CX k fa fd [x] sp) (bnd : ∀ (s : Shared) (u : Value), BindsTo s fd ⟨[u], []⟩ [(x, u)])
    (pr : ∀ H : Hp, Only H → ScrL K H a (ns.map V.int) → sp [.ref a] H (fun v _ => v = .bl true) fun _ _ _ => False) (no : ∀ H e s', CX [] H s₁ (fun _ _ _ => False) e s' → False) :
    codeAny (model P w) callerA (.call (.ref fa) ⟨[.ref a], []⟩) (fun r s' => r = .ok (.ret (.bool true)) ∧ OldK s₁.heap s'.heap ∧ s'.os = s₁.os ∧ AllBare s'.gens) s₁ := by
  have main : ∀ H : Hp, Only H → ScrL K H a (ns.map V.int) → HOk P w H s₁.heap → (∀ b u, H b = some u → b = a ∧ K.lookup a = none) →
      codeAny (model P w) callerA (.call (.ref fa) ⟨[.ref a], []⟩) (fun r s' => r = .ok (.ret (.bool true)) ∧ OldK s₁.heap s'.heap ∧ s'.os = s₁.os ∧ AllBare s'.gens) s₁ := by
    intro H only sq ok at_a
    have toB : ∀ {b : Addr} {o : Obj}, s₁.heap.get? b = some o → H b = none → (hidT s₁.heap H).get? b = some o := fun z n => hidT_get z n
    have dictFree : ∀ {b : Addr} {o : Obj} {es : Array DictEntry} {ep : Nat}, s₁.heap.get? b = some o → o.data = .dict es ep → H b = none := fun {b o es ep} z dz => by
      cases q : H b with
      | none => rfl
      | some u =>
        obtain ⟨rfl, _⟩ := at_a b u q
        rw [hs] at z
        cases z
        exact nomatch (show Data.seq vs.toArray _ = Data.dict es ep from dz)
    have toNs : ∀ {b : Addr} {m : Str → Option Value}, s₁.heap.Ns b m → (hidT s₁.heap H).Ns b m := fun ⟨o, es, ep, z, dz, r⟩ => ⟨o, es, ep, toB z (dictFree z dz), dz, r⟩
    have kinB : K.In (hidT s₁.heap H) := fun b o z => toB (kin b o z) (by
      cases q : H b with
      | none => rfl
      | some u =>
        obtain ⟨rfl, n⟩ := at_a b u q
        rw [n] at z
        cases z)
    have M : Mod K mg (hidT s₁.heap H) := ⟨kinB, toNs gl, ⟨mb, toNs bl, bb⟩, nl.elim fun mc z => ⟨mc, toNs z.1, z.2⟩⟩
    have E0' : Env0 P w K mg (hidT s₁.heap H) callerA [] s₁ H := ⟨rfl, M, fun b o z => of_hidT z, Nat.le_of_eq (hidT_size _ _), trivial, fun b z => absurd (show b ∈ ([] : List Addr) from z) (by simp), ok, .of_eq gn⟩
    refine codeAny_mono ((F _ kinB (toNs gl)).run callerA [] s₁ H ⟨[.ref a], []⟩ [.ref a] [.ref a] _ _ rfl hr E0' (bnd s₁ (.ref a)) (.cons rfl .nil) (pr H only sq)) fun r s' z => ?_
    cases r with
    | error y => exact (no H y s' z).elim
    | ok fl =>
      cases fl with
      | next => exact z.elim
      | brk => exact z.elim
      | cont => exact z.elim
      | ret u =>
        obtain ⟨v, H', os, bare, un, ok', rv, q⟩ := z
        obtain rfl : v = .bl true := q
        obtain rfl : u = Value.bool true := rv
        refine ⟨rfl, OldK.of_keep fun b o z => ?_, os, bare⟩
        rcases only b with n | ⟨ob, xs, n⟩
        · exact un.keep b o z n (fun y => absurd (show b ∈ ([] : List Addr) from y) (by simp)) (by simp)
        · obtain ⟨e2, _⟩ := ok' b _ (un.frzs b ob _ n)
          obtain ⟨e1, _⟩ := ok b _ n
          rw [e1] at z
          cases z
          exact e2
  have lenV := hi.length
  cases kc : K.lookup a with
  | some o =>
    have z := kin a o kc
    rw [hs] at z
    cases z
    exact main (fun _ => none) (fun _ => .inl rfl) (.inr ⟨vs, kc, by rw [lenV]; exact hl, vals_ints hi⟩) (fun b u z => nomatch (show (none : Option HO) = some u from z)) fun b u z => nomatch (show (none : Option HO) = some u from z)
  | none =>
    have hH : ∀ b u, (if b = a then some (HO.frz { cls := .type "list", data := .seq vs.toArray } (.lst (ns.map V.int))) else none) = some u → b = a ∧ u = HO.frz { cls := .type "list", data := .seq vs.toArray } (.lst (ns.map V.int)) := fun b u z => by
      by_cases e : b = a
      · rw [if_pos e] at z
        exact ⟨e, (Option.some.inj z).symm⟩
      · rw [if_neg e] at z
        cases z
    refine main (fun b => if b = a then some (.frz { cls := .type "list", data := .seq vs.toArray } (.lst (ns.map V.int))) else none) (fun b => ?_) (.inl ⟨_, if_pos rfl⟩) (fun b u z => ?_) fun b u z => ⟨(hH b u z).1, kc⟩
    · by_cases e : b = a
      · exact .inr ⟨_, _, if_pos e⟩
      · exact .inl (if_neg e)
    · obtain ⟨rfl, rfl⟩ := hH b u z
      exact ⟨hs, by rw [List.length_map]; exact hl, vs, _, vals_ints hi, hs⟩
/-- the walk's end over a head by facts, for such a promise -/
theorem walkG {l : PySem.W.OpenLaw} {n k : Nat} {q : Program} {loose : List Str} {XP : (Str → Option Value) → Heap → Prop} {YP : World → Heap → Prop} {d : DefRec} {CX : CXT} {x : Str} (most : l.most = some n) (fits : n ≤ sizeLine) (nod : d.params.defaults = []) (hr : Room k callerA)
    (F : ∀ (w : World) (mg : Str → Option Value) (fa : Addr) (h : Heap), YP w h → h.Ns mainGlobals mg → mg d.name = some (.ref fa) →
      ∃ (K : PySem.W.Frag) (fd : FuncData) (sp : Sp), K.In h ∧ (∀ (s : Shared) (u : Value), BindsTo s fd ⟨[u], []⟩ [(x, u)]) ∧
        (∀ (H : Hp) (a : Addr) (ns : List Int), ns.length ≤ n → Only H → ScrL K H a (ns.map V.int) → sp [.ref a] H (fun v _ => v = .bl true) fun _ _ _ => False) ∧
        ∀ base : Heap, K.In base → base.Ns mainGlobals mg → FnG l.prog w K mg base CX k fa fd [x] sp)
    (no : ∀ (H : Hp) (s : Shared) (e : Value) (s' : Shared), CX [] H s (fun _ _ _ => False) e s' → False) : PySem.W.WalkO q loose XP YP l.row.toRowW d [] (fun f vs => PySem.call f vs) := by
  refine Att.attach_call most nod fun w s₀ s₁ mg mb fa o pm cd doc a vs ns G Y ho hd hcd hmg hobj hints hlen hg => ?_
  obtain ⟨K, fd, sp, kin, bnd, pr, fok⟩ := F w mg fa _ Y G.T.g hmg
  exact lawG kin G.T.g G.T.b G.T.builtins G.T.nolimit hg hobj hints (Nat.le_trans hlen fits) hr fok bnd (fun H o s => pr H a ns hlen o s) fun H e s' => no H s₁ e s'
end L2
namespace L2
/-- a test whose answer is known -/
theorem if_yes {b : Bool} {A B : Prop} (h : b = true) (x : A) : if b = true then A else B := by rw [if_pos h]; exact x
theorem if_no {b : Bool} {A B : Prop} (h : b = false) (x : B) : if b = true then A else B := by rw [h]; exact x
end L2
/-! a def of the module by its name: its promise, its arguments' binding, where it stands -/
namespace L2
open PySem PySem.Spec PyProof.Rows
/-- a def without defaults, as the head tells it -/
structure Has (K : PySem.W.Frag) (mg : Str → Option Value) (x : Str) (st : Stmt) : Prop where
  gl : mg x = some (.ref (He.ga K x))
  df : ∃ fd, FunD K x x (defArgs st) (defBody st) (defScope st) [] [] (He.ga K x) fd
/-- how positional arguments bind; by «fun _ _ _ _ _ _ us hl => match us, hl with | [_, _], _ => rfl» -/
def BindOk (x : Str) (st : Stmt) (ps : List Str) : Prop := ∀ (kV doc pm : Value) (an : Option Addr) (cdv ct : Value) (us : List Value), us.length = ps.length → bindArgs (PySem.W.fnOf x x (defArgs st) (defBody st) (defScope st) .none kV doc pm an cdv ct) ⟨us, []⟩ = pure (ps.zip us)
structure FnP (P : Program) (w : World) (K : PySem.W.Frag) (mg : Str → Option Value) (base : Heap) (CX : CXT) (k : Nat) (x : Str) (ps : List Str) (sp : Sp) : Prop where
  gl : mg x = some (.ref (He.ga K x))
  kp : PySem.W.keepIn K (.ref (He.ga K x)) = true
  fn : ∃ fd, FnG P w K mg base CX k (He.ga K x) fd ps sp ∧ Binds K fd ps [] ∧ ∃ oc od osl, K.lookup (He.ga K x) = some ⟨oc, od, .func fd, osl⟩
/-- the same whatever is under way -/
structure FnQ (P : Program) (w : World) (K : PySem.W.Frag) (mg : Str → Option Value) (base : Heap) (CX : CXT) (k : Nat) (x : Str) (ps : List Str) (sp : Sp) : Prop where
  gl : mg x = some (.ref (He.ga K x))
  kp : PySem.W.keepIn K (.ref (He.ga K x)) = true
  fn : ∃ fd, FnOk P w K mg base CX k (He.ga K x) fd ps sp ∧ Binds K fd ps [] ∧ ∃ oc od osl, K.lookup (He.ga K x) = some ⟨oc, od, .func fd, osl⟩
section
variable {P : Program} {w : World} {K : PySem.W.Frag} {mg : Str → Option Value} {base : Heap} {CX : CXT} {k : Nat} {x : Str} {ps : List Str} {sp : Sp} {st : Stmt} {N : List Str}
theorem lookD {q : Str} {pa : Arguments} {b : List Stmt} {sc : Scope} {dvs : List V} {kws : List (Str × V)} {f : Addr} {fd : FuncData} (F : FunD K x q pa b sc dvs kws f fd) : ∃ oc od osl, K.lookup f = some ⟨oc, od, .func fd, osl⟩ := by
  obtain ⟨oc, od, dV, kV, doc, pm, an, cdv, ct, osl, rfl, lk, _⟩ := F.ex
  exact ⟨oc, od, osl, lk⟩
theorem FnQ.toP (F : FnQ P w K mg base CX k x ps sp) : FnP P w K mg base CX k x ps sp := ⟨F.gl, F.kp, F.fn.elim fun fd h => ⟨fd, h.1.toG, h.2⟩⟩
theorem FnQ.mono {j : Nat} (F : FnQ P w K mg base CX j x ps sp) (h : j ≤ k) : FnQ P w K mg base CX k x ps sp := ⟨F.gl, F.kp, F.fn.elim fun fd z => ⟨fd, z.1.mono h, z.2⟩⟩
theorem FnP.mono {j : Nat} (F : FnP P w K mg base CX j x ps sp) (h : j ≤ k) : FnP P w K mg base CX k x ps sp := ⟨F.gl, F.kp, F.fn.elim fun fd z => ⟨fd, z.1.mono h, z.2⟩⟩
theorem Has.q (Hs : Has K mg x st) (S : FnScope N ps (defScope st)) (B : BindOk x st ps) (len : ∀ vs H Q E, sp vs H Q E → vs.length = ps.length)
    (hb : ∀ (cdv : Value) (A : Around) (outer : List Env) (s : Shared) (H : Hp) (vs : List V) (Q : VK) (E : XK), Room k (A.deeper (envOfC x (defScope st) s.heap.objs.size (He.ga K x) cdv)) → sp vs H Q E →
      ∃ t, PSs (cxOf CX P w K mg base N x (defScope st) (He.ga K x) cdv A outer s H E) (defBody st) t ∧ t { nx := fun _ H' => Q .non H', rt := Q } (start N vs) H) : FnQ P w K mg base CX (k + 1) x ps sp := by
  obtain ⟨fd, F⟩ := Hs.df
  exact ⟨Hs.gl, F.kp, fd, F.ok S len hb, F.bindsN B, lookD F⟩
theorem Has.g (Hs : Has K mg x st) (S : FnScope N ps (defScope st)) (B : BindOk x st ps) (len : ∀ vs H Q E, sp vs H Q E → vs.length = ps.length)
    (hb : ∀ (cdv : Value) (A : Around) (outer : List Env) (s : Shared) (H : Hp) (vs : List V) (Q : VK) (E : XK), A.guards = some [] → Room k (A.deeper (envOfC x (defScope st) s.heap.objs.size (He.ga K x) cdv)) → sp vs H Q E →
      ∃ t, PSs (cxOf CX P w K mg base N x (defScope st) (He.ga K x) cdv A outer s H E) (defBody st) t ∧ t { nx := fun _ H' => Q .non H', rt := Q } (start N vs) H) : FnP P w K mg base CX (k + 1) x ps sp := by
  obtain ⟨fd, F⟩ := Hs.df
  exact ⟨Hs.gl, F.kp, fd, F.okG S len hb, F.bindsN B, lookD F⟩
end
section
variable {X : Cx} {CX : CXT} {k j : Nat} {ps : List Str} {sp : Sp} {E : XK} {x : Str} {p pos : Pos} {e : Expr} {es : List Expr} {t : TA}
/-- f(e, ..) -/
theorem pe_f (F : FnQ X.prog X.w X.K X.mg X.base CX j x ps sp) (hr : Room k X.A) (hx : Passes CX X E) (ha : PA X (e :: es) t) (hg : Gl X x := by rfl) (hj : j ≤ k := by decide) (hdb : (x == ("__debug__" : Str)) = false := by decide)
    (hst : starEach (e :: es) X.env = (false, eval e X.env) :: starEach es X.env := by rfl) (hpl : (backTo pos (starEach es X.env)).any (·.1) = false := by rfl) : PE X (.Call (.Name x p) (e :: es) [] pos) (tCall sp [] E t) := by
  obtain ⟨fd, G, b, _⟩ := F.fn
  exact pe_call G (hr.mono hj) hg F.gl F.kp b .nil hx ha hdb hst hpl
theorem pe_fG (F : FnP X.prog X.w X.K X.mg X.base CX j x ps sp) (gA : X.A.guards = some []) (hr : Room k X.A) (hx : Passes CX X E) (ha : PA X (e :: es) t) (hg : Gl X x := by rfl) (hj : j ≤ k := by decide) (hdb : (x == ("__debug__" : Str)) = false := by decide)
    (hst : starEach (e :: es) X.env = (false, eval e X.env) :: starEach es X.env := by rfl) (hpl : (backTo pos (starEach es X.env)).any (·.1) = false := by rfl) : PE X (.Call (.Name x p) (e :: es) [] pos) (tCall sp [] E t) := by
  obtain ⟨fd, G, b, _⟩ := F.fn
  exact pe_callG G gA (hr.mono hj) hg F.gl F.kp b .nil hx ha hdb hst hpl
end
end L2
/-! data with plans in it -/
namespace L2
open PySem PySem.Spec PyProof.Rows
inductive Dt where
  | non | bl (b : Bool) | int (i : Int) | str (x : Str) | lst (ds : List Dt) | tup (ds : List Dt) | dic | wrk (sc : Dt) | sup
def deedAdd : Dt → Bool
  | .tup (.str x :: _) => decide (x = "add") | _ => false
def okDeed : Dt → Bool
  | .tup (.str _ :: _) => true | _ => false
def rowDs : Dt → List Dt
  | .tup [_, _, _, .tup ds] => ds | _ => []
def okRow : Dt → Bool
  | .tup [_, _, _, .tup ds] => decide (ds.length ≤ 8) && ds.all okDeed | _ => false
/-- of the form of a script -/
def okSc : Dt → Bool
  | .tup rows => decide (rows.length ≤ 30) && rows.all okRow | _ => false
def hasAdd : Dt → Bool
  | .tup rows => rows.any fun r => (rowDs r).any deedAdd | _ => false
abbrev wkA (K : PySem.W.Frag) : Addr := He.ga K "WorkerPlan"
abbrev suA (K : PySem.W.Frag) : Addr := He.ga K "SupervisorPlan"
mutual
inductive Dd (K : PySem.W.Frag) (H : Hp) : V → Dt → Prop
  | non : Dd K H .non .non
  | bl (b : Bool) : Dd K H (.bl b) (.bl b)
  | int (i : Int) : Dd K H (.int i) (.int i)
  | str (x : Str) (h : x.length ≤ 1000 := by decide) : Dd K H (.str x) (.str x)
  | lst {a : Addr} {xs : List V} {ds : List Dt} : SqL K H a xs → DdAll K H xs ds → Dd K H (.ref a) (.lst ds)
  | tup {a : Addr} {xs : List V} {ds : List Dt} : SqT K H a xs → DdAll K H xs ds → Dd K H (.ref a) (.tup ds)
  | dic {a : Addr} : H a = some (.dK []) → Dd K H (.ref a) .dic
  | wrk {a dx : Addr} {fs : List (Str × V)} {v : V} {sc : Dt} : H a = some (.ins (wkA K) dx fs) → fs.lookup ("script" : Str) = some v → Dd K H v sc → okSc sc = true → Dd K H (.ref a) (.wrk sc)
  | sup {a dx : Addr} {fs : List (Str × V)} : H a = some (.ins (suA K) dx fs) → Dd K H (.ref a) .sup
inductive DdAll (K : PySem.W.Frag) (H : Hp) : List V → List Dt → Prop
  | nil : DdAll K H [] []
  | cons {v : V} {vs : List V} {d : Dt} {ds : List Dt} : Dd K H v d → DdAll K H vs ds → DdAll K H (v :: vs) (d :: ds)
end
theorem Same.sqL {K : PySem.W.Frag} {H H' : Hp} {a : Addr} {xs : List V} (e : Same H H') (h : SqL K H a xs) : SqL K H' a xs := by
  rcases h with (h | ⟨o, h⟩) | h
  · exact .inl (.inl (e _ _ h))
  · exact .inl (.inr ⟨o, e _ _ h⟩)
  · exact .inr h
mutual
theorem Dd.same {K : PySem.W.Frag} {H H' : Hp} (s : Same H H') : ∀ {v : V} {d : Dt}, Dd K H v d → Dd K H' v d
  | _, _, .non => .non
  | _, _, .bl b => .bl b
  | _, _, .int i => .int i
  | _, _, .str x h => .str x h
  | _, _, .lst h t => .lst (s.sqL h) (DdAll.same s t)
  | _, _, .tup h t => .tup (s.sqT h) (DdAll.same s t)
  | _, _, .dic h => .dic (s _ _ h)
  | _, _, .wrk h l t o => .wrk (s _ _ h) l (Dd.same s t) o
  | _, _, .sup h => .sup (s _ _ h)
theorem DdAll.same {K : PySem.W.Frag} {H H' : Hp} (s : Same H H') : ∀ {vs : List V} {ds : List Dt}, DdAll K H vs ds → DdAll K H' vs ds
  | _, _, .nil => .nil
  | _, _, .cons h t => .cons (Dd.same s h) (DdAll.same s t)
end
theorem DdAll.len {K : PySem.W.Frag} {H : Hp} {vs : List V} {ds : List Dt} (h : DdAll K H vs ds) : vs.length = ds.length := by
  induction ds generalizing vs with
  | nil => cases h; rfl
  | cons d ds ih => cases h with
    | cons _ t => rw [List.length_cons, List.length_cons, ih t]
theorem DdAll.get {K : PySem.W.Frag} {H : Hp} {vs : List V} {ds : List Dt} (h : DdAll K H vs ds) : ∀ {i : Nat} {v : V}, vs[i]? = some v → ∃ d, ds[i]? = some d ∧ Dd K H v d := by
  induction ds generalizing vs with
  | nil => cases h; intro i v e; simp at e
  | cons d ds ih => cases h with
    | cons a t =>
      intro i v e
      cases i with
      | zero => simp at e; exact ⟨d, rfl, e ▸ a⟩
      | succ i => simpa using ih t (by simpa using e)
theorem DdAll.at {K : PySem.W.Frag} {H : Hp} {vs : List V} {ds : List Dt} (h : DdAll K H vs ds) : ∀ {i : Nat} {d : Dt}, ds[i]? = some d → ∃ v, vs[i]? = some v ∧ Dd K H v d := by
  induction ds generalizing vs with
  | nil => intro i d e; simp at e
  | cons d0 ds ih => cases h with
    | cons a t =>
      intro i d e
      cases i with
      | zero => simp at e; exact ⟨_, rfl, e ▸ a⟩
      | succ i => simpa using ih t (by simpa using e)
theorem DdAll.app {K : PySem.W.Frag} {H : Hp} {vs ws : List V} {ds es : List Dt} (h : DdAll K H vs ds) (g : DdAll K H ws es) : DdAll K H (vs ++ ws) (ds ++ es) := by
  induction ds generalizing vs with
  | nil => cases h; exact g
  | cons d ds ih => cases h with
    | cons a t => exact .cons a (ih t)
theorem DdAll.take {K : PySem.W.Frag} {H : Hp} {vs : List V} {ds : List Dt} (h : DdAll K H vs ds) : ∀ k : Nat, DdAll K H (vs.take k) (ds.take k) := by
  induction ds generalizing vs with
  | nil => cases h; intro k; simpa using DdAll.nil
  | cons d ds ih => cases h with
    | cons a t => intro k; cases k with
      | zero => exact .nil
      | succ k => exact .cons a (ih t k)
theorem DdAll.drop {K : PySem.W.Frag} {H : Hp} {vs : List V} {ds : List Dt} (h : DdAll K H vs ds) : ∀ k : Nat, DdAll K H (vs.drop k) (ds.drop k) := by
  induction ds generalizing vs with
  | nil => cases h; intro k; simpa using DdAll.nil
  | cons d ds ih => cases h with
    | cons a t => intro k; cases k with
      | zero => exact .cons a t
      | succ k => exact ih t k
theorem DdAll.one {K : PySem.W.Frag} {H : Hp} {vs : List V} {a : Dt} (h : DdAll K H vs [a]) : ∃ v, vs = [v] ∧ Dd K H v a := by
  cases h with
  | cons h1 t => cases t; exact ⟨_, rfl, h1⟩
theorem DdAll.two {K : PySem.W.Frag} {H : Hp} {vs : List V} {a b : Dt} (h : DdAll K H vs [a, b]) : ∃ v u, vs = [v, u] ∧ Dd K H v a ∧ Dd K H u b := by
  cases h with
  | cons h1 t => obtain ⟨u, rfl, h2⟩ := t.one; exact ⟨_, u, rfl, h1, h2⟩
theorem DdAll.four {K : PySem.W.Frag} {H : Hp} {vs : List V} {a b c d : Dt} (h : DdAll K H vs [a, b, c, d]) : ∃ v u w z, vs = [v, u, w, z] ∧ Dd K H v a ∧ Dd K H u b ∧ Dd K H w c ∧ Dd K H z d := by
  cases h with
  | cons h1 t => cases t with
    | cons h2 t => obtain ⟨w, z, rfl, h3, h4⟩ := t.two; exact ⟨_, _, w, z, rfl, h1, h2, h3, h4⟩
/-! kinds -/
def kd : Dt → Nat
  | .non => 0 | .bl _ => 1 | .int _ => 2 | .str _ => 3 | .lst _ => 4 | .tup _ => 5 | .dic => 6 | .wrk _ => 7 | .sup => 8
theorem kd_lt (d : Dt) : kd d < 9 := by cases d <;> simp [kd]
def tyK (K : PySem.W.Frag) : Nat → Value
  | 0 => .type "NoneType" | 1 => .type "bool" | 2 => .type "int" | 3 => .type "str" | 4 => .type "list" | 5 => .type "tuple" | 6 => .type "dict" | 7 => .ref (wkA K) | _ => .ref (suA K)
def clK (K : PySem.W.Frag) : Nat → Value
  | 0 => .type "int" | 1 => .type "bool" | 2 => .type "str" | 3 => .type "tuple" | 4 => .ref (He.ga K "AnyWorker") | 5 => .ref (wkA K) | _ => .ref (suA K)
def tabK : Nat → Nat → Bool
  | 1, 0 => true | 2, 0 => true | 1, 1 => true | 3, 2 => true | 5, 3 => true | 7, 4 => true | 7, 5 => true | 8, 6 => true | _, _ => false
def kitD (K : PySem.W.Frag) : Bool := (List.range 9).all fun i => (List.range 7).all fun j => decide (PySem.W.kitOne K (tyK K i) (clK K j) = some (tabK i j))
structure PKn (K : PySem.W.Frag) : Prop where
  wk : C8.InsC K (wkA K)
  su : C8.InsC K (suA K)
  kit : ∀ i j, i < 9 → j < 7 → PySem.W.kitOne K (tyK K i) (clK K j) = some (tabK i j)
theorem kitD_ok {K : PySem.W.Frag} (h : kitD K = true) : ∀ i j, i < 9 → j < 7 → PySem.W.kitOne K (tyK K i) (clK K j) = some (tabK i j) := fun i j hi hj => by
  have z := List.all_eq_true.mp (List.all_eq_true.mp h i (List.mem_range.mpr hi)) j (List.mem_range.mpr hj)
  exact of_decide_eq_true z
section
variable {K : PySem.W.Frag} {H : Hp} {v : V} {d : Dt}
theorem Dd.ty (P : PKn K) (h : Dd K H v d) : TyX K H v (tyK K (kd d)) := by
  cases h with
  | non => exact .base .non
  | bl b => exact .base (.bl b)
  | int i => exact .base (.int i)
  | str x h => exact .base (.str x)
  | lst h t =>
    rcases h with (h | ⟨o, h⟩) | ⟨o, its, n, h, c, _⟩
    · exact .base (.lst h)
    · exact .base (.frz h)
    · exact .kList h c
  | tup h t =>
    rcases h with (h | ⟨o, h⟩) | ⟨o, its, n, h, c, _⟩
    · exact .base (.tup h)
    · exact .fTuple h
    · exact .kTuple h c
  | dic h => exact .base (.dK h)
  | wrk h _ _ _ => exact .base (.ins h P.wk.cl P.wk.ha P.wk.hn P.wk.htk P.wk.hm)
  | sup h => exact .base (.ins h P.su.cl P.su.ha P.su.hn P.su.htk P.su.hm)
/-- isinstance of such a value -/
theorem Dd.isi (P : PKn K) (h : Dd K H v d) (j : Nat) {c : V} {Q : VK} (hc : ClsV c (clK K j)) (q : Q (.bl (tabK (kd d) j)) H) (hj : j < 7 := by decide) : rIsi K [v, c] H Q := ⟨v, c, _, _, _, rfl, hc, h.ty P, P.kit _ _ (kd_lt d) hj, q⟩
end
/-! what the checks say -/
def isInt : Dt → Bool
  | .int _ => true | _ => false
def isBtw (lo hi : Int) : Dt → Bool
  | .int i => decide (lo ≤ i) && decide (i ≤ hi) | _ => false
def isStr : Dt → Bool
  | .str _ => true | _ => false
def isOne (ws : List Str) : Dt → Bool
  | .str x => ws.contains x | _ => false
def lettersS : Str := "abcdefghijklmnopqrstuvwxyz"
def signsS : Str := "abcdefghijklmnopqrstuvwxyz0123456789_"
def wordS (x : Str) : Bool := decide (1 ≤ x.length) && decide (x.length ≤ 20) && (match x.cps[0]? with
  | some c => decide (c ∈ lettersS.cps.toList)
  | none => false) && x.cps.toList.all fun c => decide (c ∈ signsS.cps.toList)
def isWord : Dt → Bool
  | .str x => wordS x | _ => false
def namesS : List Str := ["own", "sender", "about"]
def treeS : List Str := ["answer", "back", "ended", "down", "told"]
def reasonS : List Str := ["shutdown", "refused", "gave_up", "killed", "nobody"]
def isPlace (d : Dt) : Bool := isWord d && !isOne namesS d
def isSent (d : Dt) : Bool := isWord d && !isOne treeS d
def isVal (d : Dt) : Bool := isBtw (-1000000000000) 1000000000000 d
def isGiven (d : Dt) : Bool := isWord d && !isOne reasonS d
/-! what the scripts say -/
def dvalD : Dt → Bool
  | .tup [.str x, a] => decide (x = "plus") && isVal a
  | .tup _ => false
  | d => isVal d
def isBl : Dt → Bool
  | .bl _ => true | _ => false
def planD : Dt → Bool
  | .wrk sc => !hasAdd sc | _ => false
def itemD (k : Str) (d : Dt) : Bool :=
  if k = "sent word" then isSent d else if k = "value" then dvalD d else if k = "ticks" then isBtw 1 1000000000 d else if k = "truth" then isBl d else if k = "reason" then isGiven d else if k = "plan" then planD d else isWord d
def deedItems : List (Str × List Str) := [("note", ["word"]), ("send", ["word", "sent word", "value"]), ("ask", ["word", "sent word", "value"]), ("reply", ["value"]), ("later", ["ticks", "sent word", "value"]), ("cancel", ["word"]), ("link", ["word"]), ("unlink", ["word"]), ("monitor", ["word"]),
  ("unmonitor", ["word"]), ("trap", ["truth"]), ("mode", ["word"]), ("end", ["reason"]), ("add", ["word", "plan"]), ("remove", ["word"])]
def itemsD : List Str → List Dt → Bool
  | [], [] => true
  | k :: ks, d :: ds => itemD k d && itemsD ks ds
  | _, _ => false
def deedD : Dt → Bool
  | .tup (.str x :: ds) => (match deedItems.lookup x with
    | some ks => itemsD ks ds
    | none => false)
  | _ => false
def deedsD : Dt → Bool
  | .tup ds => decide (ds.length ≤ 8) && ds.all deedD | _ => false
def rowD : Dt → Bool
  | .tup [m, x, k, ds] => isWord m && isWord x && isBtw 1 1000 k && deedsD ds | _ => false
def keyD : Dt → Str × Str
  | .tup (.str m :: .str x :: _) => (m, x) | _ => ("", "")
/-- the place of the first wrong row -/
def wrongAt (seen : List (Str × Str)) (i : Nat) : List Dt → Option Nat
  | [] => none
  | r :: rs => if i = 30 then some i else if rowD r = false then some i else if keyD r ∈ seen then some i else wrongAt (keyD r :: seen) (i + 1) rs
def scriptD : Dt → Bool
  | .tup rows => (wrongAt [] 0 rows).isNone | _ => false
/-- a check of one value -/
def spChk (K : PySem.W.Frag) (f : Dt → Bool) : Sp := fun vs H Q _ => ∃ v d, vs = [v] ∧ Dd K H v d ∧ ∀ H', Same H H' → Q (.bl (f d)) H'
def spBtw (K : PySem.W.Frag) : Sp := fun vs H Q _ => ∃ v d lo hi, vs = [v, .int lo, .int hi] ∧ Dd K H v d ∧ ∀ H', Same H H' → Q (.bl (isBtw lo hi d)) H'
def spOne (K : PySem.W.Frag) : Sp := fun vs H Q _ => ∃ v d p ws, vs = [v, .ref p] ∧ Dd K H v d ∧ SqT K H p (ws.map V.str) ∧ ∀ H', Same H H' → Q (.bl (isOne ws d)) H'
end L2
/-! a text times a number; tuples of tuples -/
namespace L2
open PySem PySem.Spec PyProof.Rows
/-- x * n of a text -/
def rRepS : R2 := fun x y H Q => ∃ i n, x = .str i ∧ y = .int n ∧ MulOk i n ∧ Q (.str (Txt.mul i n)) H
theorem op_repS {X : Cx} : OpR X (binaryOp .Mult) rRepS := by
  intro pins s σ H x y v u Q I rx ry h
  obtain ⟨i, n, rfl, rfl, hz, q⟩ := h
  obtain ⟨t, rfl⟩ := rx
  obtain ⟨t', rfl⟩ := ry
  exact SB.mul hz fun t' tk => ⟨.str (Txt.mul i n), H, I.tok _, ⟨_, rfl⟩, q⟩
end L2
/-! displays of data: what an expression makes, told by the data -/
namespace L2
open PySem PySem.Spec PyProof.Rows
/-- the heap without one address -/
def hide (l : Option Addr) (H : Hp) : Hp := fun b => if l = some b then none else H b
theorem hide_none (H : Hp) : hide none H = H := by
  funext b
  unfold hide
  rw [if_neg (by simp)]
theorem hide_get {l : Option Addr} {H : Hp} {b : Addr} {o : HO} (h : hide l H b = some o) : H b = some o ∧ l ≠ some b := by
  unfold hide at h
  split at h
  · cases h
  · rename_i n
    exact ⟨h, n⟩
theorem hide_at {l : Option Addr} {H : Hp} {b : Addr} (h : l ≠ some b) : hide l H b = H b := if_neg h
theorem hide_sub (l : Option Addr) (H : Hp) : Same (hide l H) H := fun b o e => (hide_get e).1
theorem hide_same {l : Option Addr} {H H' : Hp} (s : Same H H') : Same (hide l H) (hide l H') := fun b o e => by
  rw [hide_at (hide_get e).2]
  exact s _ _ (hide_get e).1
/-- what is hidden stands -/
def Stands (l : Option Addr) (H : Hp) : Prop := ∀ a, l = some a → ∃ o, H a = some o
theorem Stands.same {l : Option Addr} {H H' : Hp} (h : Stands l H) (s : Same H H') : Stands l H' := fun a e => (h a e).elim fun o q => ⟨o, s _ _ q⟩
theorem Stands.ne {l : Option Addr} {H : Hp} (h : Stands l H) {p : Addr} (n : H p = none) : l ≠ some p := fun e => by
  obtain ⟨o, q⟩ := h p e
  rw [n] at q
  cases q
/-- a new object at p: what stood ahead stands without it -/
theorem hide_new {H H' : Hp} {p : Addr} (s : Same H H') (n : H p = none) : Same H (hide (some p) H') := fun b o e => by
  rw [hide_at (fun z => by cases z; rw [n] at e; cases e)]
  exact s _ _ e
/-- e makes the data d; J: what is asked of the slots -/
def MkD (X : Cx) (J : St → Hp → Prop) (e : Expr) (d : Dt) : Prop := ∃ te, PE X e te ∧ ∀ (σ : St) (H : Hp) (Q : VK) (l : Option Addr), Stands l H → J σ (hide l H) → (∀ v H', Same H H' → Dd X.K (hide l H') v d → Q v H') → te σ H Q
def MkDA (X : Cx) (J : St → Hp → Prop) (es : List Expr) (ds : List Dt) : Prop := ∃ ta, PA X es ta ∧ ∀ (σ : St) (H : Hp) (Q : List V → Hp → Prop) (l : Option Addr), Stands l H → J σ (hide l H) → (∀ vs H', Same H H' → DdAll X.K (hide l H') vs ds → Q vs H') → ta σ H Q
def Keeps (J : St → Hp → Prop) : Prop := ∀ σ H H', Same H H' → J σ H → J σ H'
section
variable {X : Cx} {J : St → Hp → Prop}
theorem md_non {j : Nat} {p : Pos} : MkD X J (.Constant .none j p) .non := ⟨_, pe_non, fun σ H Q l st j k => k _ H (Same.refl H) .non⟩
theorem md_bl {b : Bool} {j : Nat} {p : Pos} : MkD X J (.Constant (.bool b) j p) (.bl b) := ⟨_, pe_bl, fun σ H Q l st j k => k _ H (Same.refl H) (.bl b)⟩
theorem md_int {i : Int} {j : Nat} {p : Pos} : MkD X J (.Constant (.int i) j p) (.int i) := ⟨_, pe_int, fun σ H Q l st j k => k _ H (Same.refl H) (.int i)⟩
theorem md_str {x : Str} {j : Nat} {p : Pos} (h : x.length ≤ 1000 := by decide) : MkD X J (.Constant (.str x) j p) (.str x) := ⟨_, pe_str, fun σ H Q l st j k => k _ H (Same.refl H) (.str x h)⟩
theorem mdA_nil : MkDA X J [] [] := ⟨_, pa_nil, fun σ H Q l st j k => k _ H (Same.refl H) .nil⟩
theorem mdA_cons {e : Expr} {es : List Expr} {d : Dt} {ds : List Dt} (kp : Keeps J) (h1 : MkD X J e d) (h2 : MkDA X J es ds) (hst : starEach (e :: es) X.env = (false, eval e X.env) :: starEach es X.env := by rfl) : MkDA X J (e :: es) (d :: ds) := by
  obtain ⟨te, pe, k1⟩ := h1
  obtain ⟨ta, pa, k2⟩ := h2
  refine ⟨_, pa_cons pe pa hst, fun σ H Q l st j k => ?_⟩
  refine k1 σ H _ l st j fun v H1 s1 d1 => ?_
  refine k2 σ H1 _ l (st.same s1) (kp _ _ _ (hide_same s1) j) fun vs H2 s2 d2 => ?_
  exact k _ H2 (s1.trans s2) (.cons (d1.same (hide_same s2)) d2)
theorem md_tup {es : List Expr} {ds : List Dt} {j : Nat} {p : Pos} (h : MkDA X J es ds) (few : ds.length ≤ sizeLine := by decide) : MkD X J (.Tuple es j p) (.tup ds) := by
  obtain ⟨ta, pa, k1⟩ := h
  refine ⟨_, pe_tupM pa, fun σ H Q l st j k => k1 σ H _ l st j fun vs H1 s1 d1 => ⟨by rw [d1.len]; exact few, fun p H2 s2 n2 e2 => ?_⟩⟩
  have ne := (st.same s1).ne n2
  exact k _ H2 (s1.trans s2) (.tup (SqT.of (by rw [hide_at ne]; exact e2)) (d1.same (hide_same s2)))
theorem md_lst {es : List Expr} {ds : List Dt} {p : Pos} (h : MkDA X J es ds) (few : ds.length ≤ sizeLine := by decide) : MkD X J (.List es p) (.lst ds) := by
  obtain ⟨ta, pa, k1⟩ := h
  refine ⟨_, pe_lstM pa, fun σ H Q l st j k => k1 σ H _ l st j fun vs H1 s1 d1 => ⟨by rw [d1.len]; exact few, fun p H2 s2 n2 e2 => ?_⟩⟩
  have ne := (st.same s1).ne n2
  exact k _ H2 (s1.trans s2) (.lst (SqL.of (by rw [hide_at ne]; exact e2)) (d1.same (hide_same s2)))
/-- an int that is worked out, whatever stands -/
theorem md_num {e : Expr} {i : Int} {te : TE} (h : PE X e te) (k : ∀ (σ : St) (H : Hp) (Q : VK), Q (.int i) H → te σ H Q) : MkD X J e (.int i) := ⟨te, h, fun σ H Q l st j q => k σ H Q (q _ H (Same.refl H) (.int i))⟩
theorem md_txt {e : Expr} {x : Str} {te : TE} (h : PE X e te) (k : ∀ (σ : St) (H : Hp) (Q : VK), Q (.str x) H → te σ H Q) (few : x.length ≤ 1000 := by decide) : MkD X J e (.str x) := ⟨te, h, fun σ H Q l st j q => k σ H Q (q _ H (Same.refl H) (.str x few))⟩
/-- a slot that holds data -/
theorem md_var {i : Nat} {x : Str} {d : Dt} {p : Pos} {te : TE} (h : PE X (.Name x p) te) (k : ∀ (σ : St) (H : Hp) (Q : VK) (v : V), σ[i]? = some (some v) → Q v H → te σ H Q) (j : ∀ σ H, J σ H → ∃ v, σ[i]? = some (some v) ∧ Dd X.K H v d) : MkD X J (.Name x p) d := by
  refine ⟨te, h, fun σ H Q l st jj q => ?_⟩
  obtain ⟨v, e, hd⟩ := j σ _ jj
  exact k σ H Q v e (q v H (Same.refl H) hd)
end
/-- a list of one's own, and its data, which don't hold it -/
def LstAt (K : PySem.W.Frag) (H : Hp) (a : Addr) (xs : List V) (ds : List Dt) : Prop := H a = some (.lst xs) ∧ DdAll K (hide (some a) H) xs ds
section
variable {K : PySem.W.Frag} {H H' : Hp} {a b : Addr} {xs zs : List V} {ds es : List Dt}
theorem LstAt.all (h : LstAt K H a xs ds) : DdAll K H xs ds := h.2.same (hide_sub _ _)
theorem LstAt.same (h : LstAt K H a xs ds) (s : Same H H') : LstAt K H' a xs ds := ⟨s _ _ h.1, h.2.same (hide_same s)⟩
theorem LstAt.stands (h : LstAt K H a xs ds) : Stands (some a) H := fun b e => by
  cases e
  exact ⟨_, h.1⟩
/-- some.append(v) -/
theorem LstAt.put (h : LstAt K H a xs ds) {v : V} {d : Dt} (hv : Dd K (hide (some a) H) v d) : LstAt K (upd H a (.lst (xs ++ [v]))) a (xs ++ [v]) (ds ++ [d]) := by
  refine ⟨upd_same, ?_⟩
  have e : hide (some a) (upd H a (.lst (xs ++ [v]))) = hide (some a) H := by
    funext b
    by_cases c : a = b
    · subst c
      unfold hide
      rw [if_pos rfl, if_pos rfl]
    · rw [hide_at (fun z => c (Option.some.inj z)), hide_at (fun z => c (Option.some.inj z)), upd_ne (Ne.symm c)]
  rw [e]
  exact h.2.app (.cons hv .nil)
/-- a new list -/
theorem lst_new (h : DdAll K H xs ds) (s : Same H H') (n : H a = none) (e : H' a = some (.lst xs)) : LstAt K H' a xs ds := ⟨e, h.same (hide_new s n)⟩
end
end L2
namespace L2
open PySem PySem.Spec PyProof.Rows
/-- the reading of such an expression -/
def tMk (K : PySem.W.Frag) (J : St → Hp → Prop) (d : Dt) : TE := fun σ H Q => ∃ l, Stands l H ∧ J σ (hide l H) ∧ ∀ v H', Same H H' → Dd K (hide l H') v d → Q v H'
def tMkL (K : PySem.W.Frag) (J : St → Hp → Prop) (ds : List Dt) : TE := fun σ H Q => J σ H ∧ ∀ a xs H', Same H H' → H a = none → LstAt K H' a xs ds → Q (.ref a) H'
section
variable {X : Cx} {J : St → Hp → Prop}
theorem pe_mk {e : Expr} {d : Dt} (m : MkD X J e d) : PE X e (tMk X.K J d) := by
  obtain ⟨te, pe, k⟩ := m
  exact ⟨fun pins s σ H Q I ⟨l, st, j, h⟩ => pe.run pins s σ H Q I (k σ H Q l st j h)⟩
theorem pe_mkL {es : List Expr} {ds : List Dt} {p : Pos} (m : MkDA X J es ds) (few : ds.length ≤ sizeLine := by decide) : PE X (.List es p) (tMkL X.K J ds) := by
  obtain ⟨ta, pa, k⟩ := m
  refine ⟨fun pins s σ H Q I ⟨j, h⟩ => (pe_lstM pa).run pins s σ H Q I (k σ H _ none (fun a e => nomatch e) (by rw [hide_none]; exact j) fun vs H1 s1 d1 => ⟨by rw [d1.len]; exact few, fun p H2 s2 n2 e2 => ?_⟩)⟩
  rw [hide_none] at d1
  have n0 : H p = none := by
    cases q : H p with
    | none => rfl
    | some o => rw [s1 _ _ q] at n2; cases n2
  exact h p vs H2 (s1.trans s2) n0 (lst_new d1 s2 n2 e2)
end
theorem cat_at {K : PySem.W.Frag} {H : Hp} {l b : Addr} {xs zs : List V} {ds es : List Dt} {Q : VK} (L1 : LstAt K H l xs ds) (L2 : LstAt K H b zs es) (few : ds.length + es.length ≤ sizeLine) (k : ∀ p H', Same H H' → H p = none → LstAt K H' p (xs ++ zs) (ds ++ es) → Q (.ref p) H') : rCat (.ref l) (.ref b) H Q :=
  ⟨l, b, xs, zs, rfl, rfl, L1.1, L2.1, by rw [L1.2.len, L2.2.len]; exact few, fun p hp => k p _ (Same.new hp) hp (lst_new (L1.all.app L2.all) (Same.new hp) hp upd_same)⟩
end L2
/-! [e for x in it] over any walk whose turns leave what stands -/
namespace L2
open PySem PySem.Spec PyProof.Rows
section
variable {J : It} {n : Nat} {G : Hp → Prop} {Y : Nat → Hp → V → Hp → Prop}
/-- the values told by the turn -/
theorem comp_val (w : Walk J n G Y) {H : Hp} {f : Nat → V} {Q : Addr → Hp → Prop} (hn : n < sizeLine) {σ : St} {vs : List Nat} {g : TG} {te : TE} (hG : ∀ H', Same H H' → G H') (hY : ∀ i H x H', Y i H x H' → Same H H')
    (turn : ∀ (i : Nat) (x : V) (H1 H2 : Hp) (R : VK), i < n → Same H H1 → Y i H1 x H2 → (∀ H3, Same H2 H3 → R (f i) H3) → g x (wipe σ vs) H2 fun σ2 H3 => wipe σ2 vs = wipe σ vs ∧ te σ2 H3 R)
    (k : ∀ p H', Same H H' → H p = none → H' p = some (.lst ((List.range n).map f)) → Q p H') :
    ∀ D, H D = none → ∃ W : Nat → Nat → Hp → Prop, (∃ m, W 0 m (upd H D (.lst []))) ∧ ∀ i m H2, W i m H2 →
      (J.stop i H2 ∧ Q D H2) ∨ (J.go i H2 ∧ ∃ Nx : Hp → Prop, (∀ H', Nx H' → ∃ m', m' < m ∧ W (i + 1) m' H') ∧ ∀ v H', J.yld i H2 v H' → g v (wipe σ vs) H' fun σ2 H3 => wipe σ2 vs = wipe σ vs ∧ tYes σ2 H3 fun b H4 =>
        if b = true then te σ2 H4 fun y H5 => ∃ acc, H5 D = some (.lst acc) ∧ acc.length < sizeLine ∧ Nx (upd H5 D (.lst (acc ++ [y]))) else Nx H4) := fun D hD => by
  refine lc_it w (Qd := fun H2 => Q D H2) (fun i H2 => Same H H2 ∧ H2 D = some (.lst ((List.range i).map f))) ⟨Same.new hD, upd_same⟩ (fun i H2 _ h => hG H2 h.1) (fun i x H2 H3 hi h y => ?_) (fun H2 h => k D H2 h.1 hD h.2)
  obtain ⟨s1, hd⟩ := h
  have s2 := hY _ _ _ _ y
  have z := turn i x H2 H3 (fun y H5 => ∃ acc, H5 D = some (.lst acc) ∧ acc.length < sizeLine ∧ (Same H (upd H5 D (.lst (acc ++ [y]))) ∧ (upd H5 D (.lst (acc ++ [y]))) D = some (.lst ((List.range (i + 1)).map f)))) hi s1 y
    (fun H4 s3 => ⟨_, s3 _ _ (s2 _ _ hd), by simp only [List.length_map, List.length_range]; omega, fun b o e => by rw [upd_ne (ne_of_none e hD)]; exact s3 _ _ (s2 _ _ (s1 b o e)), by rw [upd_same, List.range_succ]; simp⟩)
  exact z
/-- .. told by what stands: P i v H, that stays -/
theorem comp_any (w : Walk J n G Y) {H : Hp} {P : Nat → V → Hp → Prop} {Q : Addr → Hp → Prop} (hn : n < sizeLine) {σ : St} {vs : List Nat} {g : TG} {te : TE} (hG : ∀ H', Same H H' → G H') (hY : ∀ i H x H', Y i H x H' → Same H H')
    (hP : ∀ i v H1 H2, Same H1 H2 → P i v H1 → P i v H2) (hD0 : ∀ i v H1 D xs ys, H D = none → H1 D = some (.lst xs) → P i v H1 → P i v (upd H1 D (.lst ys)))
    (turn : ∀ (i : Nat) (x : V) (H1 H2 : Hp) (R : VK), i < n → Same H H1 → Y i H1 x H2 → (∀ v H3, Same H2 H3 → P i v H3 → R v H3) → g x (wipe σ vs) H2 fun σ2 H3 => wipe σ2 vs = wipe σ vs ∧ te σ2 H3 R)
    (k : ∀ p H' xs, Same H H' → H p = none → H' p = some (.lst xs) → xs.length = n → (∀ i v, xs[i]? = some v → P i v H') → Q p H') :
    ∀ D, H D = none → ∃ W : Nat → Nat → Hp → Prop, (∃ m, W 0 m (upd H D (.lst []))) ∧ ∀ i m H2, W i m H2 →
      (J.stop i H2 ∧ Q D H2) ∨ (J.go i H2 ∧ ∃ Nx : Hp → Prop, (∀ H', Nx H' → ∃ m', m' < m ∧ W (i + 1) m' H') ∧ ∀ v H', J.yld i H2 v H' → g v (wipe σ vs) H' fun σ2 H3 => wipe σ2 vs = wipe σ vs ∧ tYes σ2 H3 fun b H4 =>
        if b = true then te σ2 H4 fun y H5 => ∃ acc, H5 D = some (.lst acc) ∧ acc.length < sizeLine ∧ Nx (upd H5 D (.lst (acc ++ [y]))) else Nx H4) := fun D hD => by
  refine lc_it w (Qd := fun H2 => Q D H2) (fun i H2 => Same H H2 ∧ ∃ xs, H2 D = some (.lst xs) ∧ xs.length = i ∧ ∀ j v, xs[j]? = some v → P j v H2) ⟨Same.new hD, [], upd_same, rfl, fun j v e => by simp at e⟩ (fun i H2 _ h => hG H2 h.1) (fun i x H2 H3 hi h y => ?_)
    (fun H2 h => let ⟨s, xs, h1, h2, h3⟩ := h; k D H2 xs s hD h1 h2 h3)
  obtain ⟨s1, xs, hd, hl, hp⟩ := h
  have s2 := hY _ _ _ _ y
  have z := turn i x H2 H3 (fun y H5 => ∃ acc, H5 D = some (.lst acc) ∧ acc.length < sizeLine ∧ (Same H (upd H5 D (.lst (acc ++ [y]))) ∧ ∃ xs, (upd H5 D (.lst (acc ++ [y]))) D = some (.lst xs) ∧ xs.length = i + 1 ∧ ∀ j v, xs[j]? = some v → P j v (upd H5 D (.lst (acc ++ [y]))))) hi s1 y
    (fun v H4 s3 pv => ⟨xs, s3 _ _ (s2 _ _ hd), by omega, fun b o e => by rw [upd_ne (ne_of_none e hD)]; exact s3 _ _ (s2 _ _ (s1 b o e)), xs ++ [v], upd_same, by simp [hl], fun j u e => ?_⟩)
  · exact z
  · rcases Nat.lt_or_ge j xs.length with hj | hj
    · rw [List.getElem?_append_left hj] at e
      exact hD0 _ _ _ _ _ _ hD (s3 _ _ (s2 _ _ hd)) (hP _ _ _ _ (fun b o q => s3 _ _ (s2 _ _ q)) (hp j u e))
    · rw [List.getElem?_append_right hj] at e
      have : j = i := by
        rcases Nat.lt_or_ge (j - xs.length) 1 with q | q
        · omega
        · rw [List.getElem?_eq_none (by simpa using q)] at e; cases e
      subst this
      rw [hl, Nat.sub_self] at e
      cases e
      exact hD0 _ _ _ _ _ _ hD (s3 _ _ (s2 _ _ hd)) pv
end
end L2
namespace L2
open PySem PySem.Spec PyProof.Rows
/-- the inner walk of a turn, and what each of its turns gives -/
structure In2 (H0 : Hp) (m : Nat) (f : Nat → Bool) (g1 : TG) (te : TE) (vs1 : List Nat) (σ2 : St) (J1 : It) : Prop where
  ex : ∃ (G1 : Hp → Prop) (Y1 : Nat → Hp → V → Hp → Prop), Walk J1 m G1 Y1 ∧ (∀ H', Same H0 H' → G1 H') ∧ (∀ j H x H', Y1 j H x H' → Same H H') ∧
    ∀ (j : Nat) (y : V) (H5 H6 : Hp) (R : VK), j < m → Same H0 H5 → Y1 j H5 y H6 → (∀ H7, Same H6 H7 → R (.bl (f j)) H7) → g1 y (wipe σ2 vs1) H6 fun σ3 H7 => wipe σ3 vs1 = wipe σ2 vs1 ∧ te σ3 H7 R
def acc2 (m : Nat → Nat) (f : Nat → Nat → Bool) (n : Nat) : List Bool := (List.range n).flatMap fun i => (List.range (m i)).map (f i)
theorem acc2_succ (m : Nat → Nat) (f : Nat → Nat → Bool) (n : Nat) : acc2 m f (n + 1) = acc2 m f n ++ (List.range (m n)).map (f n) := by
  unfold acc2
  rw [List.range_succ, List.flatMap_append]
  simp
section
variable {J : It} {n : Nat} {G : Hp → Prop} {Y : Nat → Hp → V → Hp → Prop}
/-- [a test for x in it for y in it2(x)] -/
theorem comp2_bool (w : Walk J n G Y) {H : Hp} {m : Nat → Nat} {f : Nat → Nat → Bool} {Q : Addr → Hp → Prop} (hn : (acc2 m f n).length < sizeLine) {σ : St} {vs vs1 : List Nat} {g g1 : TG} {wi1 : TI} {te : TE} (hG : ∀ H', Same H H' → G H') (hY : ∀ i H x H', Y i H x H' → Same H H')
    (turn : ∀ (i : Nat) (x : V) (H1 H2 : Hp) (C : St → It → Hp → Prop), i < n → Same H H1 → Y i H1 x H2 → (∀ σ2 J1 H4, Same H2 H4 → In2 H (m i) (f i) g1 te vs1 σ2 J1 → C σ2 J1 H4) → g x (wipe σ vs) H2 fun σ2 H3 => wipe σ2 vs = wipe σ vs ∧ wi1 σ2 H3 (C σ2))
    (k : ∀ p H', Same H H' → H p = none → H' p = some (.lst ((acc2 m f n).map V.bl)) → Q p H') :
    ∀ D, H D = none → ∃ W : Nat → Nat → Hp → Prop, (∃ m, W 0 m (upd H D (.lst []))) ∧ ∀ i m H, W i m H →
      (J.stop i H ∧ Q D H) ∨ (J.go i H ∧ ∃ Nx : Hp → Prop, (∀ H', Nx H' → ∃ m', m' < m ∧ W (i + 1) m' H') ∧ ∀ x H', J.yld i H x H' → g x (wipe σ vs) H' fun σ2 H2 => wipe σ2 vs = wipe σ vs ∧ tYes σ2 H2 fun b H3 =>
        if b = true then wi1 σ2 H3 fun J1 H4 => ∃ W1 : Nat → Nat → Hp → Prop, (∃ m, W1 0 m H4) ∧ ∀ j k H, W1 j k H →
          (J1.stop j H ∧ Nx H) ∨ (J1.go j H ∧ ∃ Nx1 : Hp → Prop, (∀ H', Nx1 H' → ∃ k', k' < k ∧ W1 (j + 1) k' H') ∧ ∀ x H', J1.yld j H x H' → g1 x (wipe σ2 vs1) H' fun σ3 H5 => wipe σ3 vs1 = wipe σ2 vs1 ∧ tYes σ3 H5 fun b H6 =>
            if b = true then te σ3 H6 fun y H7 => ∃ acc, H7 D = some (.lst acc) ∧ acc.length < sizeLine ∧ Nx1 (upd H7 D (.lst (acc ++ [y]))) else Nx1 H6)
        else Nx H3) := fun D hD => by
  have Dup : ∀ {H1 : Hp} (xs : List V), Same H H1 → Same H (upd H1 D (.lst xs)) := fun xs s b o e => by rw [upd_ne (ne_of_none e hD)]; exact s _ _ e
  refine ⟨fun i k H1 => k = n - i ∧ i ≤ n ∧ Same H H1 ∧ H1 D = some (.lst ((acc2 m f i).map V.bl)), ⟨n, by simp, Nat.zero_le _, Same.new hD, upd_same⟩, ?_⟩
  rintro i _ H1 ⟨rfl, hi, s1, d1⟩
  by_cases lt : i < n
  · refine .inr ⟨w.goes i H1 lt (hG _ s1), fun H' => Same H H' ∧ H' D = some (.lst ((acc2 m f (i + 1)).map V.bl)), fun H' q => ⟨n - (i + 1), by omega, rfl, lt, q.1, q.2⟩, fun x H2 y => ?_⟩
    have y2 := w.yields i H1 x H2 lt (hG _ s1) y
    have s2 := hY _ _ _ _ y2
    refine turn i x H1 H2 _ lt s1 y2 fun σ2 J1 H4 s4 z => ?_
    obtain ⟨G1, Y1, w1, hG1, hY1, t1⟩ := z
    have s04 : Same H H4 := fun b o e => s4 _ _ (s2 _ _ (s1 _ _ e))
    have d4 : H4 D = some (.lst ((acc2 m f i).map V.bl)) := s4 _ _ (s2 _ _ d1)
    have small : ∀ j, j < m i → (acc2 m f i ++ (List.range j).map (f i)).length < sizeLine := fun j hj => by
      have mono : ∀ a b, a ≤ b → (acc2 m f a).length ≤ (acc2 m f b).length := fun a b h => by
        induction h with
        | refl => exact Nat.le_refl _
        | step _ ih => rw [acc2_succ, List.length_append]; omega
      have := mono (i + 1) n lt
      rw [acc2_succ, List.length_append, List.length_map, List.length_range] at this
      rw [List.length_append, List.length_map, List.length_range]
      omega
    refine ⟨fun j k H5 => k = m i - j ∧ j ≤ m i ∧ Same H H5 ∧ H5 D = some (.lst ((acc2 m f i ++ (List.range j).map (f i)).map V.bl)), ⟨m i, by simp, Nat.zero_le _, s04, by simpa using d4⟩, ?_⟩
    rintro j _ H5 ⟨rfl, hj, s5, d5⟩
    by_cases lt1 : j < m i
    · refine .inr ⟨w1.goes j H5 lt1 (hG1 _ s5), fun H' => Same H H' ∧ H' D = some (.lst ((acc2 m f i ++ (List.range (j + 1)).map (f i)).map V.bl)), fun H' q => ⟨m i - (j + 1), by omega, rfl, lt1, q.1, q.2⟩, fun x H6 y => ?_⟩
      have y6 := w1.yields j H5 x H6 lt1 (hG1 _ s5) y
      have s6 := hY1 _ _ _ _ y6
      exact t1 j x H5 H6 _ lt1 s5 y6 fun H7 s7 => ⟨_, s7 _ _ (s6 _ _ d5), by rw [List.length_map]; exact small j lt1, Dup _ (fun b o e => s7 _ _ (s6 _ _ (s5 _ _ e))), by rw [upd_same, List.range_succ]; simp⟩
    · have e : j = m i := by omega
      subst e
      exact .inl ⟨w1.stops H5 (hG1 _ s5), s5, by rw [acc2_succ]; exact d5⟩
  · have e : i = n := by omega
    subst e
    exact .inl ⟨w.stops H1 (hG _ s1), k D H1 s1 hD d1⟩
end
end L2
namespace K02
open PySem PySem.Spec PyProof.Rows L2
abbrev PP : Program := PySem.Challenge.pw_watchtree_k02_plans_refused
def top (i : Nat) : Stmt := PP.main.body.getD i (.Pass ⟨0, 0, 0, 0⟩)
def frees : List Str := ["repr", "ValueError", "int", "bool", "str", "tuple", "list", "isinstance", "len", "range", "enumerate", "zip", "all", "any", "sorted", "set", "max", "min"]
def cInts : List (Str × Int) := [("LARGEST_VALUE", 1000000000000), ("MOST_SIGNS", 20), ("MOST_ROWS", 30), ("MOST_DEEDS", 8), ("MOST_WORK", 1000), ("MOST_TICKS_LATER", 1000000000), ("MOST_TICKS", 1000000000), ("MOST_REFUSED", 100), ("MOST_RESTARTS", 20), ("MOST_CHILDREN", 12), ("MOST_LEVELS", 20), ("MOST_PLANS", 200)]
def cStrs : List (Str × Str) := [("LETTERS", lettersS), ("SIGNS", signsS)]
def cTups : List (Str × List Str) := [("DEED_NAMES", namesS), ("TREE_WORDS", treeS), ("TREE_REASONS", reasonS), ("RESTARTS", ["permanent", "transient", "temporary"]), ("STRATEGIES", ["one", "rest", "all"])]
def clss : List Str := ["AnyWorker", "WorkerPlan", "SupervisorPlan", "PlanError", "BadSetting", "BadChild", "BadScript", "BadEntry", "BadInput", "BadReason", "BadRoot", "BadText", "BadTick", "BadValue", "BadWord"]
/-- what the module's names stand for -/
structure Txt (K : PySem.W.Frag) (mg : Str → Option Value) : Prop where
  fr : ∀ x ∈ frees, mg x = none
  ci : ∀ p ∈ cInts, ∃ u, mg p.1 = some u ∧ RelV (.int p.2) u
  cs : ∀ p ∈ cStrs, ∃ u, mg p.1 = some u ∧ RelV (.str p.2) u
  ct : ∀ p ∈ cTups, ∃ u, mg p.1 = some u ∧ RelV (.ref (He.ga K p.1)) u
  tq : ∀ p ∈ cTups, ∀ H, SqT K H (He.ga K p.1) (p.2.map V.str)
  cc : ∀ x ∈ clss, ∃ u, mg x = some u ∧ RelV (.ref (He.ga K x)) u
  pk : PKn K
  na : NoAttr K (wkA K) "script"
section
variable {K : PySem.W.Frag} {mg : Str → Option Value} (T : Txt K mg)
include T
theorem Txt.c_LARGEST_VALUE : ∃ u, mg "LARGEST_VALUE" = some u ∧ RelV (.int 1000000000000) u := T.ci ("LARGEST_VALUE", _) (by simp [cInts])
theorem Txt.c_MOST_SIGNS : ∃ u, mg "MOST_SIGNS" = some u ∧ RelV (.int 20) u := T.ci ("MOST_SIGNS", _) (by simp [cInts])
theorem Txt.c_MOST_ROWS : ∃ u, mg "MOST_ROWS" = some u ∧ RelV (.int 30) u := T.ci ("MOST_ROWS", _) (by simp [cInts])
theorem Txt.c_MOST_DEEDS : ∃ u, mg "MOST_DEEDS" = some u ∧ RelV (.int 8) u := T.ci ("MOST_DEEDS", _) (by simp [cInts])
theorem Txt.c_MOST_WORK : ∃ u, mg "MOST_WORK" = some u ∧ RelV (.int 1000) u := T.ci ("MOST_WORK", _) (by simp [cInts])
theorem Txt.c_MOST_TICKS_LATER : ∃ u, mg "MOST_TICKS_LATER" = some u ∧ RelV (.int 1000000000) u := T.ci ("MOST_TICKS_LATER", _) (by simp [cInts])
theorem Txt.c_MOST_TICKS : ∃ u, mg "MOST_TICKS" = some u ∧ RelV (.int 1000000000) u := T.ci ("MOST_TICKS", _) (by simp [cInts])
theorem Txt.c_MOST_REFUSED : ∃ u, mg "MOST_REFUSED" = some u ∧ RelV (.int 100) u := T.ci ("MOST_REFUSED", _) (by simp [cInts])
theorem Txt.c_MOST_RESTARTS : ∃ u, mg "MOST_RESTARTS" = some u ∧ RelV (.int 20) u := T.ci ("MOST_RESTARTS", _) (by simp [cInts])
theorem Txt.c_LETTERS : ∃ u, mg "LETTERS" = some u ∧ RelV (.str lettersS) u := T.cs ("LETTERS", lettersS) (by simp [cStrs])
theorem Txt.c_SIGNS : ∃ u, mg "SIGNS" = some u ∧ RelV (.str signsS) u := T.cs ("SIGNS", signsS) (by simp [cStrs])
theorem Txt.c_DEED_NAMES : ∃ u, mg "DEED_NAMES" = some u ∧ RelV (.ref (He.ga K "DEED_NAMES")) u := T.ct ("DEED_NAMES", namesS) (by simp [cTups])
theorem Txt.c_TREE_WORDS : ∃ u, mg "TREE_WORDS" = some u ∧ RelV (.ref (He.ga K "TREE_WORDS")) u := T.ct ("TREE_WORDS", treeS) (by simp [cTups])
theorem Txt.c_TREE_REASONS : ∃ u, mg "TREE_REASONS" = some u ∧ RelV (.ref (He.ga K "TREE_REASONS")) u := T.ct ("TREE_REASONS", reasonS) (by simp [cTups])
theorem Txt.c_RESTARTS : ∃ u, mg "RESTARTS" = some u ∧ RelV (.ref (He.ga K "RESTARTS")) u := T.ct ("RESTARTS", ["permanent", "transient", "temporary"]) (by simp [cTups])
theorem Txt.c_STRATEGIES : ∃ u, mg "STRATEGIES" = some u ∧ RelV (.ref (He.ga K "STRATEGIES")) u := T.ct ("STRATEGIES", ["one", "rest", "all"]) (by simp [cTups])
theorem Txt.c_AnyWorker : ∃ u, mg "AnyWorker" = some u ∧ RelV (.ref (He.ga K "AnyWorker")) u := T.cc "AnyWorker" (by simp [clss])
theorem Txt.c_WorkerPlan : ∃ u, mg "WorkerPlan" = some u ∧ RelV (.ref (He.ga K "WorkerPlan")) u := T.cc "WorkerPlan" (by simp [clss])
theorem Txt.c_SupervisorPlan : ∃ u, mg "SupervisorPlan" = some u ∧ RelV (.ref (He.ga K "SupervisorPlan")) u := T.cc "SupervisorPlan" (by simp [clss])
theorem Txt.c_PlanError : ∃ u, mg "PlanError" = some u ∧ RelV (.ref (He.ga K "PlanError")) u := T.cc "PlanError" (by simp [clss])
theorem Txt.c_BadSetting : ∃ u, mg "BadSetting" = some u ∧ RelV (.ref (He.ga K "BadSetting")) u := T.cc "BadSetting" (by simp [clss])
theorem Txt.c_BadScript : ∃ u, mg "BadScript" = some u ∧ RelV (.ref (He.ga K "BadScript")) u := T.cc "BadScript" (by simp [clss])
end
section
variable {P : Program} {w : World} {K : PySem.W.Frag} {mg : Str → Option Value} {base : Heap}
abbrev s_is_integer : Stmt := (top 10)
def N_is_integer : List Str := ["value"]
theorem sc_is_integer : FnScope N_is_integer ["value"] (defScope s_is_integer) := ⟨rfl, rfl, rfl, by decide +kernel, rfl, by decide +kernel, by decide +kernel⟩
abbrev s_is_between : Stmt := (top 11)
def N_is_between : List Str := ["value", "low", "high"]
theorem sc_is_between : FnScope N_is_between ["value", "low", "high"] (defScope s_is_between) := ⟨rfl, rfl, rfl, by decide +kernel, rfl, by decide +kernel, by decide +kernel⟩
abbrev s_is_one_of : Stmt := (top 12)
def N_is_one_of : List Str := ["value", "words"]
theorem sc_is_one_of : FnScope N_is_one_of ["value", "words"] (defScope s_is_one_of) := ⟨rfl, rfl, rfl, by decide +kernel, rfl, by decide +kernel, by decide +kernel⟩
abbrev s_is_word : Stmt := (top 13)
def N_is_word : List Str := ["value", "sign"]
theorem sc_is_word : FnScope N_is_word ["value"] (defScope s_is_word) := ⟨rfl, rfl, rfl, by decide +kernel, rfl, by decide +kernel, by decide +kernel⟩
abbrev s_is_place_name : Stmt := (top 14)
def N_is_place_name : List Str := ["value"]
theorem sc_is_place_name : FnScope N_is_place_name ["value"] (defScope s_is_place_name) := ⟨rfl, rfl, rfl, by decide +kernel, rfl, by decide +kernel, by decide +kernel⟩
abbrev s_is_sent_word : Stmt := (top 15)
def N_is_sent_word : List Str := ["value"]
theorem sc_is_sent_word : FnScope N_is_sent_word ["value"] (defScope s_is_sent_word) := ⟨rfl, rfl, rfl, by decide +kernel, rfl, by decide +kernel, by decide +kernel⟩
abbrev s_is_sent_value : Stmt := (top 16)
def N_is_sent_value : List Str := ["value"]
theorem sc_is_sent_value : FnScope N_is_sent_value ["value"] (defScope s_is_sent_value) := ⟨rfl, rfl, rfl, by decide +kernel, rfl, by decide +kernel, by decide +kernel⟩
abbrev s_is_given_reason : Stmt := (top 17)
def N_is_given_reason : List Str := ["value"]
theorem sc_is_given_reason : FnScope N_is_given_reason ["value"] (defScope s_is_given_reason) := ⟨rfl, rfl, rfl, by decide +kernel, rfl, by decide +kernel, by decide +kernel⟩
theorem inV_str (x : Str) (ws : List Str) : inV (.str x) (ws.map V.str) = ws.contains x := by
  unfold inV
  rw [List.any_map, List.contains_eq_any_beq]
  congr 1
  funext y
  show (y == x) = (x == y)
  exact BEq.comm
theorem ok_is_integer (F : Has K mg "is_integer" s_is_integer) (T : Txt K mg) : FnQ P w K mg base CX0 1 "is_integer" ["value"] (spChk K isInt) := by
  refine F.q sc_is_integer (fun _ _ _ _ _ _ us hl => match us, hl with | [_], _ => rfl) (fun vs H Q E h => by obtain ⟨v, d, rfl, _⟩ := h; rfl) (fun cdv A outer s H vs Q E hr h => ?_)
  obtain ⟨v, d, rfl, hd, k⟩ := h
  have gI : mg "isinstance" = none := T.fr _ (by simp [frees])
  refine ⟨_, PSs.nox (pss_one (ps_ret (pe_and (pe_callB call_isi (by rfl) gI boot_isinstance (pa_cons (pv 0) (pa_cons (pe_bltn (v := .ty "int") (by rfl) (T.fr "int" (by simp [frees])) PyProof.Rows.boot_int rfl) pa_nil))) (pe_one (pe_not (pe_callB call_isi (by rfl) gI boot_isinstance (pa_cons (pv 0) (pa_cons (pe_bltn (v := .ty "bool") (by rfl) (T.fr "bool" (by simp [frees])) PyProof.Rows.boot_bool rfl) pa_nil)))))))), ?_⟩
  refine ⟨_, rfl, _, _, _, _, _, rfl, .ty _, (hd).ty T.pk, T.pk.kit _ 0 (kd_lt _) (by decide), _, rfl, ?_⟩
  cases d with
  | int i => exact if_yes rfl ⟨_, rfl, _, _, _, _, _, rfl, .ty _, (hd).ty T.pk, T.pk.kit _ 1 (kd_lt _) (by decide), _, rfl, k H (Same.refl H)⟩
  | bl b => exact if_yes rfl ⟨_, rfl, _, _, _, _, _, rfl, .ty _, (hd).ty T.pk, T.pk.kit _ 1 (kd_lt _) (by decide), _, rfl, k H (Same.refl H)⟩
  | _ => exact if_no rfl (k H (Same.refl H))
theorem ok_is_between (F : Has K mg "is_between" s_is_between) (T : Txt K mg) (F_is_integer : FnQ P w K mg base CX0 1 "is_integer" ["value"] (spChk K isInt)) : FnQ P w K mg base CX0 2 "is_between" ["value", "low", "high"] (spBtw K) := by
  refine F.q sc_is_between (fun _ _ _ _ _ _ us hl => match us, hl with | [_, _, _], _ => rfl) (fun vs H Q E h => by obtain ⟨v, d, lo, hi, rfl, _⟩ := h; rfl) (fun cdv A outer s H vs Q E hr h => ?_)
  obtain ⟨v, d, lo, hi, rfl, hd, k⟩ := h
  refine ⟨_, PSs.nox (pss_one (ps_ret (pe_and (pe_f F_is_integer hr pass0 (pa_cons (pv 0) pa_nil)) (pe_one (pe_chain op_le op_le (pv 1) (pv 0) (pv 2)))))), ?_⟩
  refine ⟨_, rfl, v, d, rfl, hd, fun H' s => ⟨_, rfl, ?_⟩⟩
  cases d with
  | int i =>
    cases hd
    refine if_yes rfl ⟨_, rfl, _, rfl, _, _, rfl, rfl, _, rfl, ?_⟩
    by_cases c : lo ≤ i
    · exact if_yes (decide_eq_true c) ⟨_, rfl, _, _, rfl, rfl, by have z := k H' s; simp only [isBtw, decide_eq_true c, Bool.true_and] at z; exact z⟩
    · exact if_no (decide_eq_false c) (by have z := k H' s; simp only [isBtw, decide_eq_false c, Bool.false_and] at z; exact z)
  | _ => exact if_no rfl (k H' s)
theorem ok_is_one_of (F : Has K mg "is_one_of" s_is_one_of) (T : Txt K mg) : FnQ P w K mg base CX0 1 "is_one_of" ["value", "words"] (spOne K) := by
  refine F.q sc_is_one_of (fun _ _ _ _ _ _ us hl => match us, hl with | [_, _], _ => rfl) (fun vs H Q E h => by obtain ⟨v, d, p, ws, rfl, _⟩ := h; rfl) (fun cdv A outer s H vs Q E hr h => ?_)
  obtain ⟨v, d, p, ws, rfl, hd, hw, k⟩ := h
  have gI : mg "isinstance" = none := T.fr _ (by simp [frees])
  refine ⟨_, PSs.nox (pss_one (ps_ret (pe_and (pe_callB call_isi (by rfl) gI boot_isinstance (pa_cons (pv 0) (pa_cons (pe_bltn (v := .ty "str") (by rfl) (T.fr "str" (by simp [frees])) PyProof.Rows.boot_str rfl) pa_nil))) (pe_one (pe_cmpR op_in_seq (pv 0) (pv 1) (by first | exact nomark _ | rfl)))))), ?_⟩
  refine ⟨_, rfl, _, _, _, _, _, rfl, .ty _, (hd).ty T.pk, T.pk.kit _ 2 (kd_lt _) (by decide), _, rfl, ?_⟩
  cases d with
  | str x =>
    cases hd
    refine if_yes rfl ⟨_, rfl, _, rfl, p, _, rfl, .inr hw, rfl, (by simp [flatV]), ?_⟩
    have z := k H (Same.refl H)
    simp only [isOne, ← inV_str] at z
    exact z
  | _ => exact if_no rfl (k H (Same.refl H))
theorem ok_is_word (F : Has K mg "is_word" s_is_word) (T : Txt K mg) : FnQ P w K mg base CX0 1 "is_word" ["value"] (spChk K isWord) := by
  refine F.q sc_is_word (fun _ _ _ _ _ _ us hl => match us, hl with | [_], _ => rfl) (fun vs H Q E h => by obtain ⟨v, d, rfl, _⟩ := h; rfl) (fun cdv A outer s H vs Q E hr h => ?_)
  obtain ⟨v, d, rfl, hd, k⟩ := h
  have gI : mg "isinstance" = none := T.fr _ (by simp [frees])
  have gL : mg "len" = none := T.fr _ (by simp [frees])
  refine ⟨_, PSs.nox (pss_cons (ps_if (pw_or (pt_not (pt_val (pe_callB call_isi (by rfl) gI boot_isinstance (pa_cons (pv 0) (pa_cons (pe_bltn (v := .ty "str") (by rfl) (T.fr "str" (by simp [frees])) PyProof.Rows.boot_str rfl) pa_nil))))) (pw_or1 (pt_not (pt_chain op_le op_le pe_int (pe_callB call_len_str (by rfl) gL boot_len (pa_cons (pv 0) pa_nil)) (C8.pe_gc (by rfl) T.c_MOST_SIGNS))))).pt
  (pss_one (ps_ret pe_bl))
  pss_nil)
  (pss_one (ps_ret (pe_and (pe_cmpR op_in_sign (pe_item_str (pv 0) pe_int (fun _ _ => rfl)) (C8.pe_gc (by rfl) T.c_LETTERS) (by first | exact nomark _ | rfl)) (pe_one (pe_callB (cr_all rfl) (by rfl) (T.fr "all" (by simp [frees])) boot_all (pa_cons (pe_lc (own := [("sign", 1)]) (tt := tYes) rfl sc_is_word.nd (pi_str (pv 0)) (blkOk_by (N := N_is_word) (sc := defScope s_is_word) (by decide +kernel)) (fun _ _ _ _ _ => (pg_name (i := 1) sc_is_word.nd rfl (by first | exact .inl rfl | exact .inr rfl))) (fun _ _ _ _ _ => pts_nil) (fun _ _ _ _ _ => (pe_cmpR op_in_sign (pv 1) (C8.pe_gc (by rfl) T.c_SIGNS) (by first | exact nomark _ | rfl)))) pa_nil))))))), ?_⟩
  refine ⟨_, rfl, _, _, _, _, _, rfl, .ty _, (hd).ty T.pk, T.pk.kit _ 2 (kd_lt _) (by decide), _, rfl, ?_⟩
  cases d with
  | str x =>
    cases hd
    rename_i few
    refine if_no rfl ?_
    refine ⟨_, rfl, x, rfl, Nat.le_of_lt (small1000 few), _, _, rfl, rfl, _, rfl, ?_⟩
    by_cases c1 : (1 : Int) ≤ (x.length : Int)
    · refine if_yes (decide_eq_true c1) ?_
      refine ⟨_, _, rfl, rfl, _, rfl, ?_⟩
      by_cases c2 : (x.length : Int) ≤ 20
      · refine if_no (by simpa using c2) ?_
        have p0 : 0 < x.cps.size := by have : x.length = x.cps.size := rfl; omega
        obtain ⟨c, hc⟩ : ∃ c, x.cps[0]? = some c := ⟨x.cps[0], by simp [p0]⟩
        have e1 : decide (1 ≤ x.length) = true := decide_eq_true (by omega)
        have e2 : decide (x.length ≤ 20) = true := decide_eq_true (by omega)
        refine ⟨_, rfl, x, 0, c, rfl, rfl, by decide, by decide, by omega, hc, c, lettersS, rfl, rfl, _, rfl, ?_⟩
        by_cases c3 : c ∈ lettersS.cps.toList
        · refine if_yes (decide_eq_true c3) ?_
          refine ⟨_, rfl, x, rfl, comp_val walk_str (f := fun i => .bl (match x.cps[i]? with
            | some c => decide (c ∈ signsS.cps.toList)
            | none => false)) ?_ (fun _ _ => True.intro) (fun i H x H' y b o e => by rw [y.1]; exact e) ?_ ?_⟩
          · have := small1000 few
            exact this
          · rintro i v H1 H2 R hi s1 ⟨rfl, c, hc2, rfl⟩ r
            refine ⟨rfl, _, rfl, c, signsS, rfl, rfl, ?_⟩
            have z := r H2 (Same.refl H2)
            simp only [hc2] at z
            exact z
          · intro p H' s1 n1 l1
            have em : ((List.range x.cps.size).map fun i => V.bl (match x.cps[i]? with
              | some c => decide (c ∈ signsS.cps.toList)
              | none => false)) = (x.cps.toList.map fun c => decide (c ∈ signsS.cps.toList)).map V.bl := by
              apply List.ext_getElem
              · simp
              · intro i h1 h2
                simp at h1
                simp [h1]
            rw [em] at l1
            refine ⟨p, _, rfl, SqL.of l1, ?_⟩
            have z := k H' s1
            simp only [isWord, wordS, e1, e2, hc, decide_eq_true c3, Bool.and_true, Bool.true_and] at z
            rw [List.all_map]
            exact z
        · refine if_no (decide_eq_false c3) ?_
          have z := k H (Same.refl H)
          simp only [isWord, wordS, e1, e2, hc, decide_eq_false c3, Bool.and_false, Bool.false_and] at z
          exact z
      · refine if_yes (by simpa using c2) ?_
        have z := k H (Same.refl H)
        simp only [isWord, wordS, decide_eq_false (show ¬ x.length ≤ 20 by omega), Bool.and_false, Bool.false_and] at z
        exact z
    · refine if_no (decide_eq_false c1) ?_
      have z := k H (Same.refl H)
      simp only [isWord, wordS, decide_eq_false (show ¬ 1 ≤ x.length by omega), Bool.false_and] at z
      exact ⟨_, rfl, if_yes rfl z⟩
  | _ => exact if_yes rfl (if_yes rfl (k H (Same.refl H)))
theorem ok_is_place_name (F : Has K mg "is_place_name" s_is_place_name) (T : Txt K mg) (F_is_word : FnQ P w K mg base CX0 1 "is_word" ["value"] (spChk K isWord)) : FnQ P w K mg base CX0 2 "is_place_name" ["value"] (spChk K isPlace) := by
  refine F.q sc_is_place_name (fun _ _ _ _ _ _ us hl => match us, hl with | [_], _ => rfl) (fun vs H Q E h => by obtain ⟨v, d, rfl, _⟩ := h; rfl) (fun cdv A outer s H vs Q E hr h => ?_)
  obtain ⟨v, d, rfl, hd, k⟩ := h
  refine ⟨_, PSs.nox (pss_one (ps_ret (pe_and (pe_f F_is_word hr pass0 (pa_cons (pv 0) pa_nil)) (pe_one (pe_cmpR op_notIn_seq (pv 0) (C8.pe_gc (by rfl) T.c_DEED_NAMES) (by first | exact nomark _ | rfl)))))), ?_⟩
  refine ⟨_, rfl, v, d, rfl, hd, fun H' s => ⟨_, rfl, ?_⟩⟩
  have z := k H' s
  have hw : ∀ H, SqT K H (He.ga K "DEED_NAMES") (namesS.map V.str) := T.tq ("DEED_NAMES", namesS) (by simp [cTups])
  cases d with
  | str x =>
    cases hd
    by_cases c : isWord (.str x) = true
    · refine if_yes c ⟨_, rfl, _, _, rfl, .inr (hw H'), rfl, by simp [flatV], ?_⟩
      rw [inV_str]
      simp only [isPlace, c, Bool.true_and] at z
      exact z
    · have c : isWord (.str x) = false := by simpa using c
      refine if_no c ?_
      simp only [isPlace, c, Bool.false_and] at z
      exact z
  | _ => exact if_no rfl z
theorem ok_is_sent_word (F : Has K mg "is_sent_word" s_is_sent_word) (T : Txt K mg) (F_is_word : FnQ P w K mg base CX0 1 "is_word" ["value"] (spChk K isWord)) : FnQ P w K mg base CX0 2 "is_sent_word" ["value"] (spChk K isSent) := by
  refine F.q sc_is_sent_word (fun _ _ _ _ _ _ us hl => match us, hl with | [_], _ => rfl) (fun vs H Q E h => by obtain ⟨v, d, rfl, _⟩ := h; rfl) (fun cdv A outer s H vs Q E hr h => ?_)
  obtain ⟨v, d, rfl, hd, k⟩ := h
  refine ⟨_, PSs.nox (pss_one (ps_ret (pe_and (pe_f F_is_word hr pass0 (pa_cons (pv 0) pa_nil)) (pe_one (pe_cmpR op_notIn_seq (pv 0) (C8.pe_gc (by rfl) T.c_TREE_WORDS) (by first | exact nomark _ | rfl)))))), ?_⟩
  refine ⟨_, rfl, v, d, rfl, hd, fun H' s => ⟨_, rfl, ?_⟩⟩
  have z := k H' s
  have hw : ∀ H, SqT K H (He.ga K "TREE_WORDS") (treeS.map V.str) := T.tq ("TREE_WORDS", treeS) (by simp [cTups])
  cases d with
  | str x =>
    cases hd
    by_cases c : isWord (.str x) = true
    · refine if_yes c ⟨_, rfl, _, _, rfl, .inr (hw H'), rfl, by simp [flatV], ?_⟩
      rw [inV_str]
      simp only [isSent, c, Bool.true_and] at z
      exact z
    · have c : isWord (.str x) = false := by simpa using c
      refine if_no c ?_
      simp only [isSent, c, Bool.false_and] at z
      exact z
  | _ => exact if_no rfl z
theorem ok_is_given_reason (F : Has K mg "is_given_reason" s_is_given_reason) (T : Txt K mg) (F_is_word : FnQ P w K mg base CX0 1 "is_word" ["value"] (spChk K isWord)) : FnQ P w K mg base CX0 2 "is_given_reason" ["value"] (spChk K isGiven) := by
  refine F.q sc_is_given_reason (fun _ _ _ _ _ _ us hl => match us, hl with | [_], _ => rfl) (fun vs H Q E h => by obtain ⟨v, d, rfl, _⟩ := h; rfl) (fun cdv A outer s H vs Q E hr h => ?_)
  obtain ⟨v, d, rfl, hd, k⟩ := h
  refine ⟨_, PSs.nox (pss_one (ps_ret (pe_and (pe_f F_is_word hr pass0 (pa_cons (pv 0) pa_nil)) (pe_one (pe_cmpR op_notIn_seq (pv 0) (C8.pe_gc (by rfl) T.c_TREE_REASONS) (by first | exact nomark _ | rfl)))))), ?_⟩
  refine ⟨_, rfl, v, d, rfl, hd, fun H' s => ⟨_, rfl, ?_⟩⟩
  have z := k H' s
  have hw : ∀ H, SqT K H (He.ga K "TREE_REASONS") (reasonS.map V.str) := T.tq ("TREE_REASONS", reasonS) (by simp [cTups])
  cases d with
  | str x =>
    cases hd
    by_cases c : isWord (.str x) = true
    · refine if_yes c ⟨_, rfl, _, _, rfl, .inr (hw H'), rfl, by simp [flatV], ?_⟩
      rw [inV_str]
      simp only [isGiven, c, Bool.true_and] at z
      exact z
    · have c : isWord (.str x) = false := by simpa using c
      refine if_no c ?_
      simp only [isGiven, c, Bool.false_and] at z
      exact z
  | _ => exact if_no rfl z
theorem ok_is_sent_value (F : Has K mg "is_sent_value" s_is_sent_value) (T : Txt K mg) (F_is_between : FnQ P w K mg base CX0 2 "is_between" ["value", "low", "high"] (spBtw K)) : FnQ P w K mg base CX0 3 "is_sent_value" ["value"] (spChk K isVal) := by
  refine F.q sc_is_sent_value (fun _ _ _ _ _ _ us hl => match us, hl with | [_], _ => rfl) (fun vs H Q E h => by obtain ⟨v, d, rfl, _⟩ := h; rfl) (fun cdv A outer s H vs Q E hr h => ?_)
  obtain ⟨v, d, rfl, hd, k⟩ := h
  refine ⟨_, PSs.nox (pss_one (ps_ret (pe_f F_is_between hr pass0 (pa_cons (pv 0) (pa_cons (pe_un un_neg (C8.pe_gc (by rfl) T.c_LARGEST_VALUE)) (pa_cons (C8.pe_gc (by rfl) T.c_LARGEST_VALUE) pa_nil)))))), ?_⟩
  exact ⟨_, rfl, _, rfl, v, d, _, _, rfl, hd, k⟩
end
end K02
namespace K02H
open PySem PySem.Spec PyProof.Rows L2 K02
abbrev wN : List Str := ["name", "restart", "opening", "closing", "deadline", "refused", "script"]
abbrev sN : List Str := ["name", "children", "restart", "strategy", "most", "span", "deadline"]
abbrev kN : List Str := ["BadSetting", "BadChild", "BadEntry", "BadInput", "BadReason", "BadRoot", "BadScript", "BadText", "BadTick", "BadValue", "BadWord"]
def vE : List Value := [.type "ValueError", .type "Exception", .type "BaseException", .type "object"]
/-- the address of the empty tuple among WorkerPlan's defaults -/
def dsAt (K : PySem.W.Frag) : Addr := match K.lookup (He.ma K (wkA K) "__init__") with
  | some ⟨_, _, .func fd, _⟩ => (match fd.kwdefaults with
    | .ref D => (match PySem.W.nsIn K D "script" with
      | some (some (.ref a)) => a
      | _ => 0)
    | _ => 0)
  | _ => 0
def dF (x : Str) (i : Nat) : He.DefD := ⟨(x, none), x, x, defArgs (top i), defBody (top i), defScope (top i), [], []⟩
def dI (c : Str) (i : Nat) : He.DefD := ⟨(c, some "__init__"), "__init__", c ++ ".__init__", defArgs (inClass (top i) 0), defBody (inClass (top i) 0), defScope (inClass (top i) 0), [], []⟩
def dW : He.DefD := ⟨("WorkerPlan", some "__init__"), "__init__", "WorkerPlan.__init__", defArgs (inClass (top 54) 0), defBody (inClass (top 54) 0), defScope (inClass (top 54) 0), [], [("restart", .str "permanent"), ("opening", .int 0), ("closing", .int 0), ("deadline", .non), ("refused", .int 0), ("script", .adr dsAt)]⟩
def dLw : He.DefD := ⟨("WorkerPlan", some "__len__"), "__len__", "WorkerPlan.__len__", defArgs (inClass (top 54) 2), defBody (inClass (top 54) 2), defScope (inClass (top 54) 2), [], []⟩
def dLs : He.DefD := ⟨("SupervisorPlan", some "__len__"), "__len__", "SupervisorPlan.__len__", defArgs (inClass (top 55) 2), defBody (inClass (top 55) 2), defScope (inClass (top 55) 2), [], []⟩
def dS : He.DefD := ⟨("SupervisorPlan", some "__init__"), "__init__", "SupervisorPlan.__init__", defArgs (inClass (top 55) 0), defBody (inClass (top 55) 0), defScope (inClass (top 55) 0), [], [("restart", .str "permanent"), ("strategy", .str "one"), ("most", .int 1), ("span", .int 10), ("deadline", .non)]⟩
def fns1 : List (Str × Nat) := [("is_integer", 10), ("is_between", 11), ("is_one_of", 12), ("is_word", 13), ("is_place_name", 14), ("is_sent_word", 15), ("is_sent_value", 16), ("is_given_reason", 17), ("is_deed", 37), ("_is_item", 38), ("_is_deed_value", 39), ("_has_add", 40), ("_is_row", 41), ("_are_deeds", 42), ("wrong_row", 43), ("is_script", 44), ("is_plan", 56), ("_is_deadline", 57)]
def fns2 : List (Str × Nat) := [("_check_settings", 58), ("_check_children", 59), ("plans_in", 60), ("levels_of", 62), ("_law_begun", 64), ("_law_next", 65), ("_law_of", 66), ("_law_scripts", 67), ("_law_odd", 68), ("_law_good", 69), ("_law_greatest", 70), ("_law_greater", 71), ("_law_sup", 72), ("_law_made", 73), ("_law_told", 74), ("_law_deep", 75), ("_law_broad", 76), ("_law_children", 77)]
def fns3 : List (Str × Nat) := [("_law_fields_right", 78), ("law", 79)]
def fns : List (Str × Nat) := fns1 ++ (fns2 ++ (fns3))
def fn : List He.DefD := dW :: dS :: dLw :: dLs :: (fns.map (fun p => dF p.1 p.2) ++ [dI "BadSetting" 20, dI "BadChild" 21, dI "BadScript" 26])
def tupB (K : PySem.W.Frag) (a : Addr) (xs : List V) : Bool := match K.lookup a with
  | some ⟨.type c, _, .seq its _, _⟩ => decide (c = "tuple") && (decide (its.size ≤ 1000) && He.relAll xs its.toList)
  | _ => false
def insB (K : PySem.W.Frag) (x : Str) : Bool := (He.Fa.cls x).ok K && (decide (PySem.W.findIn K (.ref (He.ga K x)) "__class__" = some (some (.builtin "object.__class__"))) && (decide (PySem.W.specialIn K (.builtin "object.__class__") "__get__" = some (some (.builtin "getset_descriptor.__get__"))) &&
  (decide (PySem.W.takesIn K (.builtin "object.__class__") = some true) && (decide (PySem.W.mroIn K (He.ga K x) (.type "object") = some true) && decide (PySem.W.kitOne K (.ref (He.ga K x)) (.ref (He.ga K x)) = some true)))))
def errB (K : PySem.W.Frag) (x f : Str) : Bool := (He.Fa.glo x).ok K && (xclB K (He.ga K x) "ValueError.__new__" vE && (decide (PySem.W.findIn K (.ref (He.ga K x)) "__init__" = some (some (.ref (He.ma K (He.ga K x) "__init__")))) && (decide (PySem.W.typeIn K (.ref (He.ma K (He.ga K x) "__init__")) = some (.type "function")) &&
  (decide (PySem.W.findIn K (.ref (He.ga K x)) f = some none) && decide (PySem.W.typeIn K (.ref (He.ga K x)) = some (.type "type"))))))
/-- the deeds' table: its keys, and what lies at each -/
def deedsB (K : PySem.W.Frag) : Bool := deedItems.all fun p => match PySem.W.nsIn K (He.ga K "DEED_ITEMS") p.1 with
  | some (some (.ref a)) => tupB K a (p.2.map V.str)
  | _ => false
def keysB (K : PySem.W.Frag) : Bool := match K.lookup (He.ga K "DEED_ITEMS") with
  | some ⟨_, _, .dict es _, _⟩ => es.toList.all fun e => match e.key with
    | .str x _ => (deedItems.lookup x).isSome
    | _ => false
  | _ => false
def frag1 : List Str := "DEED_ITEMS" :: clss
def errTB (K : PySem.W.Frag) : Bool := decide (PySem.W.exmOne K (.ref (He.ga K "BadSetting")) (.ref (He.ga K "PlanError")) = some true) && (decide (PySem.W.exmOne K (.ref (He.ga K "BadChild")) (.ref (He.ga K "PlanError")) = some true) && ((kN.all fun p => decide (PySem.W.kitOne K (.ref (He.ga K "BadSetting")) (.ref (He.ga K p)) = some (decide (p = "BadSetting")))) &&
  ((kN.all fun p => decide (PySem.W.kitOne K (.ref (He.ga K "BadChild")) (.ref (He.ga K p)) = some (decide (p = "BadChild")))) && (decide (PySem.W.kitOne K (.ref (He.ga K "BadSetting")) (.type "ValueError") = some true) && (decide (PySem.W.kitOne K (.ref (He.ga K "BadChild")) (.type "ValueError") = some true) &&
  (decide (PySem.W.kitOne K (.ref (He.ga K "BadSetting")) (.ref (He.ga K "PlanError")) = some true) && decide (PySem.W.kitOne K (.ref (He.ga K "BadChild")) (.ref (He.ga K "PlanError")) = some true)))))))
def lensB (K : PySem.W.Frag) : Bool := decide (PySem.W.findIn K (.ref (wkA K)) "__len__" = some (some (.ref (He.ma K (wkA K) "__len__")))) && (decide (PySem.W.typeIn K (.ref (He.ma K (wkA K) "__len__")) = some (.type "function")) && (decide (PySem.W.findIn K (.ref (suA K)) "__len__" = some (some (.ref (He.ma K (suA K) "__len__")))) && decide (PySem.W.typeIn K (.ref (He.ma K (suA K) "__len__")) = some (.type "function"))))
def fa : List He.Fx := [fun K => (frag1 ++ (cTups.map (·.1) ++ fns.map (·.1))).all fun x => (He.Fa.glo x).ok K, fun K => frees.all fun x => (He.Fa.free x).ok K, fun K => cInts.all fun p => (He.Fa.int p.1 p.2).ok K, fun K => cStrs.all fun p => (He.Fa.str p.1 p.2).ok K,
  fun K => cTups.all fun p => tupB K (He.ga K p.1) (p.2.map V.str), fun K => insB K "WorkerPlan", fun K => insB K "SupervisorPlan", kitD, fun K => wN.all fun f => (He.Fa.noat "WorkerPlan" f).ok K, fun K => (He.Fa.mkr "WorkerPlan").ok K, fun K => tupB K (dsAt K) [], deedsB, keysB,
  fun K => errB K "BadSetting" "setting", fun K => errB K "BadScript" "index", fun K => sN.all fun f => (He.Fa.noat "SupervisorPlan" f).ok K, fun K => (He.Fa.mkr "SupervisorPlan").ok K, errTB, lensB, fun K => errB K "BadChild" "index", fun K => sysOk K]
def ts : List He.Tab := [(fun K => He.ga K "DEED_ITEMS", deedItems.map (·.1))]
abbrev R : PySem.W.OpenRow := PySem.W.OpenLaw.row PySem.Challenge.rw_watchtree_k02_plans_refused
abbrev hk : PySem.W.Hook := He.hookXT 4 [dsAt] fa fn ts
def ob (s : PySem.W.SharedT) : He.AlT := He.obsXTG 4 [dsAt] fa fn ts (HandSHeadRun.getT s)
theorem ob_eq (s : PySem.W.SharedT) : ob s = hk.obs s.abs := He.obsXTG_eq (HandSHeadRun.getT_eq s)
def loose1 : List Str := ["AnyWorker", "LARGEST_VALUE", "MOST_SIGNS", "LETTERS", "SIGNS", "DEED_NAMES", "TREE_WORDS", "TREE_REASONS", "is_integer", "is_between", "is_one_of", "is_word", "is_place_name", "is_sent_word", "is_sent_value", "is_given_reason", "PlanError", "BadSetting", "BadChild", "BadRoot"]
def loose2 : List Str := ["BadText", "BadTick", "BadReason", "BadScript", "BadWord", "BadValue", "BadEntry", "BadInput", "MOST_ROWS", "MOST_DEEDS", "MOST_WORK", "MOST_TICKS_LATER", "DEED_ITEMS", "is_deed", "_is_item", "_is_deed_value", "_has_add", "_is_row", "_are_deeds", "wrong_row"]
def loose3 : List Str := ["is_script", "RESTARTS", "STRATEGIES", "MOST_TICKS", "MOST_REFUSED", "MOST_RESTARTS", "MOST_CHILDREN", "MOST_LEVELS", "MOST_PLANS", "WorkerPlan", "SupervisorPlan", "is_plan", "_is_deadline", "_check_settings", "_check_children", "plans_in", "names", "levels_of", "_law_begun", "_law_next"]
def loose4 : List Str := ["_law_of", "_law_scripts", "_law_odd", "_law_good", "_law_greatest", "_law_greater", "_law_sup", "_law_made", "_law_told", "_law_deep", "_law_broad", "_law_children", "_law_fields_right"]
def loose : List Str := loose1 ++ (loose2 ++ (loose3 ++ (loose4)))
theorem run_f (w : World) : HandSHeadRun.RunEq R (PySem.W.view R.prog [79]) hk ob 20000 loose (w.withFollow "special-get-raises" false) := by
  intro os
  kernel_rfl
theorem run_t (w : World) : HandSHeadRun.RunEq R (PySem.W.view R.prog [79]) hk ob 20000 loose (w.withFollow "special-get-raises" true) := by
  intro os
  kernel_rfl
theorem run (w : World) : HandSHeadRun.RunEq R (PySem.W.view R.prog [79]) hk ob 20000 loose w :=
  PySem.W.byRow2 "special-get-raises" (P := fun w => HandSHeadRun.RunEq R (PySem.W.view R.prog [79]) hk ob 20000 loose w) run_f run_t w
end K02H
/-! zip of a tuple and a list -/
namespace L2
open PySem PySem.Spec PyProof.Rows
/-- the tuple at a and the list at b, item by item, in new pairs -/
def ItzM (K : PySem.W.Frag) (a b : Addr) : It where
  go := fun i H => ∃ (us ws : List V), SqT K H a us ∧ SqL K H b ws ∧ i < us.length ∧ i < ws.length
  yld := fun i H v H' => ∃ T x y, v = .ref T ∧ H T = none ∧ H' = upd H T (.tup [x, y]) ∧ (∀ us, SqT K H a us → us[i]? = some x) ∧ ∀ ws, SqL K H b ws → ws[i]? = some y
  stop := fun i H => ∃ (us ws : List V), SqT K H a us ∧ SqL K H b ws ∧ i ≤ us.length ∧ i ≤ ws.length ∧ (i = us.length ∨ i = ws.length)
abbrev StM (z TI TO i1 i2 a b : Addr) : Nat → Heap → Prop := fun i h => IsZip h z TI TO .none ∧ PySem.IsTupOf2 h TI (.ref i1) (.ref i2) ∧ (∃ p q, PySem.IsTupOf2 h TO p q) ∧ h.IsTupleIter i1 a i ∧ h.IsListIter i2 b i
theorem turnM {P : Program} {w : World} {K : PySem.W.Frag} {elts : List Expr} {kk : Nat} {tpos : Pos} {a b z TI TO i1 i2 : Addr} (S : PySem.ZipSep2 z TI TO i1 i2 [i1, a] [i2, b]) (na : a ≠ i1) (nb : b ≠ i2) :
    Turn P w K (.Tuple elts kk tpos) (ItzM K a b) [z, TI, TO, i1, i2] z (StM z TI TO i1 i2 a b) where
  mem := by simp
  obj := by
    rintro i h ⟨g1, g2, ⟨p, q, g3⟩, ⟨o1, e1, _, d1⟩, ⟨o2, e2, _, d2⟩⟩ c hc
    simp only [List.mem_cons, List.not_mem_nil, or_false] at hc
    rcases hc with rfl | rfl | rfl | rfl | rfl
    · exact ⟨_, g1, by rintro _ ⟨⟩⟩
    · exact ⟨_, g2, by rintro _ ⟨⟩⟩
    · exact ⟨_, g3, by rintro _ ⟨⟩⟩
    · exact ⟨o1, e1, by rintro _ j; rw [d1] at j; cases j⟩
    · exact ⟨o2, e2, by rintro _ j; rw [d2] at j; cases j⟩
  keep := by
    rintro i h h2 ⟨g1, g2, ⟨p, q, g3⟩, g4, g5⟩ kp
    exact ⟨kp _ (by simp) _ g1, kp _ (by simp) _ g2, ⟨p, q, kp _ (by simp) _ g3⟩, g4.at (kp i1 (by simp)), g5.at (kp i2 (by simp))⟩
  item := by
    rintro X rfl rfl rfl calm i pins s σ H E I apart ⟨g1, g2, ⟨p, q, g3⟩, g4, g5⟩ ⟨us, ws, hu, hw, lu, lw⟩
    obtain ⟨ts, rt, pt, _⟩ := I.tuple hu
    obtain ⟨ls, rl, pl, _⟩ := I.list hw
    have free := I.ok.hd calm
    have zl : z < s.heap.objs.size := Heap.lt_size g1
    obtain ⟨x, hx⟩ : ∃ x, us[i]? = some x := ⟨us[i], by simp [lu]⟩
    obtain ⟨y, hy⟩ : ∃ y, ws[i]? = some y := ⟨ws[i], by simp [lw]⟩
    have len1 : ts.toArray.size = us.length := by simpa using rt.length.symm
    have len2 : ls.toArray.size = ws.length := by simpa using rl.length.symm
    refine PySem.wpAny_pyNext_zipD2_item S (Draws.tuple (A := X.A.in1) free i1 a na ts.toArray) (Draws.list (A := X.A.in1) free i2 b nb ls.toArray) g1 g2 g3 (i := i) ⟨g4, pt⟩ ⟨g5, pl.isList⟩ (by omega) (by omega) ?_
    rintro u v h1 tk eu ev j1 j2 ⟨j3, _⟩ ⟨j4, _⟩ j5 _ kp
    obtain ⟨u2, gu, ru⟩ := rt.get hx
    obtain ⟨v2, gv, rv⟩ := rl.get hy
    have qu : u2 = u := by simpa [gu] using eu
    have qv : v2 = v := by simpa [gv] using ev
    subst qu qv
    refine ⟨_, rfl, wpAny_letOwnedTupleGo_zip (s := { s with heap := h1, toks := tk }) j1 fun h2 j6 sb => ?_⟩
    have at_new : h2.get? s.heap.objs.size = some { cls := .type "tuple", data := .seq #[u2, v2] } := (sb.2 _ (Nat.ne_of_gt zl)).trans j5
    have fresh := I.hok.fresh (Nat.le_refl s.heap.objs.size)
    have J : Inv X pins σ (upd H s.heap.objs.size (.tup [x, y])) { s with heap := h2, toks := tk } := by
      refine I.turnedNew (ch := [z, TI, TO, i1, i2]) (fun c o hc e => ?_) apart (Nat.le_refl _) ⟨(by show 2 ≤ sizeLine; decide), [u2, v2], .cons ru (.cons rv .nil), ⟨_, at_new, rfl, _, rfl⟩⟩
      simp only [List.mem_cons, List.not_mem_nil, or_false, not_or] at hc
      exact (sb.2 c hc.1).trans (kp c o hc.1 hc.2.2.1 hc.2.2.2.1 hc.2.2.2.2 e)
    refine ⟨.ref s.heap.objs.size, _, J, rfl, ⟨_, x, y, rfl, fresh, rfl, fun l hl => by rw [I.tuple_inj hl hu]; exact hx, fun l hl => by rw [I.list_inj hl hw]; exact hy⟩, ⟨j6, ?_, ⟨u2, v2, ?_⟩, ?_, ?_⟩, fun c hc => ?_⟩
    · exact (sb.2 _ S.TIz).trans (kp _ _ S.TIz S.TITO S.TIi1 S.TIi2 g2)
    · exact (sb.2 _ S.TOz).trans j2
    · exact j3.at fun o e => (sb.2 _ S.zi1.symm).trans e
    · exact j4.at fun o e => (sb.2 _ S.zi2.symm).trans e
    · have lt : c < s.heap.objs.size := by
        simp only [List.mem_cons, List.not_mem_nil, or_false] at hc
        rcases hc with rfl | rfl | rfl | rfl | rfl
        · exact zl
        · exact Heap.lt_size g2
        · exact Heap.lt_size g3
        · obtain ⟨_, e, _⟩ := g4; exact Heap.lt_size e
        · obtain ⟨_, e, _⟩ := g5; exact Heap.lt_size e
      rw [upd_ne (Nat.ne_of_lt lt)]
      exact (apart c hc).1
  done := by
    rintro X rfl rfl rfl calm i pins s σ H E I apart ⟨g1, g2, ⟨p, q, g3⟩, g4, g5⟩ ⟨us, ws, hu, hw, lu, lw, fin⟩
    obtain ⟨ts, rt, pt, _⟩ := I.tuple hu
    obtain ⟨ls, rl, pl, _⟩ := I.list hw
    have free := I.ok.hd calm
    have len1 : ts.toArray.size = us.length := by simpa using rt.length.symm
    have len2 : ls.toArray.size = ws.length := by simpa using rl.length.symm
    refine PySem.wpAny_pyNext_zipD2_end S (Draws.tuple (A := X.A.in1) free i1 a na ts.toArray) (Draws.list (A := X.A.in1) free i2 b nb ls.toArray) g1 g2 g3 (i := i) ⟨g4, pt⟩ ⟨g5, pl.isList⟩ (by omega) (by omega) (by omega) fun h1 tk kp => ⟨rfl, ?_⟩
    refine I.turnedL (t' := tk) (ch := [z, TI, TO, i1, i2]) (fun c o hc e => ?_) apart
    simp only [List.mem_cons, List.not_mem_nil, or_false, not_or] at hc
    exact kp c o hc.1 hc.2.2.1 hc.2.2.2.1 hc.2.2.2.2 e
  self := fun A i s Q E st h => wpAny_pyIter_zip st.1 h
def iZipM (K : PySem.W.Frag) (ta : TA) : TI := fun σ H R => ta σ H fun vs H1 => ∃ a b us ws, vs = [.ref a, .ref b] ∧ SqT K H1 a us ∧ SqL K H1 b ws ∧ R (ItzM K a b) H1
theorem pi_zipM {X : Cx} {e e2 : Expr} {ta : TA} {p pos tpos : Pos} {elts : List Expr} {kk : Nat} (hg : Gl X "zip") (hm : X.mg "zip" = none) (ha : PA X [e, e2] ta) (hs : starEach [e, e2] X.env = (false, eval e X.env) :: starEach [e2] X.env := by rfl)
    (hpl : (backTo pos (starEach [e2] X.env)).any (·.1) = false := by rfl) : PI X (.Tuple elts kk tpos) (.Call (.Name "zip" p) [e, e2] [] pos) (iZipM X.K ta) := by
  refine ⟨fun pins s σ H R I h => Call_ (ld_blt I hg hm PyProof.Rows.boot_zip (PyProof.Rows.callWith_type1 (thn (ha.run pos pins s σ H _ I h) ?_) hs hpl))⟩
  rintro us s1 ⟨vs, H1, I1, r1, a, b, xs, ys, rfl, hu, hw, q⟩
  obtain ⟨u1, u2, rfl, r2, r3⟩ := vals2 r1
  cases (show u1 = Value.ref a from r2)
  cases (show u2 = Value.ref b from r3)
  obtain ⟨ts, rt, pt, _⟩ := I1.tuple hu
  obtain ⟨ls, rl, pl, _⟩ := I1.list hw
  have la : a < s1.heap.objs.size := by obtain ⟨_, e, _⟩ := id pt; exact Heap.lt_size e
  have lb : b < s1.heap.objs.size := pl.lt
  refine PySem.zip_begins2 (PySem.begins_tuple a ts.toArray) (PySem.begins_list b ls.toArray) pt pl.isList fun h1 g1 g2 g3 g4 g5 _ kp => wpAny_pyIter_zip g1 ?_
  refine ⟨_, _, _, _, H1, rfl, I1.kept (t' := s1.toks) kp, turnM (zip_sep2 (N := s1.heap.objs.size) (fp1 := [a]) (fp2 := [b]) (by simpa using la) (by simpa using lb)) (Nat.ne_of_lt la) (Nat.ne_of_lt (Nat.lt_succ_of_lt lb)), ⟨g1, g2, ⟨_, _, g3⟩, ⟨_, g4, rfl, rfl⟩, ⟨_, g5, rfl, rfl⟩⟩, fun c hc => ?_, q⟩
  have ge : s1.heap.objs.size ≤ c := by
    simp only [List.mem_cons, List.not_mem_nil, or_false] at hc
    rcases hc with rfl | rfl | rfl | rfl | rfl
    · exact Nat.le_add_right _ 4
    · exact Nat.le_add_right _ 2
    · exact Nat.le_add_right _ 3
    · exact Nat.le_refl _
    · exact Nat.le_add_right _ 1
  exact I1.fpOk ge (I1.hok.fresh ge)
theorem walk_zipM {K : PySem.W.Frag} {a b : Addr} {us ws : List V} (hl : us.length = ws.length) : Walk (ItzM K a b) us.length (fun H => SqT K H a us ∧ SqL K H b ws) (YPair (fun i => us[i]?) (fun i => ws[i]?)) := by
  refine ⟨fun i H hi q => ⟨us, ws, q.1, q.2, hi, by omega⟩, fun H q => ⟨us, ws, q.1, q.2, Nat.le_refl _, by omega, .inl rfl⟩, fun i H v H2 hi q y => ?_⟩
  obtain ⟨T, x, z, e1, e2, e3, e4, e5⟩ := y
  exact ⟨T, x, z, e1, e2, e3, e4 us q.1, e5 ws q.2⟩
end L2
/-! rules with K given by name, for the inside of a comprehension -/
namespace L2
open PySem PySem.Spec PyProof.Rows
section
variable {X : Cx}
theorem pi_tupK (K : PySem.W.Frag) {tg l : Expr} {tl : TE} (hl : PE X l tl) (h : X.K = K := by rfl) : PI X tg l (iTup K tl) := by
  subst h; exact pi_tup hl
theorem pi_listK (K : PySem.W.Frag) {tg l : Expr} {tl : TE} (hl : PE X l tl) (h : X.K = K := by rfl) : PI X tg l (iList K tl) := by
  subst h; exact pi_list hl
theorem ix_tupK (K : PySem.W.Frag) (h : X.K = K := by rfl) : IxR X (rIxT K) := by
  subst h; exact ix_tup
theorem ix_listK (K : PySem.W.Frag) (h : X.K = K := by rfl) : IxR X (rIxL K) := by
  subst h; exact ix_list
theorem op_inK (K : PySem.W.Frag) (h : X.K = K := by rfl) : OpR X (compareOp .In) (rIn K false) := by
  subst h; exact op_in_seq
theorem cr_isiK (K : PySem.W.Frag) (h : X.K = K := by rfl) : CallR X (.builtin "isinstance") (rIsi K) := by
  subst h; exact call_isi
theorem pe_fldK (K : PySem.W.Frag) {e : Expr} {ta : TE} {f : Str} {pos : Pos} (he : PE X e ta) (hb : attributeBase e f X.env (eval e X.env) = eval e X.env) (h : X.K = K := by rfl) : PE X (.Attribute e f pos) (tFld K ta f) := by
  subst h; exact pe_fld he hb
theorem pg_tupK (K : PySem.W.Frag) (n : Nat) {es : List Expr} {m : Nat} {t : TGs} {pos : Pos} (hc : X.calm = true) (q : PGs X es t) (h : X.K = K := by rfl) (hn : (assignEach es X.env).length = n := by rfl) (hst : (assignEach es X.env).findIdx? (·.1) = none := by rfl) : PG X (.Tuple es m pos) (gTup K n t) := by
  subst h; exact pg_tup hc q hn hst
end
end L2
namespace K02
open PySem PySem.Spec PyProof.Rows L2
/-- the table of the deeds -/
structure Tab (K : PySem.W.Frag) (w : World) (mg : Str → Option Value) : Prop where
  gl : ∃ u, mg "DEED_ITEMS" = some u ∧ RelV (.ref (He.ga K "DEED_ITEMS")) u
  kd : ∃ es n, KDict K w (He.ga K "DEED_ITEMS") es n
  at_ : ∀ x ks, deedItems.lookup x = some ks → ∃ a, PySem.W.nsIn K (He.ga K "DEED_ITEMS") x = some (some (.ref a)) ∧ ∀ H, SqT K H a (ks.map V.str)
  no : ∀ x, deedItems.lookup x = none → PySem.W.nsIn K (He.ga K "DEED_ITEMS") x = some none
section
variable {P : Program} {w : World} {K : PySem.W.Frag} {mg : Str → Option Value} {base : Heap}
abbrev s_is_deed : Stmt := (top 37)
def N_is_deed : List Str := ["value", "sort", "items", "kinds", "kind", "item"]
theorem sc_is_deed : FnScope N_is_deed ["value"] (defScope s_is_deed) := ⟨rfl, rfl, rfl, by decide +kernel, rfl, by decide +kernel, by decide +kernel⟩
abbrev s_is_item : Stmt := (top 38)
def N_is_item : List Str := ["kind", "item"]
theorem sc_is_item : FnScope N_is_item ["kind", "item"] (defScope s_is_item) := ⟨rfl, rfl, rfl, by decide +kernel, rfl, by decide +kernel, by decide +kernel⟩
abbrev s_is_deed_value : Stmt := (top 39)
def N_is_deed_value : List Str := ["value", "sign", "amount"]
theorem sc_is_deed_value : FnScope N_is_deed_value ["value"] (defScope s_is_deed_value) := ⟨rfl, rfl, rfl, by decide +kernel, rfl, by decide +kernel, by decide +kernel⟩
abbrev s_has_add : Stmt := (top 40)
def N_has_add : List Str := ["script", "row", "deed"]
theorem sc_has_add : FnScope N_has_add ["script"] (defScope s_has_add) := ⟨rfl, rfl, rfl, by decide +kernel, rfl, by decide +kernel, by decide +kernel⟩
abbrev s_is_row : Stmt := (top 41)
def N_is_row : List Str := ["value", "mode", "word", "work", "deeds"]
theorem sc_is_row : FnScope N_is_row ["value"] (defScope s_is_row) := ⟨rfl, rfl, rfl, by decide +kernel, rfl, by decide +kernel, by decide +kernel⟩
abbrev s_are_deeds : Stmt := (top 42)
def N_are_deeds : List Str := ["value", "deed"]
theorem sc_are_deeds : FnScope N_are_deeds ["value"] (defScope s_are_deeds) := ⟨rfl, rfl, rfl, by decide +kernel, rfl, by decide +kernel, by decide +kernel⟩
abbrev s_wrong_row : Stmt := (top 43)
def N_wrong_row : List Str := ["script", "seen", "index", "row"]
theorem sc_wrong_row : FnScope N_wrong_row ["script"] (defScope s_wrong_row) := ⟨rfl, rfl, rfl, by decide +kernel, rfl, by decide +kernel, by decide +kernel⟩
abbrev s_is_script : Stmt := (top 44)
def N_is_script : List Str := ["value"]
theorem sc_is_script : FnScope N_is_script ["value"] (defScope s_is_script) := ⟨rfl, rfl, rfl, by decide +kernel, rfl, by decide +kernel, by decide +kernel⟩
theorem tup_len {H : Hp} {v : V} {ds : List Dt} (h : Dd K H v (.tup ds)) : ∃ a xs, v = .ref a ∧ SqT K H a xs ∧ DdAll K H xs ds ∧ xs.length = ds.length := by
  cases h with
  | tup h t => exact ⟨_, _, rfl, h, t, t.len⟩
theorem dval_len : ∀ ds : List Dt, ds.length ≠ 2 → dvalD (.tup ds) = false
  | [], _ => rfl
  | [a], _ => by cases a <;> rfl
  | [a, b], h => absurd rfl h
  | a :: b :: c :: r, _ => by cases a <;> rfl
theorem ok_is_deed_value (F : Has K mg "_is_deed_value" s_is_deed_value) (T : Txt K mg) (F_is_sent_value : FnQ P w K mg base CX0 3 "is_sent_value" ["value"] (spChk K isVal)) : FnQ P w K mg base CX0 4 "_is_deed_value" ["value"] (spChk K dvalD) := by
  refine F.q sc_is_deed_value (fun _ _ _ _ _ _ us hl => match us, hl with | [_], _ => rfl) (fun vs H Q E h => by obtain ⟨v, d, rfl, _⟩ := h; rfl) (fun cdv A outer s H vs Q E hr h => ?_)
  obtain ⟨v, d, rfl, hd, k⟩ := h
  have gI : mg "isinstance" = none := T.fr _ (by simp [frees])
  have gL : mg "len" = none := T.fr _ (by simp [frees])
  refine ⟨_, PSs.nox (pss_cons (ps_if (pt_not (pt_val (pe_callB call_isi (by rfl) gI boot_isinstance (pa_cons (pv 0) (pa_cons (pe_bltn (v := .ty "tuple") (by rfl) (T.fr "tuple" (by simp [frees])) PyProof.Rows.boot_tuple rfl) pa_nil)))))
  (pss_one (ps_ret (pe_f F_is_sent_value hr pass0 (pa_cons (pv 0) pa_nil))))
  pss_nil)
  (pss_cons (ps_if (pt_cmpR op_ne (pe_callB call_len_seq (by rfl) gL boot_len (pa_cons (pv 0) pa_nil)) pe_int (by first | exact nomark _ | rfl))
  (pss_one (ps_ret pe_bl))
  pss_nil)
  (pss_cons (ps_asg (pv 0) (pg_tup rfl (pgs_cons (pg_name (i := 1) sc_is_deed_value.nd rfl (by first | exact .inl rfl | exact .inr rfl)) (pgs_cons (pg_name (i := 2) sc_is_deed_value.nd rfl (by first | exact .inl rfl | exact .inr rfl)) pgs_nil))))
  (pss_one (ps_ret (pe_and (pe_callB call_isi (by rfl) gI boot_isinstance (pa_cons (pv 1) (pa_cons (pe_bltn (v := .ty "str") (by rfl) (T.fr "str" (by simp [frees])) PyProof.Rows.boot_str rfl) pa_nil))) (pe_and (pe_cmpR op_eq (pv 1) pe_str (by first | exact nomark _ | rfl)) (pe_one (pe_f F_is_sent_value hr pass0 (pa_cons (pv 2) pa_nil)))))))))), ?_⟩
  refine ⟨_, rfl, _, _, _, _, _, rfl, .ty _, (hd).ty T.pk, T.pk.kit _ 3 (kd_lt _) (by decide), _, rfl, ?_⟩
  cases d with
  | tup ds =>
    obtain ⟨a, xs, rfl, hx, ha, hl⟩ := tup_len hd
    refine if_no rfl ⟨_, rfl, a, _, rfl, .inr hx, rfl, _, rfl, ?_⟩
    by_cases l2 : ds.length = 2
    case neg =>
      have z := k H (Same.refl H)
      rw [dval_len ds l2] at z
      exact if_yes (by rw [hl]; simp; omega) z
    match ds, hl, ha, l2 with
    | [s1, a1], hl, ha, _ =>
      obtain ⟨v1, v2, rfl, h1, h2⟩ := ha.two
      refine if_no rfl ?_
      refine ⟨_, rfl, a, _, rfl, hx, rfl, _, _, rfl, _, _, rfl, ?_⟩
      refine ⟨rfl, _, rfl, _, _, _, _, _, rfl, .ty _, (h1).ty T.pk, T.pk.kit _ 2 (kd_lt _) (by decide), _, rfl, ?_⟩
      cases s1 with
      | str x =>
        cases h1
        refine if_yes rfl ⟨_, rfl, rfl, _, rfl, ?_⟩
        by_cases c : x = "plus"
        · subst c
          exact if_yes (decide_eq_true rfl) ⟨_, rfl, v2, a1, rfl, h2, k⟩
        · have z := k H (Same.refl H)
          simp only [dvalD, decide_eq_false c, Bool.false_and] at z
          exact if_no (by simpa using c) z
      | _ => exact if_no rfl (k H (Same.refl H))
  | _ => exact if_yes rfl ⟨_, rfl, v, _, rfl, hd, k⟩
theorem acc2_rows (rows : List Dt) : acc2 (fun i => (rowDs (rows.getD i .non)).length) (fun i j => deedAdd ((rowDs (rows.getD i .non)).getD j .non)) rows.length = rows.flatMap fun r => (rowDs r).map deedAdd := by
  unfold acc2
  have e : ∀ r : Dt, (List.range (rowDs r).length).map (fun j => deedAdd ((rowDs r).getD j .non)) = (rowDs r).map deedAdd := fun r => by
    have z := congrArg (List.map deedAdd) (range_getD (rowDs r) .non)
    rw [List.map_map] at z
    exact z
  have z : (List.range rows.length).flatMap (fun i => (rowDs (rows.getD i .non)).map deedAdd) = rows.flatMap fun r => (rowDs r).map deedAdd := by
    have y := congrArg (List.flatMap fun r => (rowDs r).map deedAdd) (range_getD rows .non)
    rw [List.flatMap_map] at y
    exact y
  rw [← z]
  congr 1
  funext i
  exact e _
theorem hasAdd_flat (rows : List Dt) : hasAdd (.tup rows) = (rows.flatMap fun r => (rowDs r).map deedAdd).any id := by
  unfold hasAdd
  rw [List.any_flatMap]
  simp
theorem okRow_ds {r : Dt} (h : okRow r = true) : (rowDs r).length ≤ 8 ∧ (∀ d ∈ rowDs r, okDeed d = true) ∧ ∃ a b c, r = .tup [a, b, c, .tup (rowDs r)] := by
  unfold okRow at h
  split at h
  · simp only [Bool.and_eq_true, decide_eq_true_eq, List.all_eq_true] at h
    exact ⟨h.1, h.2, _, _, _, rfl⟩
  · cases h
theorem ok_has_add (F : Has K mg "_has_add" s_has_add) (T : Txt K mg) : FnQ P w K mg base CX0 1 "_has_add" ["script"] (fun vs H Q _ => ∃ v d, vs = [v] ∧ Dd K H v d ∧ okSc d = true ∧ ∀ H', Same H H' → Q (.bl (hasAdd d)) H') := by
  refine F.q sc_has_add (fun _ _ _ _ _ _ us hl => match us, hl with | [_], _ => rfl) (fun vs H Q E h => by obtain ⟨v, d, rfl, _⟩ := h; rfl) (fun cdv A outer s H vs Q E hr h => ?_)
  obtain ⟨v, d, rfl, hd, ok, k⟩ := h
  obtain ⟨rows, rfl⟩ : ∃ rows, d = .tup rows := by cases d <;> first | exact ⟨_, rfl⟩ | exact absurd ok (by simp [okSc])
  obtain ⟨a, xs, rfl, hx, ha, hl⟩ := tup_len hd
  have ok2 : rows.length ≤ 30 ∧ ∀ r ∈ rows, okRow r = true := by simpa [okSc] using ok
  obtain ⟨few, okr⟩ := ok2
  refine ⟨_, PSs.nox (pss_one (ps_ret (pe_callB (cr_any rfl) (by rfl) (T.fr "any" (by simp [frees])) boot_any (pa_cons (pe_lc2 (own := [("row", 1), ("deed", 2)]) (vs1 := [2]) (g := gName 1) (g1 := gName 2) (tt := tYes) (tt1 := tYes) rfl sc_has_add.nd (pi_tup (pv 0)) (blkOk_by (N := N_has_add) (sc := defScope s_has_add) (by decide +kernel)) (by decide) (fun _ _ _ _ _ => (pg_name (i := 1) sc_has_add.nd rfl (by first | exact .inl rfl | exact .inr rfl))) (fun _ _ _ _ _ => pts_nil) (fun _ _ _ _ _ => (pi_tupK K (pe_ix (ix_tupK K) (pv 1) pe_int (fun _ _ => rfl)))) (fun _ _ _ _ _ => (pg_name (i := 2) sc_has_add.nd rfl (by first | exact .inl rfl | exact .inr rfl))) (fun _ _ _ _ _ => pts_nil) (fun _ _ _ _ _ => (pe_cmpR op_eq (pe_ix (ix_tupK K) (pv 2) pe_int (fun _ _ => rfl)) pe_str (by first | exact nomark _ | rfl)))) pa_nil)))), ?_⟩
  refine ⟨_, rfl, a, rfl, ⟨_, hx⟩, comp2_bool walk_tup (m := fun i => (rowDs (rows.getD i .non)).length) (f := fun i j => deedAdd ((rowDs (rows.getD i .non)).getD j .non)) ?_ (fun H' s => s.sqT hx) (fun i H x H' y b o e => by rw [y.1]; exact e) ?_ ?_⟩
  · rw [hl, acc2_rows]
    have : ∀ l : List Dt, (∀ r ∈ l, okRow r = true) → (l.flatMap fun r => (rowDs r).map deedAdd).length ≤ 8 * l.length := by
      intro l
      induction l with
      | nil => intro _; exact Nat.le_refl _
      | cons r l ih =>
        intro h
        have z := (okRow_ds (h r (by simp))).1
        have y := ih fun q hq => h q (by simp [hq])
        simp only [List.flatMap_cons, List.length_append, List.length_map, List.length_cons]
        omega
    have z := this rows okr
    exact small1000 (by omega)
  · rintro i x H1 H2 C hi s1 ⟨rfl, ex⟩ c
    obtain ⟨r, er, hr2⟩ := ha.get ex
    have mr : r ∈ rows := List.mem_of_getElem? er
    obtain ⟨_, okd, a1, b1, c1, e1⟩ := okRow_ds (okr r mr)
    rw [e1] at hr2
    obtain ⟨p, ys, rfl, hp, hy, _⟩ := tup_len hr2
    obtain ⟨v1, v2, v3, v4, rfl, _, _, _, h4⟩ := hy.four
    obtain ⟨q, ws, rfl, hq, hw, lw⟩ := tup_len h4
    have eg : rows.getD i .non = r := by rw [List.getD_eq_getElem?_getD, er]; rfl
    refine ⟨rfl, _, rfl, p, _, _, _, rfl, rfl, s1.sqT hp, rfl, q, rfl, ⟨_, s1.sqT hq⟩, c _ _ _ (Same.refl _) ⟨fun H => SqT K H q ws, YAt ws, (by rw [eg, ← lw]; exact walk_tup), fun H' s => s.sqT hq, fun i H x H' y b o e => by rw [y.1]; exact e, ?_⟩⟩
    rintro j y H5 H6 R hj s5 ⟨rfl, ey⟩ fin
    obtain ⟨d, ed, hdd⟩ := hw.get ey
    have z := fin H6 (Same.refl _)
    have eg2 : (rowDs r).getD j .non = d := by rw [List.getD_eq_getElem?_getD, ed]; rfl
    rw [eg, eg2] at z
    have od := okd d (List.mem_of_getElem? ed)
    obtain ⟨x, rest, rfl⟩ : ∃ x rest, d = .tup (.str x :: rest) := by
      unfold okDeed at od
      split at od
      · exact ⟨_, _, rfl⟩
      · cases od
    obtain ⟨u, zs, rfl, hu, hz, _⟩ := tup_len hdd
    cases hz with
    | cons hx1 ht =>
      cases hx1
      refine ⟨rfl, _, rfl, u, _, _, .str x, rfl, rfl, s5.sqT hu, at_of (j := 0) rfl rfl, rfl, ?_⟩
      have eq : decide (V.str x = V.str "add") = decide (x = "add") := by simp
      rw [eq]
      exact z
  · intro p H' s1 n1 l1
    rw [hl, acc2_rows] at l1
    refine ⟨p, _, rfl, SqL.of l1, ?_⟩
    have z := k H' s1
    rw [hasAdd_flat] at z
    exact z
abbrev spItem (K : PySem.W.Frag) : Sp := fun vs H Q _ => ∃ x v d, vs = [.str x, v] ∧ Dd K H v d ∧ ∀ H', Same H H' → Q (.bl (itemD x d)) H'
theorem ok_is_item (F : Has K mg "_is_item" s_is_item) (T : Txt K mg) (F_is_sent_word : FnQ P w K mg base CX0 2 "is_sent_word" ["value"] (spChk K isSent)) (F_is_deed_value : FnQ P w K mg base CX0 4 "_is_deed_value" ["value"] (spChk K dvalD))
    (F_is_between : FnQ P w K mg base CX0 2 "is_between" ["value", "low", "high"] (spBtw K)) (F_is_given_reason : FnQ P w K mg base CX0 2 "is_given_reason" ["value"] (spChk K isGiven)) (F_is_word : FnQ P w K mg base CX0 1 "is_word" ["value"] (spChk K isWord))
    (F_has_add : FnQ P w K mg base CX0 1 "_has_add" ["script"] (fun vs H Q _ => ∃ v d, vs = [v] ∧ Dd K H v d ∧ okSc d = true ∧ ∀ H', Same H H' → Q (.bl (hasAdd d)) H')) :
    FnQ P w K mg base CX0 5 "_is_item" ["kind", "item"] (spItem K) := by
  refine F.q sc_is_item (fun _ _ _ _ _ _ us hl => match us, hl with | [_, _], _ => rfl) (fun vs H Q E h => by obtain ⟨x, v, d, rfl, _⟩ := h; rfl) (fun cdv A outer s H vs Q E hr h => ?_)
  obtain ⟨x, v, d, rfl, hd, k⟩ := h
  have gI : mg "isinstance" = none := T.fr _ (by simp [frees])
  refine ⟨_, PSs.nox (pss_cons (ps_if (pt_cmpR op_eq (pv 0) pe_str (by first | exact nomark _ | rfl))
  (pss_one (ps_ret (pe_f F_is_sent_word hr pass0 (pa_cons (pv 1) pa_nil))))
  pss_nil)
  (pss_cons (ps_if (pt_cmpR op_eq (pv 0) pe_str (by first | exact nomark _ | rfl))
  (pss_one (ps_ret (pe_f F_is_deed_value hr pass0 (pa_cons (pv 1) pa_nil))))
  pss_nil)
  (pss_cons (ps_if (pt_cmpR op_eq (pv 0) pe_str (by first | exact nomark _ | rfl))
  (pss_one (ps_ret (pe_f F_is_between hr pass0 (pa_cons (pv 1) (pa_cons pe_int (pa_cons (C8.pe_gc (by rfl) T.c_MOST_TICKS_LATER) pa_nil))))))
  pss_nil)
  (pss_cons (ps_if (pt_cmpR op_eq (pv 0) pe_str (by first | exact nomark _ | rfl))
  (pss_one (ps_ret (pe_callB call_isi (by rfl) gI boot_isinstance (pa_cons (pv 1) (pa_cons (pe_bltn (v := .ty "bool") (by rfl) (T.fr "bool" (by simp [frees])) PyProof.Rows.boot_bool rfl) pa_nil)))))
  pss_nil)
  (pss_cons (ps_if (pt_cmpR op_eq (pv 0) pe_str (by first | exact nomark _ | rfl))
  (pss_one (ps_ret (pe_f F_is_given_reason hr pass0 (pa_cons (pv 1) pa_nil))))
  pss_nil)
  (pss_cons (ps_if (pt_cmpR op_eq (pv 0) pe_str (by first | exact nomark _ | rfl))
  (pss_one (ps_ret (pe_and (pe_callB call_isi (by rfl) gI boot_isinstance (pa_cons (pv 1) (pa_cons (C8.pe_gc (by rfl) T.c_AnyWorker) pa_nil))) (pe_one (pe_not (pe_f F_has_add hr pass0 (pa_cons (pe_fld (pv 1) rfl) pa_nil)))))))
  pss_nil)
  (pss_one (ps_ret (pe_f F_is_word hr pass0 (pa_cons (pv 1) pa_nil)))))))))), ?_⟩
  have dec : ∀ y : Str, decide (V.str x = V.str y) = decide (x = y) := fun y => by simp
  have no : ∀ {y : Str}, ¬ x = y → decide (V.str x = V.str y) = false := fun c => by rw [dec]; exact decide_eq_false c
  by_cases c1 : x = "sent word"
  · subst c1
    exact ⟨_, rfl, rfl, _, rfl, if_yes rfl ⟨_, rfl, v, d, rfl, hd, k⟩⟩
  by_cases c2 : x = "value"
  · subst c2
    exact ⟨_, rfl, rfl, _, rfl, if_no rfl ⟨_, rfl, rfl, _, rfl, if_yes rfl ⟨_, rfl, v, d, rfl, hd, k⟩⟩⟩
  by_cases c3 : x = "ticks"
  · subst c3
    exact ⟨_, rfl, rfl, _, rfl, if_no rfl ⟨_, rfl, rfl, _, rfl, if_no rfl ⟨_, rfl, rfl, _, rfl, if_yes rfl ⟨_, rfl, v, d, _, _, rfl, hd, k⟩⟩⟩⟩
  by_cases c4 : x = "truth"
  · subst c4
    refine ⟨_, rfl, rfl, _, rfl, if_no rfl ⟨_, rfl, rfl, _, rfl, if_no rfl ⟨_, rfl, rfl, _, rfl, if_no rfl ⟨_, rfl, rfl, _, rfl, if_yes rfl ?_⟩⟩⟩⟩
    refine ⟨_, rfl, _, _, _, _, _, rfl, .ty _, (hd).ty T.pk, T.pk.kit _ 1 (kd_lt _) (by decide), ?_⟩
    cases d <;> exact k H (Same.refl H)
  by_cases c5 : x = "reason"
  · subst c5
    exact ⟨_, rfl, rfl, _, rfl, if_no rfl ⟨_, rfl, rfl, _, rfl, if_no rfl ⟨_, rfl, rfl, _, rfl, if_no rfl ⟨_, rfl, rfl, _, rfl, if_no rfl ⟨_, rfl, rfl, _, rfl, if_yes rfl ⟨_, rfl, v, d, rfl, hd, k⟩⟩⟩⟩⟩⟩
  by_cases c6 : x = "plan"
  · subst c6
    refine ⟨_, rfl, rfl, _, rfl, if_no rfl ⟨_, rfl, rfl, _, rfl, if_no rfl ⟨_, rfl, rfl, _, rfl, if_no rfl ⟨_, rfl, rfl, _, rfl, if_no rfl ⟨_, rfl, rfl, _, rfl, if_no rfl ⟨_, rfl, rfl, _, rfl, if_yes rfl ?_⟩⟩⟩⟩⟩⟩
    refine ⟨_, rfl, _, _, _, _, _, rfl, .own _, (hd).ty T.pk, T.pk.kit _ 4 (kd_lt _) (by decide), _, rfl, ?_⟩
    cases d with
    | wrk sc =>
      cases hd with
      | wrk h l t o =>
        refine if_yes rfl ⟨_, rfl, _, _, _, _, _, rfl, h, T.pk.wk.cl, T.na, l, _, sc, rfl, t, o, fun H' s => ⟨_, rfl, k H' s⟩⟩
    | _ => exact if_no rfl (k H (Same.refl H))
  have z : ∀ H', Same H H' → Q (.bl (isWord d)) H' := fun H' s => by
    have y := k H' s
    unfold itemD at y
    rw [if_neg c1, if_neg c2, if_neg c3, if_neg c4, if_neg c5, if_neg c6] at y
    exact y
  exact ⟨_, rfl, rfl, _, rfl, if_no (no c1) ⟨_, rfl, rfl, _, rfl, if_no (no c2) ⟨_, rfl, rfl, _, rfl, if_no (no c3) ⟨_, rfl, rfl, _, rfl, if_no (no c4) ⟨_, rfl, rfl, _, rfl, if_no (no c5) ⟨_, rfl, rfl, _, rfl, if_no (no c6) ⟨_, rfl, v, d, rfl, hd, z⟩⟩⟩⟩⟩⟩⟩
theorem items_all : ∀ (ks : List Str) (ds : List Dt), ks.length = ds.length → itemsD ks ds = ((List.range ks.length).map fun i => itemD (ks.getD i "") (ds.getD i .non)).all id
  | [], [], _ => rfl
  | k :: ks, d :: ds, h => by
    have ih := items_all ks ds (by simpa using h)
    rw [List.length_cons, List.range_succ_eq_map, List.map_cons, List.map_map, List.all_cons]
    show (itemD k d && itemsD ks ds) = _
    rw [ih]
    rfl
theorem items_len : ∀ (ks : List Str) (ds : List Dt), ks.length ≠ ds.length → itemsD ks ds = false
  | [], [], h => absurd rfl h
  | [], _ :: _, _ => rfl
  | _ :: _, [], _ => rfl
  | k :: ks, d :: ds, h => by
    show (itemD k d && itemsD ks ds) = _
    rw [items_len ks ds (fun e => h (by simp [e])), Bool.and_false]
theorem lookup_mem : ∀ {l : List (Str × List Str)} {x : Str} {ks : List Str}, l.lookup x = some ks → (x, ks) ∈ l
  | (y, zs) :: l, x, ks, h => by
    rw [List.lookup_cons] at h
    cases q : x == y with
    | true => rw [q] at h; cases h; rw [eq_of_beq q]; exact List.mem_cons_self
    | false => rw [q] at h; exact List.mem_cons_of_mem _ (lookup_mem h)
theorem items_few : ∀ p ∈ deedItems, p.2.length ≤ 3 := by decide +kernel
theorem ok_is_deed (F : Has K mg "is_deed" s_is_deed) (T : Txt K mg) (TD : Tab K w mg) (F_is_item : FnQ P w K mg base CX0 5 "_is_item" ["kind", "item"] (spItem K)) : FnQ P w K mg base CX0 6 "is_deed" ["value"] (spChk K deedD) := by
  refine F.q sc_is_deed (fun _ _ _ _ _ _ us hl => match us, hl with | [_], _ => rfl) (fun vs H Q E h => by obtain ⟨v, d, rfl, _⟩ := h; rfl) (fun cdv A outer s H vs Q E hr h => ?_)
  obtain ⟨v, d, rfl, hd, k⟩ := h
  have gI : mg "isinstance" = none := T.fr _ (by simp [frees])
  have gL : mg "len" = none := T.fr _ (by simp [frees])
  obtain ⟨es, n, DD⟩ := TD.kd
  refine ⟨_, PSs.nox (pss_cons (ps_if (pw_or (pt_not (pt_val (pe_callB call_isi (by rfl) gI boot_isinstance (pa_cons (pv 0) (pa_cons (pe_bltn (v := .ty "tuple") (by rfl) (T.fr "tuple" (by simp [frees])) PyProof.Rows.boot_tuple rfl) pa_nil))))) (pw_or1 (pt_cmpR op_eq (pe_callB call_len_seq (by rfl) gL boot_len (pa_cons (pv 0) pa_nil)) pe_int (by first | exact nomark _ | rfl)))).pt
  (pss_one (ps_ret pe_bl))
  pss_nil)
  (pss_cons (ps_asg (pv 0) (pg_rest (k := 1) rfl (pgs_cons (pg_name (i := 1) sc_is_deed.nd rfl (by first | exact .inl rfl | exact .inr rfl)) (pgs_rest (pg_name (i := 2) sc_is_deed.nd rfl (by first | exact .inl rfl | exact .inr rfl)) pgs_nil))))
  (pss_cons (ps_if (pw_or (pt_not (pt_val (pe_callB call_isi (by rfl) gI boot_isinstance (pa_cons (pv 1) (pa_cons (pe_bltn (v := .ty "str") (by rfl) (T.fr "str" (by simp [frees])) PyProof.Rows.boot_str rfl) pa_nil))))) (pw_or1 (pt_cmpR (op_notIn_kd DD) (pv 1) (C8.pe_gc (by rfl) TD.gl) (by first | exact nomark _ | rfl)))).pt
  (pss_one (ps_ret pe_bl))
  pss_nil)
  (pss_cons (ps_set (i := 3) sc_is_deed.nd rfl (by first | exact .inl rfl | exact .inr rfl) (pe_ix ix_kdict (C8.pe_gc (by rfl) TD.gl) (pv 1) (fun _ _ => rfl)))
  (pss_one (ps_ret (pe_and (pe_cmpR op_eq (pe_callB call_len_seq (by rfl) gL boot_len (pa_cons (pv 2) pa_nil)) (pe_callB call_len_seq (by rfl) gL boot_len (pa_cons (pv 3) pa_nil)) (by first | exact nomark _ | rfl)) (pe_one (pe_callB (cr_all rfl) (by rfl) (T.fr "all" (by simp [frees])) boot_all (pa_cons (pe_lc (own := [("kind", 4), ("item", 5)]) (tt := tYes) rfl sc_is_deed.nd (pi_zipM (by rfl) (T.fr "zip" (by simp [frees])) (pa_cons (pv 3) (pa_cons (pv 2) pa_nil))) (blkOk_by (N := N_is_deed) (sc := defScope s_is_deed) (by decide +kernel)) (fun _ _ _ _ _ => (pg_tupK K 2 rfl (pgs_cons (pg_name (i := 4) sc_is_deed.nd rfl (by first | exact .inl rfl | exact .inr rfl)) (pgs_cons (pg_name (i := 5) sc_is_deed.nd rfl (by first | exact .inl rfl | exact .inr rfl)) pgs_nil)))) (fun _ _ _ _ _ => pts_nil) (fun _ _ _ _ _ => (pe_f F_is_item hr pass0 (pa_cons (pv 4) (pa_cons (pv 5) pa_nil))))) pa_nil)))))))))), ?_⟩
  refine ⟨_, rfl, _, _, _, _, _, rfl, .ty _, (hd).ty T.pk, T.pk.kit _ 3 (kd_lt _) (by decide), _, rfl, ?_⟩
  cases d with
  | tup ds =>
    obtain ⟨a, xs, rfl, hx, ha, hl⟩ := tup_len hd
    refine if_no rfl ⟨_, rfl, a, _, rfl, .inr hx, rfl, _, rfl, ?_⟩
    cases ha with
    | nil => exact if_yes rfl (k H (Same.refl H))
    | @cons v0 vs d0 ds h0 ht =>
      refine if_no (decide_eq_false fun e => by injection e with e; simp at e; omega) ?_
      refine ⟨_, rfl, a, _, rfl, hx, Nat.succ_le_succ (Nat.zero_le _), fun p H1 s1 n1 l1 => ?_⟩
      refine ⟨_, _, rfl, _, _, rfl, rfl, _, rfl, _, _, _, _, _, rfl, .ty _, ((h0.same s1)).ty T.pk, T.pk.kit _ 2 (kd_lt _) (by decide), _, rfl, ?_⟩
      cases d0 with
      | str x =>
        cases h0
        refine if_no rfl ?_
        cases lk : deedItems.lookup x with
        | none =>
          have z := k H1 s1
          simp only [deedD, lk] at z
          exact ⟨_, rfl, x, _, rfl, rfl, TD.no x lk, _, rfl, if_yes rfl z⟩
        | some ks =>
          obtain ⟨b, hb, hk⟩ := TD.at_ x ks lk
          have few : ks.length ≤ 3 := items_few _ (lookup_mem lk)
          refine ⟨_, rfl, x, _, rfl, rfl, hb, _, rfl, if_no rfl ?_⟩
          refine ⟨_, rfl, _, x, .ref b, rfl, rfl, ⟨es, n, _, DD.at_, DD.lit, hb, rfl⟩, ?_⟩
          have z0 : ∀ H', Same H H' → Q (.bl (itemsD ks ds)) H' := fun H' s => by
            have z := k H' s
            simp only [deedD, lk] at z
            exact z
          have lds : vs.length = ds.length := ht.len
          refine ⟨_, rfl, p, _, rfl, .inl (SqL.of l1), _, rfl, b, _, rfl, .inr (hk H1), rfl, _, rfl, ?_⟩
          by_cases le : ks.length = ds.length
          · refine if_yes (decide_eq_true (by simp [le, lds])) ?_
            refine ⟨_, rfl, _, rfl, b, p, _, _, rfl, hk H1, SqL.of l1, comp_val (walk_zipM (by simp [le, lds])) (f := fun i => .bl (itemD (ks.getD i "") (ds.getD i .non))) ?_ (fun H' s => ⟨hk H', s.sqL (SqL.of l1)⟩) ?_ ?_ ?_⟩
            · exact small1000 (by simp; omega)
            · rintro i H4 v H5 ⟨T0, x0, y0, rfl, nT, rfl, _⟩
              exact Same.new nT
            · rintro i v H2 H3 R hi s2 ⟨T0, x0, y0, rfl, nT, rfl, e1, e2⟩ r
              obtain ⟨kk, ek, rfl⟩ : ∃ kk, ks[i]? = some kk ∧ x0 = .str kk := by
                have e1 : (ks.map V.str)[i]? = some x0 := e1
                rw [List.getElem?_map] at e1
                cases q : ks[i]? with
                | none => rw [q] at e1; cases e1
                | some kk => rw [q] at e1; exact ⟨kk, rfl, (Option.some.inj e1).symm⟩
              obtain ⟨di, ed, hdi⟩ := ht.get (show vs[i]? = some y0 from e2)
              have s3 : Same H (upd H2 T0 (.tup [.str kk, y0])) := fun b o e => Same.new nT _ _ (s2 _ _ (s1 _ _ e))
              refine ⟨T0, _, rfl, SqT.of upd_same, rfl, _, _, rfl, _, _, rfl, rfl, rfl, _, rfl, _, rfl, kk, y0, di, rfl, hdi.same s3, fun H' s => ?_⟩
              have z := r H' s
              simp only [List.getD_eq_getElem?_getD, ek, ed, Option.getD_some] at z
              exact z
            · intro q H2 s2 n2 l2
              have em : ((List.range (ks.map V.str).length).map fun i => V.bl (itemD (ks.getD i "") (ds.getD i .non))) = ((List.range ks.length).map fun i => itemD (ks.getD i "") (ds.getD i .non)).map V.bl := by
                rw [List.map_map, List.length_map]
                rfl
              rw [em] at l2
              refine ⟨q, _, rfl, SqL.of l2, ?_⟩
              rw [← items_all ks ds le]
              exact z0 H2 (s1.trans s2)
          · refine if_no (decide_eq_false fun e => le (by injection e with e; simp [lds] at e; omega)) ?_
            have z := z0 H1 s1
            rw [items_len ks ds le] at z
            exact z
      | _ => exact if_yes rfl (k H1 s1)
  | _ => exact if_yes rfl (if_yes rfl (k H (Same.refl H)))
end
end K02
namespace K02
open PySem PySem.Spec PyProof.Rows L2
section
variable {P : Program} {w : World} {K : PySem.W.Frag} {mg : Str → Option Value} {base : Heap}
theorem deeds_all (ds : List Dt) : ds.all deedD = ((List.range ds.length).map fun i => deedD (ds.getD i .non)).all id := by
  have e := congrArg (List.map deedD) (PyProof.Rows.range_getD ds .non)
  rw [List.map_map] at e
  have : ((List.range ds.length).map fun i => deedD (ds.getD i .non)) = ds.map deedD := e
  rw [this, List.all_map]
  rfl
theorem ok_are_deeds (F : Has K mg "_are_deeds" s_are_deeds) (T : Txt K mg) (F_is_deed : FnQ P w K mg base CX0 6 "is_deed" ["value"] (spChk K deedD)) : FnQ P w K mg base CX0 7 "_are_deeds" ["value"] (spChk K deedsD) := by
  refine F.q sc_are_deeds (fun _ _ _ _ _ _ us hl => match us, hl with | [_], _ => rfl) (fun vs H Q E h => by obtain ⟨v, d, rfl, _⟩ := h; rfl) (fun cdv A outer s H vs Q E hr h => ?_)
  obtain ⟨v, d, rfl, hd, k⟩ := h
  have gI : mg "isinstance" = none := T.fr _ (by simp [frees])
  have gL : mg "len" = none := T.fr _ (by simp [frees])
  refine ⟨_, PSs.nox (pss_one (ps_ret (pe_and (pe_callB call_isi (by rfl) gI boot_isinstance (pa_cons (pv 0) (pa_cons (pe_bltn (v := .ty "tuple") (by rfl) (T.fr "tuple" (by simp [frees])) PyProof.Rows.boot_tuple rfl) pa_nil))) (pe_and (pe_cmpR op_le (pe_callB call_len_seq (by rfl) gL boot_len (pa_cons (pv 0) pa_nil)) (C8.pe_gc (by rfl) T.c_MOST_DEEDS) (by first | exact nomark _ | rfl)) (pe_one (pe_callB (cr_all rfl) (by rfl) (T.fr "all" (by simp [frees])) boot_all (pa_cons (pe_lc (own := [("deed", 1)]) (tt := tYes) rfl sc_are_deeds.nd (pi_tup (pv 0)) (blkOk_by (N := N_are_deeds) (sc := defScope s_are_deeds) (by decide +kernel)) (fun _ _ _ _ _ => (pg_name (i := 1) sc_are_deeds.nd rfl (by first | exact .inl rfl | exact .inr rfl))) (fun _ _ _ _ _ => pts_nil) (fun _ _ _ _ _ => (pe_f F_is_deed hr pass0 (pa_cons (pv 1) pa_nil)))) pa_nil))))))), ?_⟩
  refine ⟨_, rfl, _, _, _, _, _, rfl, .ty _, (hd).ty T.pk, T.pk.kit _ 3 (kd_lt _) (by decide), _, rfl, ?_⟩
  cases d with
  | tup ds =>
    obtain ⟨a, xs, rfl, hx, ha, hl⟩ := tup_len hd
    refine if_yes rfl ⟨_, rfl, a, _, rfl, .inr hx, _, _, rfl, rfl, _, rfl, ?_⟩
    by_cases c : ds.length ≤ 8
    · refine if_yes (decide_eq_true (by rw [hl]; omega)) ?_
      refine ⟨_, rfl, a, rfl, ⟨_, hx⟩, comp_val walk_tup (f := fun i => .bl (deedD (ds.getD i .non))) ?_ (fun H' s => s.sqT hx) (fun i H x H' y b o e => by rw [y.1]; exact e) ?_ ?_⟩
      · exact small1000 (by omega)
      · rintro i v H1 H2 R hi s1 ⟨rfl, ex⟩ r
        obtain ⟨d, ed, hdd⟩ := ha.get ex
        refine ⟨rfl, _, rfl, v, d, rfl, hdd.same s1, fun H' s => ?_⟩
        have z := r H' s
        simp only [List.getD_eq_getElem?_getD, ed, Option.getD_some] at z
        exact z
      · intro q H2 s2 n2 l2
        have em : ((List.range xs.length).map fun i => V.bl (deedD (ds.getD i .non))) = ((List.range ds.length).map fun i => deedD (ds.getD i .non)).map V.bl := by
          rw [List.map_map, hl]
          rfl
        rw [em] at l2
        refine ⟨q, _, rfl, SqL.of l2, ?_⟩
        have z := k H2 s2
        simp only [deedsD, decide_eq_true c, Bool.true_and] at z
        rw [deeds_all] at z
        exact z
    · refine if_no (decide_eq_false (by rw [hl]; omega)) ?_
      have z := k H (Same.refl H)
      simp only [deedsD, decide_eq_false c, Bool.false_and] at z
      exact z
  | _ => exact if_no rfl (k H (Same.refl H))
theorem row_len : ∀ ds : List Dt, ds.length ≠ 4 → rowD (.tup ds) = false
  | [], _ => rfl
  | [_], _ => rfl
  | [_, _], _ => rfl
  | [_, _, _], _ => rfl
  | [_, _, _, _], h => absurd rfl h
  | _ :: _ :: _ :: _ :: _ :: _, _ => rfl
theorem ok_is_row (F : Has K mg "_is_row" s_is_row) (T : Txt K mg) (F_is_word : FnQ P w K mg base CX0 1 "is_word" ["value"] (spChk K isWord)) (F_is_between : FnQ P w K mg base CX0 2 "is_between" ["value", "low", "high"] (spBtw K))
    (F_are_deeds : FnQ P w K mg base CX0 7 "_are_deeds" ["value"] (spChk K deedsD)) : FnQ P w K mg base CX0 8 "_is_row" ["value"] (spChk K rowD) := by
  refine F.q sc_is_row (fun _ _ _ _ _ _ us hl => match us, hl with | [_], _ => rfl) (fun vs H Q E h => by obtain ⟨v, d, rfl, _⟩ := h; rfl) (fun cdv A outer s H vs Q E hr h => ?_)
  obtain ⟨v, d, rfl, hd, k⟩ := h
  have gI : mg "isinstance" = none := T.fr _ (by simp [frees])
  have gL : mg "len" = none := T.fr _ (by simp [frees])
  refine ⟨_, PSs.nox (pss_cons (ps_if (pw_or (pt_not (pt_val (pe_callB call_isi (by rfl) gI boot_isinstance (pa_cons (pv 0) (pa_cons (pe_bltn (v := .ty "tuple") (by rfl) (T.fr "tuple" (by simp [frees])) PyProof.Rows.boot_tuple rfl) pa_nil))))) (pw_or1 (pt_cmpR op_ne (pe_callB call_len_seq (by rfl) gL boot_len (pa_cons (pv 0) pa_nil)) pe_int (by first | exact nomark _ | rfl)))).pt
  (pss_one (ps_ret pe_bl))
  pss_nil)
  (pss_cons (ps_asg (pv 0) (pg_tup rfl (pgs_cons (pg_name (i := 1) sc_is_row.nd rfl (by first | exact .inl rfl | exact .inr rfl)) (pgs_cons (pg_name (i := 2) sc_is_row.nd rfl (by first | exact .inl rfl | exact .inr rfl)) (pgs_cons (pg_name (i := 3) sc_is_row.nd rfl (by first | exact .inl rfl | exact .inr rfl)) (pgs_cons (pg_name (i := 4) sc_is_row.nd rfl (by first | exact .inl rfl | exact .inr rfl)) pgs_nil))))))
  (pss_one (ps_ret (pe_and (pe_f F_is_word hr pass0 (pa_cons (pv 1) pa_nil)) (pe_and (pe_f F_is_word hr pass0 (pa_cons (pv 2) pa_nil)) (pe_and (pe_f F_is_between hr pass0 (pa_cons (pv 3) (pa_cons pe_int (pa_cons (C8.pe_gc (by rfl) T.c_MOST_WORK) pa_nil)))) (pe_one (pe_f F_are_deeds hr pass0 (pa_cons (pv 4) pa_nil)))))))))), ?_⟩
  refine ⟨_, rfl, _, _, _, _, _, rfl, .ty _, (hd).ty T.pk, T.pk.kit _ 3 (kd_lt _) (by decide), _, rfl, ?_⟩
  cases d with
  | tup ds =>
    obtain ⟨a, xs, rfl, hx, ha, hl⟩ := tup_len hd
    refine if_no rfl ⟨_, rfl, a, _, rfl, .inr hx, rfl, _, rfl, ?_⟩
    by_cases l4 : ds.length = 4
    case neg =>
      have z := k H (Same.refl H)
      rw [row_len ds l4] at z
      exact if_yes (by rw [hl]; simp; omega) z
    match ds, hl, ha, l4 with
    | [d1, d2, d3, d4], hl, ha, _ =>
      obtain ⟨v1, v2, v3, v4, rfl, h1, h2, h3, h4⟩ := ha.four
      refine if_no rfl ?_
      refine ⟨_, rfl, a, _, rfl, hx, rfl, _, _, rfl, _, _, rfl, _, _, rfl, _, _, rfl, rfl, ?_⟩
      refine ⟨_, rfl, v1, d1, rfl, h1, fun H1 s1 => ⟨_, rfl, ?_⟩⟩
      have k1 : ∀ H', Same H1 H' → Q (.bl (rowD (.tup [d1, d2, d3, d4]))) H' := fun H' s => k H' (s1.trans s)
      cases c1 : isWord d1 with
      | false =>
        have z := k1 H1 (Same.refl H1)
        simp only [rowD, c1, Bool.false_and] at z
        exact if_no rfl z
      | true =>
        refine if_yes rfl ⟨_, rfl, v2, d2, rfl, h2.same s1, fun H2 s2 => ⟨_, rfl, ?_⟩⟩
        cases c2 : isWord d2 with
        | false =>
          have z := k1 H2 s2
          simp only [rowD, c1, c2, Bool.and_false, Bool.false_and] at z
          exact if_no rfl z
        | true =>
          refine if_yes rfl ⟨_, rfl, v3, d3, _, _, rfl, h3.same (s1.trans s2), fun H3 s3 => ⟨_, rfl, ?_⟩⟩
          cases c3 : isBtw 1 1000 d3 with
          | false =>
            have z := k1 H3 (s2.trans s3)
            simp only [rowD, c1, c2, c3, Bool.and_false, Bool.false_and] at z
            exact if_no rfl z
          | true =>
            refine if_yes rfl ⟨_, rfl, v4, d4, rfl, h4.same (s1.trans (s2.trans s3)), fun H4 s4 => ?_⟩
            have z := k1 H4 (s2.trans (s3.trans s4))
            simp only [rowD, c1, c2, c3, Bool.true_and] at z
            exact z
  | _ => exact if_yes rfl (k H (Same.refl H))
end
end K02
/-! enumerate of a tuple -/
namespace L2
open PySem PySem.Spec PyProof.Rows
abbrev tIt (a : Addr) : Obj := { cls := .type "tuple_iterator", data := .fields #[.ref a, .int 0 0] }
abbrev eIt (p : Addr) : Obj := { cls := .type "enumerate", data := .fields #[.none, .bool false, .ref p, rawInt 0, .none, .none] }
set_option maxHeartbeats 2000000 in
theorem enumTup_new (a : Addr) (ts : Array Value) :
    Meets (Builtin.«enumerate.__new__» ⟨[.type "enumerate", .ref a], []⟩) (fun _ R s => s.heap.IsTuple a ts ∧ R (.ok (.ret (.ref (s.heap.push (tIt a)).objs.size))) { s with heap := (s.heap.push (tIt a)).push (eIt s.heap.objs.size) }) :=
  .of_wp fun prog w A R s h => by
    obtain ⟨hp, g, dr, tk, os⟩ := s
    obtain ⟨ht, h⟩ := h
    have isEnum := PySem.sub_enumerate
    have begun : ∀ {A2 : Around} {E : Value → Shared → Prop} {Q : Value → Shared → Prop}, Q (.ref hp.objs.size) ⟨hp.push (tIt a), g, dr, tk, os⟩ → wpAny (model prog w) A2 (pyIter (.ref a)) Q E ⟨hp, g, dr, tk, os⟩ :=
      fun q => (begins_tuple a ts).iter prog w _ _ ⟨hp, g, dr, tk, os⟩ _ ht q
    wp_walk using begun
    refine wpAny_stack_any fun _ => wpAny_pure ?_
    split
    · rename_i cc _ _ _ _ _
      cases (cc == Value.type "enumerate") <;> (wp_walk using begun; exact ⟨_, rfl, h⟩)
    · wp_walk using begun
      exact ⟨_, rfl, h⟩
section
variable {prog : Program} {w : World} {A : Around} {E : Value → Shared → Prop} {s : Shared}
theorem enumTup_call {a : Addr} {ts : Array Value} {Q : Value → Shared → Prop} (ht : s.heap.IsTuple a ts)
    (h : ∀ h2, IsEnum h2 (s.heap.objs.size + 1) s.heap.objs.size 0 .none → h2.IsTupleIter s.heap.objs.size a 0 → (∀ b o, s.heap.get? b = some o → h2.get? b = some o) → Q (.ref (s.heap.objs.size + 1)) { s with heap := h2 }) :
    wpAny (model prog w) A (call (.type "enumerate") [.ref a]) Q E s := by
  refine callType_new F.called_enumerate (by decide) (F.typeCall_enumerate_1 _) (F.newCall_enumerate_1 _) (fun ob => F.args_object_init_2 ob _) F.entry_enumerate_new (enumTup_new a ts) ⟨ht, ?_⟩
  have sz : (s.heap.push (tIt a)).objs.size = s.heap.objs.size + 1 := Heap.size_push ..
  show _ ∧ _
  rw [sz]
  have top : ((s.heap.push (tIt a)).push (eIt s.heap.objs.size)).get? (s.heap.objs.size + 1) = some (eIt s.heap.objs.size) := by
    rw [← sz]
    exact Heap.get?_push_size _ rfl
  exact ⟨⟨_, top, rfl⟩, h _ top ⟨_, Heap.get?_push_of_some _ (Heap.get?_push_size _ rfl), rfl, rfl⟩ fun b o e => Heap.get?_push_of_some _ (Heap.get?_push_of_some _ e)⟩
end
/-- the places and the items of the tuple at a, in new pairs -/
def IteT (K : PySem.W.Frag) (a : Addr) : It where
  go := fun i H => ∃ us : List V, SqT K H a us ∧ i < us.length
  yld := fun i H v H' => ∃ T x, v = .ref T ∧ H T = none ∧ H' = upd H T (.tup [.int (i : Nat), x]) ∧ ∀ us, SqT K H a us → us[i]? = some x
  stop := fun i H => ∃ us : List V, SqT K H a us ∧ i = us.length
theorem turnET {P : Program} {w : World} {K : PySem.W.Frag} {elts : List Expr} {kk : Nat} {tpos : Pos} {a e it : Addr} (ne : e ≠ it) (na : a ≠ it) (nea : e ≠ a) :
    Turn P w K (.Tuple elts kk tpos) (IteT K a) [e, it] e (fun i h => (∃ old, IsEnum h e it ((i : Nat) : Int) old) ∧ h.IsTupleIter it a i) where
  mem := by simp
  obj := by
    rintro i h ⟨⟨old, g1⟩, ⟨o2, e2, _, d2⟩⟩ c hc
    simp only [List.mem_cons, List.not_mem_nil, or_false] at hc
    rcases hc with rfl | rfl
    · exact ⟨_, g1, by rintro _ ⟨⟩⟩
    · exact ⟨o2, e2, by rintro _ j; rw [d2] at j; cases j⟩
  keep := by
    rintro i h h2 ⟨⟨old, g1⟩, g2⟩ kp
    exact ⟨⟨old, kp _ (by simp) _ g1⟩, g2.at (kp it (by simp))⟩
  item := by
    rintro X rfl rfl rfl calm i pins s σ H E I apart ⟨⟨old, g1⟩, g2⟩ ⟨us, hu, lu⟩
    obtain ⟨ts, rt, pt, _⟩ := I.tuple hu
    have free := I.ok.hd calm
    have el : e < s.heap.objs.size := Heap.lt_size g1
    obtain ⟨x, hx⟩ : ∃ x, us[i]? = some x := ⟨us[i], by simp [lu]⟩
    have len1 : ts.toArray.size = us.length := by simpa using rt.length.symm
    refine wpAny_pyNext_enum_itemD (Draws.tuple (A := X.A.in1) free it a na ts.toArray) g1 (i := i) ⟨g2, pt⟩ (by omega) ne (by simp [ne, nea]) ?_
    rintro u h1 tk eu j1 ⟨j2, _⟩ j3 _ kp
    obtain ⟨u2, gu, ru⟩ := rt.get hx
    have qu : u2 = u := by simpa [gu] using eu
    subst qu
    refine ⟨_, rfl, wpAny_letOwnedTupleGo_enum (s := { s with heap := h1, toks := tk + 1 }) j1 fun h2 j4 sb => ?_⟩
    have at_new : h2.get? s.heap.objs.size = some { cls := .type "tuple", data := .seq #[.int i tk, u2] } := (sb.2 _ (Nat.ne_of_gt el)).trans j3
    have fresh := I.hok.fresh (Nat.le_refl s.heap.objs.size)
    have J : Inv X pins σ (upd H s.heap.objs.size (.tup [.int (i : Nat), x])) { s with heap := h2, toks := tk + 1 } := by
      refine I.turnedNew (ch := [e, it]) (fun c o hc q => ?_) apart (Nat.le_refl _) ⟨(by show 2 ≤ sizeLine; decide), [.int i tk, u2], .cons ⟨tk, rfl⟩ (.cons ru .nil), ⟨_, at_new, rfl, _, rfl⟩⟩
      simp only [List.mem_cons, List.not_mem_nil, or_false, not_or] at hc
      exact (sb.2 c hc.1).trans (kp c o hc.1 hc.2 q)
    refine ⟨.ref s.heap.objs.size, _, J, rfl, ⟨_, x, rfl, fresh, rfl, fun l hl => by rw [I.tuple_inj hl hu]; exact hx⟩, ⟨⟨_, by simpa using j4⟩, j2.at fun o q => (sb.2 _ ne.symm).trans q⟩, fun c hc => ?_⟩
    have lt : c < s.heap.objs.size := by
      simp only [List.mem_cons, List.not_mem_nil, or_false] at hc
      rcases hc with rfl | rfl
      · exact el
      · obtain ⟨_, q, _⟩ := g2; exact Heap.lt_size q
    rw [upd_ne (Nat.ne_of_lt lt)]
    exact (apart c hc).1
  done := by
    rintro X rfl rfl rfl calm i pins s σ H E I apart ⟨⟨old, g1⟩, g2⟩ ⟨us, hu, fin⟩
    obtain ⟨ts, rt, pt, _⟩ := I.tuple hu
    have free := I.ok.hd calm
    have len1 : ts.toArray.size = us.length := by simpa using rt.length.symm
    have at_end : i = ts.toArray.size := by omega
    refine wpAny_pyNext_enum_endD (Draws.tuple (A := X.A.in1) free it a na ts.toArray) g1 ⟨by rw [← at_end]; exact g2, pt⟩ fun h1 kp => ⟨rfl, ?_⟩
    refine I.turnedL (t' := s.toks) (ch := [e, it]) (fun c o hc q => ?_) apart
    simp only [List.mem_cons, List.not_mem_nil, or_false, not_or] at hc
    exact kp c o hc.2 q
  self := fun A i s Q E ⟨⟨_, g1⟩, _⟩ h => wpAny_pyIter_enum g1 h
def iEnumT (K : PySem.W.Frag) (ta : TA) : TI := fun σ H R => ta σ H fun vs H1 => ∃ a us, vs = [.ref a] ∧ SqT K H1 a us ∧ R (IteT K a) H1
theorem pi_enumT {X : Cx} {e : Expr} {ta : TA} {p pos tpos : Pos} {elts : List Expr} {kk : Nat} (hg : Gl X "enumerate") (hm : X.mg "enumerate" = none) (ha : PA X [e] ta) (hs : starEach [e] X.env = [(false, eval e X.env)] := by rfl) :
    PI X (.Tuple elts kk tpos) (.Call (.Name "enumerate" p) [e] [] pos) (iEnumT X.K ta) := by
  refine ⟨fun pins s σ H R I h => Call_ (ld_blt I hg hm boot_enumerate (PyProof.Rows.callWith_type1 (thn (ha.run pos pins s σ H _ I h) ?_) hs rfl))⟩
  rintro us s1 ⟨vs, H1, I1, r1, a, xs, rfl, hu, q⟩
  obtain ⟨u1, rfl, r2⟩ := vals1 r1
  cases (show u1 = Value.ref a from r2)
  obtain ⟨ts, rt, pt, _⟩ := I1.tuple hu
  have la : a < s1.heap.objs.size := by obtain ⟨_, z, _⟩ := id pt; exact Heap.lt_size z
  refine enumTup_call pt fun h2 g1 g2 kp => wpAny_pyIter_enum g1 ?_
  refine ⟨_, _, _, _, H1, rfl, I1.kept (t' := s1.toks) kp, turnET (Nat.succ_ne_self _) (Nat.ne_of_lt la) (Nat.ne_of_gt (Nat.lt_succ_of_lt la)), ⟨⟨_, g1⟩, g2⟩, fun c hc => ?_, q⟩
  have ge : s1.heap.objs.size ≤ c := by
    simp only [List.mem_cons, List.not_mem_nil, or_false] at hc
    rcases hc with rfl | rfl
    · exact Nat.le_add_right _ 1
    · exact Nat.le_refl _
  exact I1.fpOk ge (I1.hok.fresh ge)
theorem walk_enumT {K : PySem.W.Frag} {a : Addr} {us : List V} : Walk (IteT K a) us.length (fun H => SqT K H a us) (YPair (fun i => some (.int (i : Nat))) (fun i => us[i]?)) := by
  refine ⟨fun i H hi q => ⟨us, q, hi⟩, fun H q => ⟨us, q, rfl⟩, fun i H v H2 hi q y => ?_⟩
  obtain ⟨T, x, e1, e2, e3, e4⟩ := y
  exact ⟨T, .int (i : Nat), x, e1, e2, e3, rfl, e4 us q⟩
end L2
/-! raise C(e): an own class whose __init__ stores its one argument -/
namespace L2
open PySem PySem.Spec PyProof.Rows
section
variable {X : Cx} {C fI : Addr} {f : Str} {B newId initId : String} {bmB : List Value}
/-- raise C(e): the error's own dict holds the field -/
def tRx (f : Str) (C : Addr) (te : TE) : St → Hp → XK → Prop := fun σ H Q => te σ H fun v H1 => ∀ d H', Same H1 H' → H1 d = none → H' d = some (.xd [(f, v)]) → Q (.ref C) (some d) H'
theorem pmk_xc {x : Str} {a : Expr} {te : TE} {p pos : Pos} {k : Nat} (FB : ExcBaseFacts B newId initId bmB) (SF : StoreFacts B bmB "object.__setattr__" "object") (T : XCl X.K C newId bmB) (J : XIn X.K C fI f) (N : FName f) (hty : PySem.W.typeIn X.K (.ref C) = some (.type "type"))
    (hr : Room k X.A) (hk : 1 ≤ k) (hm : X.mg x = some (.ref C)) (he : PE X a te) (hg : Gl X x := by rfl) (hdb : (x == ("__debug__" : Str)) = false := by decide)
    (hst : starEach (a :: []) X.env = (false, eval a X.env) :: starEach [] X.env := by rfl) (hpl : (backTo pos (starEach [] X.env)).any (·.1) = false := by rfl) : PMk X (.Call (.Name x p) [a] [] pos) (tRx f C te) := by
  intro pins s σ H Q I h
  refine wpAny_Call_Name_kw (ld_glob I hg hm ?_ hdb)
  have one : PA X [a] (fun σ H Q => te σ H fun v H1 => Q [v] H1) := pa_cons he pa_nil hst
  refine PySem.W.callWith_K (h₀ := X.base) I.ok.mod.kin T.kp (thn (one.run pos pins s σ H (fun vs H1 => ∃ v, vs = [v] ∧ ∀ d H', Same H1 H' → H1 d = none → H' d = some (.xd [(f, v)]) → Q (.ref C) (some d) H') I ?_) fun us s1 hh => ?_) hst hpl
  · have same : (fun (v : V) (H1 : Hp) => ∃ u, [v] = [u] ∧ ∀ d H', Same H1 H' → H1 d = none → H' d = some (.xd [(f, u)]) → Q (.ref C) (some d) H') = fun v H1 => ∀ d H', Same H1 H' → H1 d = none → H' d = some (.xd [(f, v)]) → Q (.ref C) (some d) H' := by
      funext v H1
      simp
    show te σ H _
    rw [same]
    exact h
  · obtain ⟨vs, H1, I1, r1, v, rfl, q1⟩ := hh
    obtain ⟨u, rfl, ru⟩ := vals1 r1
    refine ⟨I1.kIn, ?_⟩
    show wpAny _ _ (call (.ref C) [u]) _ _ _
    have lim := I1.nolimit
    have rm : X.A.depth + 1 < recursionLimit := by have := hr.dp; omega
    obtain ⟨hp, g, dr, tk, os⟩ := s1
    refine wpAny_call (xmade FB SF T J N (v := u) I1.kIn lim rm (.inl rfl) fun h2 tk2 e d M => ?_)
    show MkP X pins σ Q (.ref e) ⟨h2, g, dr, tk2, os⟩
    obtain ⟨tp, ox⟩ := M.obj
    obtain ⟨G2, g1, g2⟩ := restrict h2 fun b => decide (b ≠ e)
    have gk : ∀ b, b ≠ e → G2.get? b = h2.get? b := fun b hb => g1 b (decide_eq_true hb)
    have ge : G2.get? e = none := g2 e (by simp)
    have old : ∀ b o, hp.get? b = some o → G2.get? b = some o := fun b o q => (gk b (Nat.ne_of_lt (Nat.lt_of_lt_of_le (Heap.lt_size q) M.big))).trans (M.keep b o q)
    have nd : H1 d = none := I1.hok.fresh M.dbig
    have rel : ∀ z, RelO (([(f, v)] : List (Str × V)).lookup z) (if z = f then some u else none) := relO_put (fs := []) (mA := fun _ => none) ru fun z => True.intro
    have ob : ObjOk X.prog X.w (upd H1 d (.xd [(f, v)])) G2 d (.xd [(f, v)]) := ⟨_, M.ns.at (fun o q => (gk d M.ne.symm).trans q), rel⟩
    have I2 : Inv X pins σ (upd H1 d (.xd [(f, v)])) ⟨G2, g, dr, tk2, os⟩ := I1.laid (t' := tk2) old M.dbig ob
    refine ⟨e, _, _, ⟨G2, g, dr, tk2, os⟩, _, .ref C, some d, rfl, I2, fun b o q => ?_, ge, ox, ⟨rfl, rfl⟩, rfl, rfl, ?_, rfl, I1.bare, raises_own T.xb hty, q1 d _ (Same.new nd) nd upd_same⟩
    · by_cases hb : b = e
      · subst hb
        have q2 : G2.get? b = some o := q
        rw [ge] at q2; cases q2
      · exact (gk b hb).symm.trans q
    · rw [upd_ne M.ne]
      exact I1.hok.fresh M.big
end
section
variable {X : Cx} {CX : CXT} {k j : Nat} {ps : List Str} {sp : Sp} {E : St → XK} {x : Str} {p pos : Pos} {e : Expr} {es : List Expr} {t : TA}
/-- f(e, ..) of a def that may raise, where the raising is taken -/
theorem pe_fS (F : FnQ X.prog X.w X.K X.mg X.base CX j x ps sp) (hr : Room k X.A) (hx : ∀ σ, PassesAt CX X σ (E σ)) (ha : PA X (e :: es) t) (hg : Gl X x := by rfl) (hj : j ≤ k := by decide) (hdb : (x == ("__debug__" : Str)) = false := by decide)
    (hst : starEach (e :: es) X.env = (false, eval e X.env) :: starEach es X.env := by rfl) (hpl : (backTo pos (starEach es X.env)).any (·.1) = false := by rfl) : PE X (.Call (.Name x p) (e :: es) [] pos) (tCallS sp E t) := by
  obtain ⟨fd, G, b, _⟩ := F.fn
  exact pe_callS G (hr.mono hj) hg F.gl F.kp b hx ha hdb hst hpl
end
end L2
namespace K02
open PySem PySem.Spec PyProof.Rows L2
def veB : List Value := [.type "ValueError", .type "Exception", .type "BaseException", .type "object"]
/-- an own error with one field -/
structure Err (K : PySem.W.Frag) (mg : Str → Option Value) (x f : Str) : Prop where
  gl : mg x = some (.ref (He.ga K x))
  cl : XCl K (He.ga K x) "ValueError.__new__" veB
  xi : XIn K (He.ga K x) (He.ma K (He.ga K x) "__init__") f
  ty : PySem.W.typeIn K (.ref (He.ga K x)) = some (.type "type")
theorem fn_index : FName "index" := ⟨fun _ _ _ _ _ _ _ _ _ _ _ _ => rfl, fun _ _ _ _ _ _ _ _ _ _ _ _ => rfl, rfl, rfl, rfl, by decide, by decide +kernel⟩
theorem fn_setting : FName "setting" := ⟨fun _ _ _ _ _ _ _ _ _ _ _ _ => rfl, fun _ _ _ _ _ _ _ _ _ _ _ _ => rfl, rfl, rfl, rfl, by decide, by decide +kernel⟩
def optI : Option Nat → V
  | none => .non | some i => .int (i : Nat)
abbrev spWrong (K : PySem.W.Frag) : Sp := fun vs H Q E => ∃ v d, vs = [v] ∧ Dd K H v d ∧ (∀ rows, d = .tup rows → ∀ H', Same H H' → Q (optI (wrongAt [] 0 rows)) H') ∧
  ((∀ rows, d ≠ .tup rows) → ∀ e H', Same H H' → H e = none → H' e = some (.xd [("index", .non)]) → E (.ref (He.ga K "BadScript")) (some e) H')
section
variable {P : Program} {w : World} {K : PySem.W.Frag} {mg : Str → Option Value} {base : Heap}
/-- the keys met so far -/
structure Seen (kvs : List (List Key × V)) (seen : List (Str × Str)) (i : Nat) : Prop where
  has : ∀ m x : Str, (valV kvs [.inr m, .inr x]).isSome = decide ((m, x) ∈ seen)
  few : kvs.length ≤ i
theorem Seen.put {kvs : List (List Key × V)} {seen : List (Str × Str)} {i : Nat} (S : Seen kvs seen i) (m x : Str) (v : V) : Seen (putK kvs [.inr m, .inr x] v) ((m, x) :: seen) (i + 1) := by
  refine ⟨fun m2 x2 => ?_, ?_⟩
  · rw [valV_put]
    by_cases c : (m2, x2) = (m, x)
    · cases c
      rw [if_pos rfl]
      simp
    · have c2 : ¬ ([.inr m2, .inr x2] : List Key) = [.inr m, .inr x] := fun e => c (by
        injection e with e1 e2
        injection e2 with e2 _
        injection e1 with e1
        injection e2 with e2
        rw [e1, e2])
      rw [if_neg c2, S.has]
      simp [c]
  · have h := S.few
    unfold putK
    split
    · simpa using Nat.le_succ_of_le h
    · simp; omega
theorem row_form {r : Dt} (h : rowD r = true) : ∃ m x k ds, r = .tup [.str m, .str x, k, ds] ∧ wordS m = true ∧ wordS x = true := by
  unfold rowD at h
  split at h
  · rename_i m x k ds
    simp only [Bool.and_eq_true] at h
    obtain ⟨⟨⟨h1, h2⟩, _⟩, _⟩ := h
    cases m with
    | str m => cases x with
      | str x => exact ⟨m, x, k, ds, rfl, h1, h2⟩
      | _ => cases h2
    | _ => cases h1
  · cases h
theorem ok_wrong_row (F : Has K mg "wrong_row" s_wrong_row) (T : Txt K mg) (TE : Err K mg "BadScript" "index") (F_is_row : FnQ P w K mg base CX0 8 "_is_row" ["value"] (spChk K rowD)) : FnQ P w K mg base (L2.CX P w) 9 "wrong_row" ["script"] (spWrong K) := by
  refine F.q sc_wrong_row (fun _ _ _ _ _ _ us hl => match us, hl with | [_], _ => rfl) (fun vs H Q E h => by obtain ⟨v, d, rfl, _⟩ := h; rfl) (fun cdv A outer s H vs Q E hr h => ?_)
  obtain ⟨v, d, rfl, hd, k, ke⟩ := h
  have gI : mg "isinstance" = none := T.fr _ (by simp [frees])
  refine ⟨_, (pss_cons (ps_if (pt_not (pt_val (pe_callB call_isi (by rfl) gI boot_isinstance (pa_cons (pv 0) (pa_cons (pe_bltn (v := .ty "tuple") (by rfl) (T.fr "tuple" (by simp [frees])) PyProof.Rows.boot_tuple rfl) pa_nil)))))
  (pss_one (ps_raise rfl (takes_of rfl rfl rfl rfl) (pmk_xc PySem.F.excBase_ValueError PySem.F.store_ValueError TE.cl TE.xi fn_index TE.ty hr (by decide) TE.gl pe_non)))
  pss_nil)
  (PSs.nox (pss_cons (ps_set (i := 1) sc_wrong_row.nd rfl (by first | exact .inl rfl | exact .inr rfl) pe_dnewT)
  (pss_cons (ps_for PassesOwn.never rfl (pi_enumT (by rfl) (T.fr "enumerate" (by simp [frees])) (pa_cons (pv 0) pa_nil)) (pg_tup rfl (pgs_cons (pg_name (i := 2) sc_wrong_row.nd rfl (by first | exact .inl rfl | exact .inr rfl)) (pgs_cons (pg_name (i := 3) sc_wrong_row.nd rfl (by first | exact .inl rfl | exact .inr rfl)) pgs_nil)))
  (pss_cons (ps_if (pw_or (pt_cmpR op_eq (pv 2) (C8.pe_gc (by rfl) T.c_MOST_ROWS) (by first | exact nomark _ | rfl)) (pw_or (pt_not (pt_val (pe_f F_is_row hr pass0 (pa_cons (pv 3) pa_nil)))) (pw_or1 (pt_cmp (pc_din (hu_of hr) (pe_tupM (pa_cons (pe_ix ix_tup (pv 3) pe_int (fun _ _ => rfl)) (pa_cons (pe_ix ix_tup (pv 3) pe_int (fun _ _ => rfl)) pa_nil))) (pv 1)))))).pt
  (pss_one (ps_ret (pv 2)))
  pss_nil)
  (pss_one (ps_dput (hu_of hr) (pv 1) (pe_tupM (pa_cons (pe_ix ix_tup (pv 3) pe_int (fun _ _ => rfl)) (pa_cons (pe_ix ix_tup (pv 3) pe_int (fun _ _ => rfl)) pa_nil))) pe_bl rfl))))
  (pss_one (ps_ret pe_non)))))), ?_⟩
  refine ⟨_, rfl, _, _, _, _, _, rfl, .ty _, (hd).ty T.pk, T.pk.kit _ 3 (kd_lt _) (by decide), _, rfl, ?_⟩
  cases d with
  | tup rows =>
    refine if_no rfl ?_
    obtain ⟨a, xs, rfl, hx, ha, hl⟩ := tup_len hd
    intro D hD
    have s0 : Same H (upd H D (.dT [])) := Same.new hD
    refine ⟨_, rfl, a, xs, rfl, s0.sqT hx, for_it walk_enumT (fun i σ H' => (∃ vi vr, σ = [some (.ref a), some (.ref D), vi, vr]) ∧ Same H H' ∧ ∃ kvs seen, H' D = some (.dT kvs) ∧ Seen kvs seen i ∧ wrongAt seen i (rows.drop i) = wrongAt [] 0 rows ∧ i ≤ 30)
      ⟨⟨none, none, rfl⟩, s0, [], [], upd_same, ⟨fun _ _ => rfl, Nat.le_refl _⟩, rfl, by decide⟩ (fun i σ H' _ h => h.2.1.sqT hx) ?_ ?_⟩
    · rintro i v σ H1 H2 hi ⟨⟨vi, vr, rfl⟩, s1, kvs, seen, d1, S, W, i30⟩ ⟨tp, x0, y, rfl, nT, rfl, e1, e2⟩
      cases e1
      obtain ⟨r, er, hr1⟩ := ha.get (show xs[i]? = some y from e2)
      have li : i < rows.length := by rw [← hl]; exact hi
      have dr : rows.drop i = r :: rows.drop (i + 1) := by
        rw [List.drop_eq_getElem_cons li]
        congr 1
        rw [List.getElem?_eq_getElem li] at er
        exact Option.some.inj er
      rw [dr] at W
      have s2 : Same H (upd H1 tp (.tup [.int (i : Nat), y])) := s1.trans (Same.new nT)
      have d2 : (upd H1 tp (.tup [.int (i : Nat), y])) D = some (.dT kvs) := Same.new nT _ _ d1
      generalize hH2 : upd H1 tp (.tup [.int (i : Nat), y]) = H2 at s2 d2
      have at_tp : H2 tp = some (.tup [.int (i : Nat), y]) := by rw [← hH2]; exact upd_same
      refine ⟨tp, _, rfl, SqT.of at_tp, rfl, _, _, rfl, _, _, rfl, rfl, ?_⟩
      refine ⟨_, rfl, rfl, _, rfl, ?_⟩
      by_cases c1 : i = 30
      · subst c1
        refine if_yes (decide_eq_true rfl) (if_yes rfl ⟨_, rfl, ?_⟩)
        have z := k rows rfl H2 s2
        rw [← W] at z
        exact z
      · refine if_no (decide_eq_false fun e => c1 (by injection e with e; omega)) ?_
        refine ⟨_, rfl, y, r, rfl, hr1.same s2, fun H3 s3 => ⟨_, rfl, ?_⟩⟩
        have s03 := s2.trans s3
        cases c2 : rowD r with
        | false =>
          refine if_yes rfl (if_yes rfl ⟨_, rfl, ?_⟩)
          have z := k rows rfl H3 s03
          rw [← W] at z
          unfold wrongAt at z
          rw [if_neg c1, if_pos c2] at z
          exact z
        | true =>
          refine if_no rfl ?_
          obtain ⟨m, x, kk, ds, rfl, wm, wx⟩ := row_form c2
          obtain ⟨q, ys, rfl, hq, hy, _⟩ := tup_len hr1
          obtain ⟨v1, v2, v3, v4, rfl, h1, h2, _, _⟩ := hy.four
          cases h1
          cases h2
          have two : (2 : Nat) ≤ sizeLine := by decide
          refine ⟨_, rfl, q, _, _, .str m, rfl, rfl, s03.sqT hq, at_of (j := 0) rfl rfl, _, rfl, q, _, _, .str x, rfl, rfl, s03.sqT hq, at_of (j := 1) rfl rfl, two, fun t H4 s4 n4 l4 => ?_⟩
          have d4 : H4 D = some (.dT kvs) := s4 _ _ (s3 _ _ d2)
          refine ⟨_, rfl, D, _, rfl, DGet.t (k := [.inr m, .inr x]) d4 l4, _, rfl, ?_⟩
          have s04 := s03.trans s4
          rw [S.has]
          by_cases c3 : (m, x) ∈ seen
          · refine if_yes (decide_eq_true c3) ⟨_, rfl, ?_⟩
            have z := k rows rfl H4 s04
            rw [← W] at z
            unfold wrongAt at z
            rw [if_neg c1, if_neg (by rw [c2]; exact Bool.noConfusion), if_pos (show keyD (.tup [.str m, .str x, kk, ds]) ∈ seen from c3)] at z
            exact z
          · refine if_no (decide_eq_false c3) ?_
            refine ⟨_, rfl, _, rfl, q, _, _, .str m, rfl, rfl, s04.sqT hq, at_of (j := 0) rfl rfl, _, rfl, q, _, _, .str x, rfl, rfl, s04.sqT hq, at_of (j := 1) rfl rfl, two, fun t2 H5 s5 n5 l5 => ?_⟩
            have d5 := s5 _ _ d4
            have S2 := S.put m x (.bl true)
            refine ⟨D, _, rfl, DPut.t (k := [.inr m, .inr x]) d5 l5 (small1000 (by have := S.few; omega)), ⟨_, _, rfl⟩, fun b o e => ?_, _, (m, x) :: seen, upd_same, S2, ?_, by omega⟩
            · rw [upd_ne (ne_of_none e hD)]
              exact s5 _ _ (s04 _ _ e)
            · rw [← W]
              show _ = wrongAt seen i (_ :: _)
              conv => rhs; unfold wrongAt
              rw [if_neg c1, if_neg (by rw [c2]; exact Bool.noConfusion), if_neg (show ¬ keyD (.tup [.str m, .str x, kk, ds]) ∈ seen from c3)]
              rfl
    · rintro σ H' ⟨⟨vi, vr, rfl⟩, s1, kvs, seen, d1, S, W, i30⟩
      have z := k rows rfl H' s1
      rw [← W, hl, List.drop_length] at z
      exact z
  | _ => exact if_yes rfl (fun e H' s n x => ke (fun _ => by simp) e H' s n x)
end
end K02
namespace K02
open PySem PySem.Spec PyProof.Rows L2
section
variable {P : Program} {w : World} {K : PySem.W.Frag} {mg : Str → Option Value} {base : Heap}
abbrev s_check_settings : Stmt := (top 58)
def N_check_settings : List Str := ["checks", "setting", "is_right"]
theorem sc_check_settings : FnScope N_check_settings ["checks"] (defScope s_check_settings) := ⟨rfl, rfl, rfl, by decide +kernel, rfl, by decide +kernel, by decide +kernel⟩
abbrev s_is_deadline : Stmt := (top 57)
def N_is_deadline : List Str := ["value"]
theorem sc_is_deadline : FnScope N_is_deadline ["value"] (defScope s_is_deadline) := ⟨rfl, rfl, rfl, by decide +kernel, rfl, by decide +kernel, by decide +kernel⟩
abbrev s_WorkerPlan___init__ : Stmt := (inClass (top 54) 0)
def N_WorkerPlan___init__ : List Str := ["self", "name", "restart", "opening", "closing", "deadline", "refused", "script"]
theorem sc_WorkerPlan___init__ : FnScope N_WorkerPlan___init__ ["self", "name", "restart", "opening", "closing", "deadline", "refused", "script"] (defScope s_WorkerPlan___init__) := ⟨rfl, rfl, rfl, by decide +kernel, rfl, by decide +kernel, by decide +kernel⟩
theorem ok_is_script (F : Has K mg "is_script" s_is_script) (T : Txt K mg) (F_wrong_row : FnQ P w K mg base (L2.CX P w) 9 "wrong_row" ["script"] (spWrong K)) : FnQ P w K mg base CX0 10 "is_script" ["value"] (spChk K scriptD) := by
  refine F.q sc_is_script (fun _ _ _ _ _ _ us hl => match us, hl with | [_], _ => rfl) (fun vs H Q E h => by obtain ⟨v, d, rfl, _⟩ := h; rfl) (fun cdv A outer s H vs Q E hr h => ?_)
  obtain ⟨v, d, rfl, hd, k⟩ := h
  have gI : mg "isinstance" = none := T.fr _ (by simp [frees])
  refine ⟨_, PSs.nox (pss_one (ps_ret (pe_and (pe_callB call_isi (by rfl) gI boot_isinstance (pa_cons (pv 0) (pa_cons (pe_bltn (v := .ty "tuple") (by rfl) (T.fr "tuple" (by simp [frees])) PyProof.Rows.boot_tuple rfl) pa_nil))) (pe_one (pe_cmpR op_isN (pe_f F_wrong_row hr passL (pa_cons (pv 0) pa_nil)) pe_non (by first | exact nomark _ | rfl)))))), ?_⟩
  refine ⟨_, rfl, _, _, _, _, _, rfl, .ty _, (hd).ty T.pk, T.pk.kit _ 3 (kd_lt _) (by decide), _, rfl, ?_⟩
  cases d with
  | tup rows =>
    refine if_yes rfl ⟨_, rfl, v, _, rfl, hd, fun rows2 e H' s => ?_, fun n => absurd rfl (n rows)⟩
    cases e
    refine ⟨rfl, ?_⟩
    have z := k H' s
    have e : decide (optI (wrongAt [] 0 rows) = .non) = scriptD (.tup rows) := by
      unfold scriptD
      cases q : wrongAt [] 0 rows <;> simp [optI, q]
    rw [e]
    exact z
  | _ => exact if_no rfl (k H (Same.refl H))
def deadD : Dt → Bool
  | .non => true | d => isBtw 0 1000000000 d
theorem ok_is_deadline (F : Has K mg "_is_deadline" s_is_deadline) (T : Txt K mg) (F_is_between : FnQ P w K mg base CX0 2 "is_between" ["value", "low", "high"] (spBtw K)) : FnQ P w K mg base CX0 3 "_is_deadline" ["value"] (spChk K deadD) := by
  refine F.q sc_is_deadline (fun _ _ _ _ _ _ us hl => match us, hl with | [_], _ => rfl) (fun vs H Q E h => by obtain ⟨v, d, rfl, _⟩ := h; rfl) (fun cdv A outer s H vs Q E hr h => ?_)
  obtain ⟨v, d, rfl, hd, k⟩ := h
  refine ⟨_, PSs.nox (pss_one (ps_ret (pe_or (pe_cmpR op_isN (pv 0) pe_non (by first | exact nomark _ | rfl)) (pe_one (pe_f F_is_between hr pass0 (pa_cons (pv 0) (pa_cons pe_int (pa_cons (C8.pe_gc (by rfl) T.c_MOST_TICKS) pa_nil)))))))), ?_⟩
  refine ⟨_, rfl, rfl, _, rfl, ?_⟩
  cases hd with
  | non => exact if_yes rfl (k H (Same.refl H))
  | bl b => exact if_no rfl ⟨_, rfl, _, .bl b, _, _, rfl, .bl b, k⟩
  | int i => exact if_no rfl ⟨_, rfl, _, .int i, _, _, rfl, .int i, k⟩
  | str x h => exact if_no rfl ⟨_, rfl, _, .str x, _, _, rfl, .str x h, k⟩
  | lst h t => exact if_no rfl ⟨_, rfl, _, _, _, _, rfl, .lst h t, k⟩
  | tup h t => exact if_no rfl ⟨_, rfl, _, _, _, _, rfl, .tup h t, k⟩
  | dic h => exact if_no rfl ⟨_, rfl, _, .dic, _, _, rfl, .dic h, k⟩
  | wrk h l t o => exact if_no rfl ⟨_, rfl, _, _, _, _, rfl, .wrk h l t o, k⟩
  | sup h => exact if_no rfl ⟨_, rfl, _, .sup, _, _, rfl, .sup h, k⟩
/-- the first setting that is not right -/
def firstBad : List (Str × Bool) → Option Str
  | [] => none
  | (x, b) :: r => if b = true then firstBad r else some x
/-- pairs of a text and a truth -/
inductive Prs (K : PySem.W.Frag) (H : Hp) : List V → List (Str × Bool) → Prop
  | nil : Prs K H [] []
  | cons {t : Addr} {x : Str} {b : Bool} {vs : List V} {ps : List (Str × Bool)} : SqT K H t [.str x, .bl b] → Prs K H vs ps → Prs K H (.ref t :: vs) ((x, b) :: ps)
theorem Prs.same {H H' : Hp} (s : Same H H') {vs : List V} {ps : List (Str × Bool)} (h : Prs K H vs ps) : Prs K H' vs ps := by
  induction h with
  | nil => exact .nil
  | cons q _ ih => exact .cons (s.sqT q) ih
theorem Prs.get {H : Hp} {vs : List V} {ps : List (Str × Bool)} (h : Prs K H vs ps) : ∀ {i : Nat} {v : V}, vs[i]? = some v → ∃ t x b, v = .ref t ∧ ps[i]? = some (x, b) ∧ SqT K H t [.str x, .bl b] := by
  induction h with
  | nil => intro i v e; simp at e
  | cons q _ ih =>
    intro i v e
    cases i with
    | zero => simp at e; exact ⟨_, _, _, e.symm, rfl, q⟩
    | succ i => simpa using ih (by simpa using e)
theorem Prs.len {H : Hp} {vs : List V} {ps : List (Str × Bool)} (h : Prs K H vs ps) : vs.length = ps.length := by
  induction h with
  | nil => rfl
  | cons _ _ ih => simp [ih]
abbrev spSettings (K : PySem.W.Frag) : Sp := fun vs H Q E => ∃ p xs ps, vs = [.ref p] ∧ SqT K H p xs ∧ Prs K H xs ps ∧ (firstBad ps = none → ∀ H', Same H H' → Q .non H') ∧
  (∀ x, firstBad ps = some x → ∀ e H', Same H H' → H e = none → H' e = some (.xd [("setting", .str x)]) → E (.ref (He.ga K "BadSetting")) (some e) H')
theorem ok_check_settings (F : Has K mg "_check_settings" s_check_settings) (T : Txt K mg) (TE : Err K mg "BadSetting" "setting") : FnQ P w K mg base (L2.CX P w) 2 "_check_settings" ["checks"] (spSettings K) := by
  refine F.q sc_check_settings (fun _ _ _ _ _ _ us hl => match us, hl with | [_], _ => rfl) (fun vs H Q E h => by obtain ⟨p, xs, ps, rfl, _⟩ := h; rfl) (fun cdv A outer s H vs Q E hr h => ?_)
  obtain ⟨p, xs, ps, rfl, hp, hx, k, ke⟩ := h
  refine ⟨_, (pss_one (ps_for (passes_of rfl) rfl (pi_tup (pv 0)) (pg_tup rfl (pgs_cons (pg_name (i := 1) sc_check_settings.nd rfl (by first | exact .inl rfl | exact .inr rfl)) (pgs_cons (pg_name (i := 2) sc_check_settings.nd rfl (by first | exact .inl rfl | exact .inr rfl)) pgs_nil)))
  (pss_one (ps_if (pt_not (pt_val (pv 2)))
  (pss_one (ps_raise rfl (takes_of rfl rfl rfl rfl) (pmk_xc PySem.F.excBase_ValueError PySem.F.store_ValueError TE.cl TE.xi fn_setting TE.ty hr (by decide) TE.gl (pv 1))))
  pss_nil)))), ?_⟩
  refine ⟨_, rfl, p, rfl, ⟨_, hp⟩, for_it walk_tup (fun i σ H' => (∃ v1 v2, σ = [some (.ref p), v1, v2]) ∧ Same H H' ∧ firstBad (ps.drop i) = firstBad ps) ⟨⟨none, none, rfl⟩, Same.refl H, rfl⟩ (fun i σ H' _ h => h.2.1.sqT hp) ?_ ?_⟩
  · rintro i v σ H1 H2 hi ⟨⟨v1, v2, rfl⟩, s1, fb⟩ ⟨rfl, ex⟩
    obtain ⟨t, x, b, rfl, ep, ht⟩ := hx.get ex
    have li : i < ps.length := by rw [← hx.len]; exact hi
    have dr : ps.drop i = (x, b) :: ps.drop (i + 1) := by
      rw [List.drop_eq_getElem_cons li]
      congr 1
      rw [List.getElem?_eq_getElem li] at ep
      exact Option.some.inj ep
    rw [dr] at fb
    refine ⟨t, _, rfl, s1.sqT ht, rfl, _, _, rfl, _, _, rfl, rfl, _, rfl, _, rfl, ?_⟩
    cases b with
    | true =>
      refine if_no rfl ⟨⟨_, _, rfl⟩, s1, ?_⟩
      rw [← fb]
      rfl
    | false =>
      refine if_yes rfl ⟨_, rfl, fun e H' s n x2 => ke x ?_ e H' (s1.trans s) ?_ x2⟩
      · rw [← fb]
        rfl
      · cases q : H e with
        | none => rfl
        | some o => rw [s1 _ _ q] at n; cases n
  · rintro σ H' ⟨⟨v1, v2, rfl⟩, s1, fb⟩
    rw [hx.len, List.drop_length] at fb
    exact k fb.symm H' s1
def restarts : List Str := ["permanent", "transient", "temporary"]
def tickMax : Int := 1000000000
/-- what WorkerPlan asks of its seven settings -/
def wset (d1 d2 d3 d4 d5 d6 d7 : Dt) : List (Str × Bool) := [("name", isPlace d1), ("restart", isOne restarts d2), ("opening", isBtw 0 1000000000 d3), ("closing", isBtw 0 1000000000 d4), ("deadline", deadD d5), ("refused", isBtw 0 100 d6), ("script", scriptD d7)]
def wflds (v1 v2 v3 v4 v5 v6 v7 : V) : List (Str × V) := [("name", v1), ("restart", v2), ("opening", v3), ("closing", v4), ("deadline", v5), ("refused", v6), ("script", v7)]
abbrev wNames : List Str := ["name", "restart", "opening", "closing", "deadline", "refused", "script"]
abbrev spWInit (K : PySem.W.Frag) : Sp := fun vs H Q E => ∃ a dx v1 v2 v3 v4 v5 v6 v7 d1 d2 d3 d4 d5 d6 d7, vs = [.ref a, v1, v2, v3, v4, v5, v6, v7] ∧ H a = some (.ins (wkA K) dx []) ∧
  Dd K H v1 d1 ∧ Dd K H v2 d2 ∧ Dd K H v3 d3 ∧ Dd K H v4 d4 ∧ Dd K H v5 d5 ∧ Dd K H v6 d6 ∧ Dd K H v7 d7 ∧
  (firstBad (wset d1 d2 d3 d4 d5 d6 d7) = none → ∀ H', Same H H' → Q .non (upd H' a (.ins (wkA K) dx (wflds v1 v2 v3 v4 v5 v6 v7)))) ∧
  (∀ x, firstBad (wset d1 d2 d3 d4 d5 d6 d7) = some x → ∀ e H', Same H H' → H e = none → H' e = some (.xd [("setting", .str x)]) → E (.ref (He.ga K "BadSetting")) (some e) H')
/-- a method of a class, with its keyword-only defaults -/
structure HasM (K : PySem.W.Frag) (C m q : Str) (st : Stmt) (kws : List (Str × V)) : Prop where
  df : ∃ fd, FunD K m q (defArgs st) (defBody st) (defScope st) [] kws (He.ma K (He.ga K C) m) fd
/-- what is asked of the class WorkerPlan -/
structure Wk (K : PySem.W.Frag) (mg : Str → Option Value) : Prop where
  gl : mg "WorkerPlan" = some (.ref (wkA K))
  cl : Cls K (wkA K)
  na : ∀ f ∈ wNames, NoAttr K (wkA K) f
  mkr : Mk K (wkA K) (He.ma K (wkA K) "__init__")
theorem putF_le {f : Str} {v : V} : ∀ {fs : List (Str × V)} {n : Nat}, fs.length ≤ n → (putF f v fs).length ≤ n + 1
  | [], n, _ => by show 1 ≤ n + 1; omega
  | (g, x) :: r, n, h => by
    unfold putF
    split
    · exact Nat.le_succ_of_le h
    · have z : r.length ≤ n - 1 := by simp at h; omega
      have y := putF_le (f := f) (v := v) z
      simp only [List.length_cons] at h ⊢
      omega
theorem wflds_put (v1 v2 v3 v4 v5 v6 v7 : V) : putF "script" v7 (putF "refused" v6 (putF "deadline" v5 (putF "closing" v4 (putF "opening" v3 (putF "restart" v2 (putF "name" v1 [])))))) = wflds v1 v2 v3 v4 v5 v6 v7 := by
  have q01 : ¬ (("name" : Str) = "restart") := by decide +kernel
  have q02 : ¬ (("name" : Str) = "opening") := by decide +kernel
  have q03 : ¬ (("name" : Str) = "closing") := by decide +kernel
  have q04 : ¬ (("name" : Str) = "deadline") := by decide +kernel
  have q05 : ¬ (("name" : Str) = "refused") := by decide +kernel
  have q06 : ¬ (("name" : Str) = "script") := by decide +kernel
  have q12 : ¬ (("restart" : Str) = "opening") := by decide +kernel
  have q13 : ¬ (("restart" : Str) = "closing") := by decide +kernel
  have q14 : ¬ (("restart" : Str) = "deadline") := by decide +kernel
  have q15 : ¬ (("restart" : Str) = "refused") := by decide +kernel
  have q16 : ¬ (("restart" : Str) = "script") := by decide +kernel
  have q23 : ¬ (("opening" : Str) = "closing") := by decide +kernel
  have q24 : ¬ (("opening" : Str) = "deadline") := by decide +kernel
  have q25 : ¬ (("opening" : Str) = "refused") := by decide +kernel
  have q26 : ¬ (("opening" : Str) = "script") := by decide +kernel
  have q34 : ¬ (("closing" : Str) = "deadline") := by decide +kernel
  have q35 : ¬ (("closing" : Str) = "refused") := by decide +kernel
  have q36 : ¬ (("closing" : Str) = "script") := by decide +kernel
  have q45 : ¬ (("deadline" : Str) = "refused") := by decide +kernel
  have q46 : ¬ (("deadline" : Str) = "script") := by decide +kernel
  have q56 : ¬ (("refused" : Str) = "script") := by decide +kernel
  simp [putF, wflds, q01, q02, q03, q04, q05, q06, q12, q13, q14, q15, q16, q23, q24, q25, q26, q34, q35, q36, q45, q46, q56]
theorem ok_winit {kws : List (Str × V)} {fd : FuncData} (F : FunD K "__init__" "WorkerPlan.__init__" (defArgs s_WorkerPlan___init__) (defBody s_WorkerPlan___init__) (defScope s_WorkerPlan___init__) [] kws (He.ma K (wkA K) "__init__") fd) (T : Txt K mg) (W : Wk K mg)
    (F_check_settings : FnQ P w K mg base (L2.CX P w) 2 "_check_settings" ["checks"] (spSettings K)) (F_is_place_name : FnQ P w K mg base CX0 2 "is_place_name" ["value"] (spChk K isPlace)) (F_is_one_of : FnQ P w K mg base CX0 1 "is_one_of" ["value", "words"] (spOne K))
    (F_is_between : FnQ P w K mg base CX0 2 "is_between" ["value", "low", "high"] (spBtw K)) (F_is_deadline : FnQ P w K mg base CX0 3 "_is_deadline" ["value"] (spChk K deadD)) (F_is_script : FnQ P w K mg base CX0 10 "is_script" ["value"] (spChk K scriptD)) :
    FnOk P w K mg base (L2.CX P w) 11 (He.ma K (wkA K) "__init__") fd ["self", "name", "restart", "opening", "closing", "deadline", "refused", "script"] (spWInit K) := by
  refine F.ok sc_WorkerPlan___init__ (fun vs H Q E h => by obtain ⟨_, _, _, _, _, _, _, _, _, _, _, _, _, _, _, _, rfl, _⟩ := h; rfl) (fun cdv A outer s H vs Q E hr h => ?_)
  obtain ⟨a, dx, v1, v2, v3, v4, v5, v6, v7, d1, d2, d3, d4, d5, d6, d7, rfl, ha, h1, h2, h3, h4, h5, h6, h7, k, ke⟩ := h
  refine ⟨_, (pss_cons (ps_expr (pe_fS F_check_settings hr (fun σ => passAt (takes_of rfl rfl rfl rfl) σ) (pa_cons (pe_tupM (pa_cons (pe_tupM (pa_cons pe_str (pa_cons (pe_f F_is_place_name hr pass0 (pa_cons (pv 1) pa_nil)) pa_nil))) (pa_cons (pe_tupM (pa_cons pe_str (pa_cons (pe_f F_is_one_of hr pass0 (pa_cons (pv 2) (pa_cons (C8.pe_gc (by rfl) T.c_RESTARTS) pa_nil))) pa_nil))) (pa_cons (pe_tupM (pa_cons pe_str (pa_cons (pe_f F_is_between hr pass0 (pa_cons (pv 3) (pa_cons pe_int (pa_cons (C8.pe_gc (by rfl) T.c_MOST_TICKS) pa_nil)))) pa_nil))) (pa_cons (pe_tupM (pa_cons pe_str (pa_cons (pe_f F_is_between hr pass0 (pa_cons (pv 4) (pa_cons pe_int (pa_cons (C8.pe_gc (by rfl) T.c_MOST_TICKS) pa_nil)))) pa_nil))) (pa_cons (pe_tupM (pa_cons pe_str (pa_cons (pe_f F_is_deadline hr pass0 (pa_cons (pv 5) pa_nil)) pa_nil))) (pa_cons (pe_tupM (pa_cons pe_str (pa_cons (pe_f F_is_between hr pass0 (pa_cons (pv 6) (pa_cons pe_int (pa_cons (C8.pe_gc (by rfl) T.c_MOST_REFUSED) pa_nil)))) pa_nil))) (pa_cons (pe_tupM (pa_cons pe_str (pa_cons (pe_f F_is_script hr pass0 (pa_cons (pv 7) pa_nil)) pa_nil))) pa_nil)))))))) pa_nil)))
  (PSs.nox (pss_cons (ps_fld (pv 0) (pv 1) rfl)
  (pss_cons (ps_fld (pv 0) (pv 2) rfl)
  (pss_cons (ps_fld (pv 0) (pv 3) rfl)
  (pss_cons (ps_fld (pv 0) (pv 4) rfl)
  (pss_cons (ps_fld (pv 0) (pv 5) rfl)
  (pss_cons (ps_fld (pv 0) (pv 6) rfl)
  (pss_one (ps_fld (pv 0) (pv 7) rfl)))))))))), ?_⟩
  have two : (2 : Nat) ≤ sizeLine := by decide
  have seven : (7 : Nat) ≤ sizeLine := by decide
  have hw : ∀ H, SqT K H (He.ga K "RESTARTS") (restarts.map V.str) := T.tq ("RESTARTS", restarts) (by simp [cTups, restarts])
  refine ⟨_, rfl, v1, d1, rfl, h1, fun H1 s1 => ⟨two, fun t1 G1 r1 n1 l1 => ?_⟩⟩
  have S1 : Same H G1 := s1.trans r1
  refine ⟨_, rfl, v2, d2, _, restarts, rfl, h2.same S1, hw G1, fun H2 s2 => ⟨two, fun t2 G2 r2 n2 l2 => ?_⟩⟩
  have T2 : Same G1 G2 := s2.trans r2
  have S2 := S1.trans T2
  refine ⟨_, rfl, v3, d3, _, _, rfl, h3.same S2, fun H3 s3 => ⟨two, fun t3 G3 r3 n3 l3 => ?_⟩⟩
  have T3 : Same G2 G3 := s3.trans r3
  have S3 := S2.trans T3
  refine ⟨_, rfl, v4, d4, _, _, rfl, h4.same S3, fun H4 s4 => ⟨two, fun t4 G4 r4 n4 l4 => ?_⟩⟩
  have T4 : Same G3 G4 := s4.trans r4
  have S4 := S3.trans T4
  refine ⟨_, rfl, v5, d5, rfl, h5.same S4, fun H5 s5 => ⟨two, fun t5 G5 r5 n5 l5 => ?_⟩⟩
  have T5 : Same G4 G5 := s5.trans r5
  have S5 := S4.trans T5
  refine ⟨_, rfl, v6, d6, _, _, rfl, h6.same S5, fun H6 s6 => ⟨two, fun t6 G6 r6 n6 l6 => ?_⟩⟩
  have T6 : Same G5 G6 := s6.trans r6
  have S6 := S5.trans T6
  refine ⟨_, rfl, v7, d7, rfl, h7.same S6, fun H7 s7 => ⟨two, fun t7 G7 r7 n7 l7 => ?_⟩⟩
  have T7 : Same G6 G7 := s7.trans r7
  have S7 := S6.trans T7
  refine ⟨seven, fun p G8 r8 n8 l8 => ?_⟩
  have S8 : Same H G8 := S7.trans r8
  have m7 := r8 _ _ l7
  have m6 := r8 _ _ (T7 _ _ l6)
  have m5 := r8 _ _ (T7 _ _ (T6 _ _ l5))
  have m4 := r8 _ _ (T7 _ _ (T6 _ _ (T5 _ _ l4)))
  have m3 := r8 _ _ (T7 _ _ (T6 _ _ (T5 _ _ (T4 _ _ l3))))
  have m2 := r8 _ _ (T7 _ _ (T6 _ _ (T5 _ _ (T4 _ _ (T3 _ _ l2)))))
  have m1 := r8 _ _ (T7 _ _ (T6 _ _ (T5 _ _ (T4 _ _ (T3 _ _ (T2 _ _ l1))))))
  refine ⟨p, _, wset d1 d2 d3 d4 d5 d6 d7, rfl, SqT.of l8, .cons (SqT.of m1) (.cons (SqT.of m2) (.cons (SqT.of m3) (.cons (SqT.of m4) (.cons (SqT.of m5) (.cons (SqT.of m6) (.cons (SqT.of m7) .nil)))))), fun fb H9 s9 => ?_, fun x fb e H' s n q => ke x fb e H' (S8.trans s) ?_ q⟩
  · have S9 := S8.trans s9
    have a9 := S9 _ _ ha
    have na : ∀ {f : Str}, f ∈ wNames → NoAttr K (wkA K) f := fun h => W.na _ h
    refine ⟨_, rfl, _, rfl, a, wkA K, dx, _, rfl, a9, W.cl, na (by simp), Nat.lt_of_le_of_lt (Nat.zero_le 0) (by decide), ?_⟩
    refine ⟨_, rfl, _, rfl, a, wkA K, dx, _, rfl, upd_same, W.cl, na (by simp), Nat.lt_of_le_of_lt (putF_le (Nat.zero_le 0)) (by decide), ?_⟩
    refine ⟨_, rfl, _, rfl, a, wkA K, dx, _, rfl, upd_same, W.cl, na (by simp), Nat.lt_of_le_of_lt (putF_le (putF_le (Nat.zero_le 0))) (by decide), ?_⟩
    refine ⟨_, rfl, _, rfl, a, wkA K, dx, _, rfl, upd_same, W.cl, na (by simp), Nat.lt_of_le_of_lt (putF_le (putF_le (putF_le (Nat.zero_le 0)))) (by decide), ?_⟩
    refine ⟨_, rfl, _, rfl, a, wkA K, dx, _, rfl, upd_same, W.cl, na (by simp), Nat.lt_of_le_of_lt (putF_le (putF_le (putF_le (putF_le (Nat.zero_le 0))))) (by decide), ?_⟩
    refine ⟨_, rfl, _, rfl, a, wkA K, dx, _, rfl, upd_same, W.cl, na (by simp), Nat.lt_of_le_of_lt (putF_le (putF_le (putF_le (putF_le (putF_le (Nat.zero_le 0)))))) (by decide), ?_⟩
    refine ⟨_, rfl, _, rfl, a, wkA K, dx, _, rfl, upd_same, W.cl, na (by simp), Nat.lt_of_le_of_lt (putF_le (putF_le (putF_le (putF_le (putF_le (putF_le (Nat.zero_le 0))))))) (by decide), ?_⟩
    have z := k fb H9 S9
    simp only [upd_upd]
    show Q .non (upd H9 a (.ins (wkA K) dx (putF "script" v7 (putF "refused" v6 (putF "deadline" v5 (putF "closing" v4 (putF "opening" v3 (putF "restart" v2 (putF "name" v1 [])))))))))
    rw [wflds_put]
    exact z
  · cases q : H e with
    | none => rfl
    | some o => rw [S8 _ _ q] at n; cases n
end
end K02
/-! max(ns, default=d) of a list of whole numbers that may be empty -/
namespace MxD
open PySem PySem.Spec PyProof.Rows
def KW (d : Value) : List (Str × Value) := [("default", d)]
/-- what the loop keeps: nothing yet, or the greatest so far, twice -/
def Old (num : Nat → Int) (P : Nat → Value → Prop) (j : Nat) (old : List Value) : Prop := (j = 0 ∧ old = []) ∨ ∃ b v, b < j ∧ P b v ∧ old = [v, v] ∧ ∀ i, i < j → num i ≤ num b
section
variable {prog : Program} {w : World} {A : Around} {R : Result → Shared → Prop} {I S : Addr} {fp wr : List Addr} {n : Nat} {P : Nat → Value → Prop} {St : Nat → Heap → Prop} {num : Nat → Int} {d : Value}
theorem loop (W : Walks prog w A.in1 I fp wr n P St) (isI : ∀ i v, P i v → ∃ t, v = .int (num i) t) (off : S ∉ fp) : ∀ (k j : Nat) (s : Shared) (old : List Value) (c : Nat), n - j = k → j ≤ n → St j s.heap → Old num P j old →
    s.heap.get? S = some { cls := .type "list", data := .seq old.toArray c } →
    (∀ v h' tk, (n = 0 ∧ v = d) ∨ (∃ b, b < n ∧ P b v ∧ ∀ i, i < n → num i ≤ num b) → (∀ b o, b ∉ wr → b ≠ S → s.heap.get? b = some o → h'.get? b = some o) → R (.ok (.ret v)) { s with heap := h', toks := tk }) →
    codeAny (model prog w) A (.builtin "max.loop" ⟨[.ref I, .none, .ref S], KW d⟩) R s := by
  have offW : S ∉ wr := fun z => off (W.sub _ z)
  have nm : (toString "max" ++ toString ".loop" : String) = "max.loop" := by decide
  intro k
  induction k with
  | zero =>
    intro j s old c hk hj hst ho hS fin
    obtain rfl : j = n := by omega
    refine codeAny_builtin F.entry_max_loop ?_; rw [Around.under_plainId F.plain_max_loop _]; show wpAny _ A.in1 (seqItems? (.ref S) >>= _) _ _ s; refine wpAny_bind (wpAny_seqItems hS rfl ?_)
    show wpAny _ A.in1 (tryCatch (pyNext (.ref I)) _ >>= _) _ _ s; refine wpAny_bind (wpAny_tryCatch (W.done s _ _ hst fun h1 tk1 k1 => ?_))
    have hS1 := k1 S _ offW hS
    rcases ho with ⟨rfl, rfl⟩ | ⟨b, v, lt, pv, rfl, gr⟩
    · refine wpAny_bind (wpAny_rule ?_)
      exact wpAny_pure (fin d h1 tk1 (.inl ⟨rfl, rfl⟩) fun b o hb _ e => k1 b o hb e)
    · show wpAny _ A.in1 (updateSeq S (fun _ => #[]) >>= _) _ _ _
      refine wpAny_bind (wpAny_updateSeq hS1 rfl (wpAny_bind (wpAny_letGo (wpAny_pure ?_))))
      exact fin v _ tk1 (.inr ⟨b, lt, pv, gr⟩) fun b o hb hn e => (Heap.get?_update_other _ _ (Ne.symm hn)).trans (k1 b o hb e)
  | succ k ih =>
    intro j s old c hk hj hst ho hS fin
    have lt : j < n := by omega
    refine codeAny_builtin F.entry_max_loop ?_; rw [Around.under_plainId F.plain_max_loop _]; show wpAny _ A.in1 (seqItems? (.ref S) >>= _) _ _ s; refine wpAny_bind (wpAny_seqItems hS rfl ?_)
    show wpAny _ A.in1 (tryCatch (pyNext (.ref I)) _ >>= _) _ _ s; refine wpAny_bind (wpAny_tryCatch (W.item j s _ _ lt hst fun u h1 tk1 pu st1 k1 => ?_))
    have hS1 := k1 S _ offW hS
    have next : ∀ (h2 : Heap) (tk2 : Tok) (old2 : List Value) (c2 : Nat), Old num P (j + 1) old2 → h2.get? S = some { cls := .type "list", data := .seq old2.toArray c2 } → (∀ b o, b ≠ S → h1.get? b = some o → h2.get? b = some o) →
        codeAny (model prog w) A (.builtin "max.loop" ⟨[.ref I, .none, .ref S], KW d⟩) R { s with heap := h2, toks := tk2 } := fun h2 tk2 old2 c2 o2 e2 k2 =>
      ih (j + 1) _ old2 c2 (by omega) lt (W.frame _ _ _ st1 fun b hb o e => k2 b o (fun z => off (by rw [← z]; exact hb)) e) o2 e2 fun v h3 tk3 fv k3 => fin v h3 tk3 fv fun b o hb hn e => k3 b o hb hn (k2 b o hn (k1 b o hb e))
    rcases ho with ⟨rfl, rfl⟩ | ⟨b, v, lb, pv, rfl, gr⟩
    · show wpAny _ A.in1 (updateSeq S (fun _ => #[u, u]) >>= _) _ _ _
      refine wpAny_bind (wpAny_updateSeq hS1 rfl ?_)
      rw [nm]; refine wpAny_pure ⟨plainId_quiet F.plain_max_loop _, next _ _ [u, u] _ (.inr ⟨0, u, Nat.zero_lt_one, pu, rfl, fun i hi => ?_⟩) (Heap.get?_update_self _ hS1 rfl) fun b o hn e => (Heap.get?_update_other _ _ (Ne.symm hn)).trans e⟩
      obtain rfl : i = 0 := by omega
      exact Int.le_refl _
    · show wpAny _ A.in1 (tryCatch (holding [u, u] (richCompare .Gt u v >>= _)) _ >>= _) _ _ _
      refine wpAny_bind (wpAny_tryCatch (wpAny_holding (wpAny_bind (CmpOf.ints_gt num isI j b u v _ _ _ pu pv (wpAny_bind (wpAny_holding (wpAny_truthy_bool (wpAny_bind (wpAny_letGo (wpAny_pure ?_))))))))))
      by_cases g : num j > num b
      · simp only [decide_eq_true g, if_true]
        refine wpAny_bind (wpAny_updateSeq hS1 rfl (wpAny_bind (wpAny_letGo ?_)))
        rw [nm]; refine wpAny_pure ⟨plainId_quiet F.plain_max_loop _, next _ _ [u, u] _ (.inr ⟨j, u, Nat.lt_succ_self j, pu, rfl, fun i hi => ?_⟩) (Heap.get?_update_self _ hS1 rfl) fun b o hn e => (Heap.get?_update_other _ _ (Ne.symm hn)).trans e⟩
        rcases Nat.lt_or_eq_of_le (Nat.le_of_lt_succ hi) with z | rfl
        · have := gr i z; omega
        · exact Int.le_refl _
      · simp only [decide_eq_false g, Bool.false_eq_true, if_false]
        refine wpAny_bind (wpAny_letGo ?_)
        rw [nm]; refine wpAny_pure ⟨plainId_quiet F.plain_max_loop _, next h1 tk1 [v, v] c (.inr ⟨b, v, by omega, pv, rfl, fun i hi => ?_⟩) hS1 fun b o hn e => e⟩
        rcases Nat.lt_or_eq_of_le (Nat.le_of_lt_succ hi) with z | rfl
        · exact gr i z
        · omega
theorem args_ok (a d : Value) : argsOk "max" ⟨[a], KW d⟩ := by unfold argsOk; kernel_rfl
theorem entry {id : String} {b : Builtin} {args : List Value} {kw : List (Str × Value)} {E : Value → Shared → Prop} {s : Shared} {Q : Value → Shared → Prop} (hk : builtinKind id = none) (hp : plainId id = true) (hb : entryFor table id = some b) (ha : argsOk id ⟨args, kw⟩)
    (hc : wpAny (model prog w) A.in1 (b ⟨args, kw⟩) (fun fin s' => match fin with | .done f => (match (Except.ok f : Result) with | .ok (.ret v) => Q v s' | .ok _ => False | .error e => E e s') | .again c' => c'.quiet = true ∧ codeAny (model prog w) A c' (fun r s' => match r with | .ok (.ret v) => Q v s' | .ok _ => False | .error e => E e s') s') E s) :
    wpAny (model prog w) A (call (.builtin id) args kw) Q E s := by
  refine wpAny_call (codeAny_call_builtin hp hb ?_)
  simp only [checkBuiltinCall, hk]
  cases q : Manifest.signature? id with
  | none => exact wpAny_pure hc
  | some sig =>
    have z : Bind.checkArgs id sig ⟨args, kw⟩ = pure () := by simpa only [argsOk, q] using ha
    simp only [z]; exact wpAny_pure hc
variable {E : Value → Shared → Prop} {s : Shared} {l : Addr} {xs : Array (Int × Tok)} {Q : Value → Shared → Prop}
theorem call_ints (hh : A.handled = none) (hl : s.heap.IsList l (intItems xs))
    (h : ∀ v h' tk, (xs.size = 0 ∧ v = d) ∨ (∃ b, b < xs.size ∧ (intItems xs)[b]? = some v ∧ ∀ i, i < xs.size → numAt xs i ≤ numAt xs b) → (∀ b o, s.heap.get? b = some o → h'.get? b = some o) → Q v { s with heap := h', toks := tk }) :
    wpAny (model prog w) A (call (.builtin "max") [.ref l] (KW d)) Q E s := by
  have nm : (toString "max" ++ toString ".loop" : String) = "max.loop" := by decide
  have sz : (intItems xs).size = xs.size := by simp [intItems]
  refine entry F.kind_max F.plain_max F.entry_max (args_ok _ _) ?_
  show wpAny _ A.in1 (Builtin.Builtins.bindParams "max" ["key", "default"] 0 ⟨[], KW d⟩ >>= _) _ _ s
  refine wpAny_bind (wpAny_of_eq (show Builtin.Builtins.bindParams "max" ["key", "default"] 0 ⟨[], KW d⟩ = pure [none, some d] from by kernel_rfl) (wpAny_bind (wpAny_pure (wpAny_bind (iter_intList hl fun s₂ e st fits li => ?_)))))
  subst e
  refine wpAny_bind (wpAny_newObj_type ?_)
  have fresh : (s.heap.push { cls := .type "list_iterator", data := .fields #[.ref l, .int 0 0] }).objs.size ∉ [s.heap.objs.size, l] := fun z => Nat.lt_irrefl _ (fits _ z)
  have W := Walks.list (prog := prog) (w := w) (A := A.in1) hh s.heap.objs.size l li (intItems xs)
  rw [nm]; refine wpAny_pure ⟨plainId_quiet F.plain_max_loop _, loop (d := d) W (fun i v => intItems_at) fresh _ 0 _ [] 0 rfl (Nat.zero_le _) (W.frame _ _ _ st fun b _ o e => Heap.get?_push_of_some _ e) (.inl ⟨rfl, rfl⟩) (Heap.get?_push_size _ rfl) fun v h' tk fv k1 => ?_⟩
  rw [sz] at fv
  refine h v h' tk fv (old_kept fun b o hb e => k1 b o (fun z => hb z) (fun z => ?_) (Heap.get?_push_of_some _ e))
  exact absurd (z ▸ Heap.lt_size e) (Nat.lt_irrefl _)
end
end MxD
namespace L2
open PySem PySem.Spec PyProof.Rows
section
variable {X : Cx}
/-- the greatest of ns, or what default says -/
def rMaxDef (K : PySem.W.Frag) : List V → List V → Hp → VK → Prop := fun vs zs H Q => ∃ (a : Addr) (ns : List Int) (d : V), vs = [.ref a] ∧ zs = [d] ∧ SqL K H a (ns.map V.int) ∧ (ns = [] → Q d H) ∧ ∀ m, m ∈ ns → (∀ y, y ∈ ns → y ≤ m) → Q (.int m) H
theorem cr_maxDef (hc : X.calm = true) : CallRK X (.builtin "max") ["default"] (rMaxDef X.K) := by
  intro pins s σ H vs zs us ws Q I r rz h
  obtain ⟨a, ns, d, rfl, rfl, hs, q0, q1⟩ := h
  obtain ⟨its, rv, hl, _⟩ := I.list hs
  rw [Vals.ref1 r]
  obtain ⟨dv, rfl, rd⟩ := vals1 rz
  have hi := rv.ints
  obtain ⟨xs, e⟩ := hi.allInts.items
  have hn : numsOf (intItems xs).toList = ns := by rw [← e]; exact hi.numsOf
  rw [nums_intItems] at hn
  subst hn
  have hl2 := hl.isList
  rw [e] at hl2
  have ln : (xs.toList.map (·.1)).length = xs.size := by rw [List.length_map, Array.length_toList]
  refine MxD.call_ints (d := dv) (I.ok.hd hc) hl2 fun v h' tk fv hk => ?_
  rcases fv with ⟨z, rfl⟩ | ⟨b, lb, eb, gr⟩
  · exact ⟨d, H, I.kept hk, rd, q0 (List.length_eq_zero_iff.mp (ln.trans z))⟩
  · obtain ⟨t, rfl⟩ := intItems_at eb
    refine ⟨.int _, H, I.kept hk, ⟨_, rfl⟩, q1 _ ?_ fun y hy => ?_⟩
    · rw [numAt_eq]; exact PySem.getD_mem (by rw [ln]; exact lb)
    · obtain ⟨j, hj, rfl⟩ := mem_getD hy
      rw [ln] at hj
      rw [← numAt_eq]; exact gr j hj
end
end L2
/-! len(x), x an instance whose class has a def for it -/
namespace L2
open PySem PySem.Spec PyProof.Rows
section
variable {X : Cx} {CX : CXT} {n : Nat} {E : XK}
/-- len(x): the class's own def at g answers a number from 0 on -/
def rLenOwn (P : Program) (w : World) (K : PySem.W.Frag) (mg : Str → Option Value) (base : Heap) (CX : CXT) (n : Nat) (E : XK) : List V → Hp → VK → Prop := fun xs H Q => ∃ (a C dx g : Addr) (fs : List (Str × V)) (sp : Sp), xs = [.ref a] ∧ H a = some (.ins C dx fs) ∧
  PySem.W.findIn K (.ref C) "__len__" = some (some (.ref g)) ∧ PySem.W.typeIn K (.ref g) = some (.type "function") ∧ FnR P w K mg base CX n g sp ∧ sp [.ref a] H (fun z H' => ∃ i : Nat, z = .int i ∧ i ≤ 1000000 ∧ Q (.int i) H') E
theorem call_lenOwn (hr : Room (n + 1) X.A) (hx : Passes CX X E) : CallR X (.builtin "len") (rLenOwn X.prog X.w X.K X.mg X.base CX n E) := by
  intro pins s σ H xs us Q I r h
  obtain ⟨a, C, dx, g, fs, sp, rfl, e, hs, hf, F, q⟩ := h
  obtain ⟨u, rfl, ru⟩ := vals1 r
  obtain rfl : u = Value.ref a := ru
  obtain ⟨mA, I0, _⟩ := ins_get I.hok e
  obtain ⟨od, J, _⟩ := I0.look
  refine Calls.call_function_entry kind_len plain_len entry_len (args_len1 _) ?_
  unfold Builtin.«len»
  refine wpAny_bind (m := oneArg "len" _) (wpAny_pure ?_)
  refine wpAny_bind (m := callSpecial? (.ref a) (PySem.Str.ofString "__len__")) (PySem.W.special_fn I.kIn J hs hf (wpAny_mono (wpAny_call (SlX.run_at (us := [.ref a]) (ws := [.ref a]) F (Room.in1 hr) I.env0.in1 hx I (.cons rfl .nil) q)) (fun w' s' z => ?_) fun _ _ x => x))
  obtain ⟨z', H', I', rz, i, ei, le, qz⟩ := z
  subst ei
  obtain ⟨t, et⟩ := (show ∃ t, w' = Value.int i t from rz)
  cases et
  refine wpAny_bind (wpAny_holding (wpAny_pure ?_))
  refine wpAny_bind (wpAny_letGo ?_)
  show wpAny _ _ (if ((i : Nat) : Int) < 0 then _ else _) _ _ _
  rw [if_neg (by omega)]
  show wpAny _ _ (if ((i : Nat) : Int) ≥ 2 ^ 63 then _ else _) _ _ _
  rw [if_neg (by omega)]
  exact wpAny_bind (wpAny_mkInt (wpAny_pure ⟨_, rfl, .int i, H', I'.tok _, ⟨_, rfl⟩, qz⟩))
end
end L2
/-! trees of plans: how many, how deep -/
namespace L2
open PySem PySem.Spec PyProof.Rows
inductive Pn where
  | wrk | sup (cs : List Pn)
mutual
def Pn.size : Pn → Nat
  | .wrk => 1 | .sup cs => 1 + Pn.sizes cs
def Pn.sizes : List Pn → Nat
  | [] => 0 | c :: cs => c.size + Pn.sizes cs
end
mutual
def Pn.lv : Pn → Nat
  | .wrk => 1 | .sup cs => 1 + Pn.lvs cs
def Pn.lvs : List Pn → Nat
  | [] => 0 | c :: cs => max c.lv (Pn.lvs cs)
end
theorem Pn.lv_pos : ∀ t : Pn, 0 < t.lv
  | .wrk => by unfold Pn.lv; omega
  | .sup cs => by unfold Pn.lv; omega
theorem Pn.lvs_get : ∀ {cs : List Pn} {i : Nat} {c : Pn}, cs[i]? = some c → c.lv ≤ Pn.lvs cs
  | c0 :: cs, 0, c, e => by
    simp at e
    subst e
    unfold Pn.lvs
    omega
  | c0 :: cs, i + 1, c, e => by
    have z := Pn.lvs_get (cs := cs) (i := i) (c := c) (by simpa using e)
    unfold Pn.lvs
    omega
theorem Pn.sizes_take : ∀ {cs : List Pn} {i : Nat} {c : Pn}, cs[i]? = some c → Pn.sizes (cs.take (i + 1)) = Pn.sizes (cs.take i) + c.size
  | c0 :: cs, 0, c, e => by
    simp at e
    subst e
    simp [Pn.sizes]
  | c0 :: cs, i + 1, c, e => by
    have z := Pn.sizes_take (cs := cs) (i := i) (c := c) (by simpa using e)
    simp only [List.take_succ_cons, Pn.sizes]
    omega
theorem Pn.sizes_le (cs : List Pn) : ∀ i, Pn.sizes (cs.take i) ≤ Pn.sizes cs := by
  induction cs with
  | nil => intro i; simp [Pn.sizes]
  | cons c cs ih =>
    intro i
    cases i with
    | zero => simp [Pn.sizes]
    | succ i =>
      have := ih i
      simp only [List.take_succ_cons, Pn.sizes]
      omega
/-- the greatest of the levels, as max finds it -/
theorem Pn.lvs_max {cs : List Pn} {m : Int} (ne : cs ≠ []) (hm : m ∈ cs.map fun c => (c.lv : Int)) (gr : ∀ y, y ∈ cs.map (fun c => (c.lv : Int)) → y ≤ m) : m = (Pn.lvs cs : Int) := by
  have up : ∀ {cs : List Pn} {k : Nat}, (∀ c ∈ cs, c.lv ≤ k) → Pn.lvs cs ≤ k := by
    intro cs
    induction cs with
    | nil => intro k _; simp [Pn.lvs]
    | cons c cs ih =>
      intro k h
      have a := h c (List.mem_cons_self ..)
      have b := ih (k := k) fun x hx => h x (List.mem_cons_of_mem _ hx)
      unfold Pn.lvs
      omega
  obtain ⟨c, hc, rfl⟩ := List.mem_map.mp hm
  obtain ⟨i, hi, e⟩ := List.mem_iff_getElem.mp hc
  have z1 : c.lv ≤ Pn.lvs cs := Pn.lvs_get (i := i) (by rw [List.getElem?_eq_getElem hi, e])
  have z2 : Pn.lvs cs ≤ c.lv := up fun x hx => by
    have := gr _ (List.mem_map_of_mem (f := fun c : Pn => (c.lv : Int)) hx)
    omega
  have : c.lv = Pn.lvs cs := by omega
  rw [this]
mutual
/-- the value is a plan of this form -/
inductive Pt (K : PySem.W.Frag) (H : Hp) : V → Pn → Prop
  | wrk {a dx : Addr} {fs : List (Str × V)} : H a = some (.ins (wkA K) dx fs) → Pt K H (.ref a) .wrk
  | sup {a dx c : Addr} {fs : List (Str × V)} {xs : List V} {ts : List Pn} : H a = some (.ins (suA K) dx fs) → fs.lookup ("children" : Str) = some (.ref c) → SqT K H c xs → PtAll K H xs ts → Pt K H (.ref a) (.sup ts)
inductive PtAll (K : PySem.W.Frag) (H : Hp) : List V → List Pn → Prop
  | nil : PtAll K H [] []
  | cons {v : V} {vs : List V} {t : Pn} {ts : List Pn} : Pt K H v t → PtAll K H vs ts → PtAll K H (v :: vs) (t :: ts)
end
mutual
theorem Pt.same {K : PySem.W.Frag} {H H' : Hp} (s : Same H H') : ∀ {v : V} {t : Pn}, Pt K H v t → Pt K H' v t
  | _, _, .wrk h => .wrk (s _ _ h)
  | _, _, .sup h l q a => .sup (s _ _ h) l (s.sqT q) (PtAll.same s a)
theorem PtAll.same {K : PySem.W.Frag} {H H' : Hp} (s : Same H H') : ∀ {vs : List V} {ts : List Pn}, PtAll K H vs ts → PtAll K H' vs ts
  | _, _, .nil => .nil
  | _, _, .cons h t => .cons (Pt.same s h) (PtAll.same s t)
end
section
variable {K : PySem.W.Frag} {H : Hp} {v : V} {t : Pn}
theorem PtAll.len {vs : List V} {ts : List Pn} (h : PtAll K H vs ts) : vs.length = ts.length := by
  induction ts generalizing vs with
  | nil => cases h; rfl
  | cons t ts ih => cases h with
    | cons _ r => rw [List.length_cons, List.length_cons, ih r]
theorem PtAll.get {vs : List V} {ts : List Pn} (h : PtAll K H vs ts) : ∀ {i : Nat} {v : V}, vs[i]? = some v → ∃ t, ts[i]? = some t ∧ Pt K H v t := by
  induction ts generalizing vs with
  | nil => cases h; intro i v e; simp at e
  | cons t ts ih => cases h with
    | cons a r =>
      intro i v e
      cases i with
      | zero => simp at e; exact ⟨t, rfl, e ▸ a⟩
      | succ i => simpa using ih r (by simpa using e)
def kt : Pn → Nat
  | .wrk => 7 | .sup _ => 8
theorem kt_lt (t : Pn) : kt t < 9 := by cases t <;> simp [kt]
theorem Pt.ty (P : PKn K) (h : Pt K H v t) : TyX K H v (tyK K (kt t)) := by
  cases h with
  | wrk h => exact .base (.ins h P.wk.cl P.wk.ha P.wk.hn P.wk.htk P.wk.hm)
  | sup h _ _ _ => exact .base (.ins h P.su.cl P.su.ha P.su.hn P.su.htk P.su.hm)
theorem Pt.at (h : Pt K H v t) : ∃ a dx fs C, v = .ref a ∧ H a = some (.ins C dx fs) ∧ (C = wkA K ∨ C = suA K) := by
  cases h with
  | wrk h => exact ⟨_, _, _, _, rfl, h, .inl rfl⟩
  | sup h _ _ _ => exact ⟨_, _, _, _, rfl, h, .inr rfl⟩
end
theorem same_putN {H0 G : Hp} {l : Addr} {o : HO} (s : Same H0 G) (n : H0 l = none) : Same H0 (upd G l o) := fun b u e => by
  rw [upd_ne (ne_of_none e n)]
  exact s b u e
end L2
/-! plans_in, levels_of: for any tree of plans -/
namespace K02
open PySem PySem.Spec PyProof.Rows L2
section
variable {P : Program} {w : World} {K : PySem.W.Frag} {mg : Str → Option Value} {base : Heap}
abbrev s_plans_in : Stmt := (top 60)
def N_plans_in : List Str := ["plan", "found", "child"]
theorem sc_plans_in : FnScope N_plans_in ["plan"] (defScope s_plans_in) := ⟨rfl, rfl, rfl, by decide +kernel, rfl, by decide +kernel, by decide +kernel⟩
abbrev s_levels_of : Stmt := (top 62)
def N_levels_of : List Str := ["plan", "child"]
theorem sc_levels_of : FnScope N_levels_of ["plan"] (defScope s_levels_of) := ⟨rfl, rfl, rfl, by decide +kernel, rfl, by decide +kernel, by decide +kernel⟩
/-- a plan of at most n levels: its list -/
def spPlans (K : PySem.W.Frag) (n : Nat) : Sp := fun vs H Q _ => ∃ v t, vs = [v] ∧ Pt K H v t ∧ t.lv ≤ n ∧ t.size ≤ 100000 ∧ ∀ l xs H', Same H H' → H l = none → H' l = some (.lst xs) → xs.length = t.size → Q (.ref l) H'
theorem ok_plans_in (F : Has K mg "plans_in" s_plans_in) (T : Txt K mg) (na : NoAttr K (suA K) "children") (cl : Cls K (suA K)) : ∀ n, FnQ P w K mg base CX0 (n + 1) "plans_in" ["plan"] (spPlans K n) := by
  intro n
  induction n with
  | zero =>
    refine F.q sc_plans_in (fun _ _ _ _ _ _ us hl => match us, hl with | [_], _ => rfl) (fun vs H Q E h => by obtain ⟨_, _, rfl, _⟩ := h; rfl) (fun cdv A outer s H vs Q E hr h => ?_)
    obtain ⟨v, t, _, _, lv, _⟩ := h
    have := t.lv_pos
    omega
  | succ n F_plans_in =>
    refine F.q sc_plans_in (fun _ _ _ _ _ _ us hl => match us, hl with | [_], _ => rfl) (fun vs H Q E h => by obtain ⟨_, _, rfl, _⟩ := h; rfl) (fun cdv A outer s H vs Q E hr h => ?_)
    obtain ⟨v, t, rfl, hv, lv, sz, k⟩ := h
    have gI : mg "isinstance" = none := T.fr _ (by simp [frees])
    refine ⟨_, PSs.nox (pss_cons (ps_set (i := 1) sc_plans_in.nd rfl (by first | exact .inl rfl | exact .inr rfl) (pe_lstM (pa_cons (pv 0) pa_nil)))
  (pss_cons (ps_if (pt_val (pe_callB call_isi (by rfl) gI boot_isinstance (pa_cons (pv 0) (pa_cons (C8.pe_gc (by rfl) T.c_SupervisorPlan) pa_nil))))
  (pss_one (ps_for PassesOwn.never rfl (pi_tup (pe_fld (pv 0) rfl)) (pg_name (i := 2) sc_plans_in.nd rfl (by first | exact .inl rfl | exact .inr rfl))
  (pss_one (ps_expr (pe_bm PySem.F.plainAttrs_list PySem.F.slot_list_extend PySem.F.type_list_extend mt_extend (pv 1) (pa_cons (pe_f F_plans_in hr pass0 (pa_cons (pv 2) pa_nil) (hj := Nat.le_refl _)) pa_nil))))))
  pss_nil)
  (pss_one (ps_ret (pv 1))))), ?_⟩
    refine ⟨_, rfl, (by show 1 ≤ sizeLine; decide), fun l G1 s1 n1 e1 => ?_⟩
    refine ⟨_, rfl, _, _, _, _, _, rfl, .own _, (hv.same s1).ty T.pk, T.pk.kit _ 6 (kt_lt _) (by decide), _, rfl, ?_⟩
    cases hv with
    | wrk h =>
      exact if_no rfl ⟨_, rfl, k l _ G1 s1 n1 e1 (by simp [Pn.size])⟩
    | @sup a dx c fs xs ts h lk q ha =>
      refine if_yes rfl ?_
      refine ⟨_, rfl, a, suA K, dx, fs, .ref c, rfl, s1 _ _ h, cl, na, lk, c, rfl, ⟨_, s1.sqT q⟩, for_it walk_tup (fun i σ G => (∃ v2, σ = [some (.ref a), some (.ref l), v2]) ∧ Same H G ∧ ∃ acc, G l = some (.lst acc) ∧ acc.length = 1 + Pn.sizes (ts.take i)) ⟨⟨none, rfl⟩, s1, _, e1, by simp [Pn.sizes]⟩ (fun i σ G _ h => h.2.1.sqT q) ?_ ?_⟩
      · rintro i x σ G1 G2 hi ⟨⟨v2, rfl⟩, s2, acc, e2, l2⟩ ⟨rfl, ex⟩
        obtain ⟨tc, et, ht⟩ := ha.get ex
        have lc : tc.lv ≤ n := by
          have := Pn.lvs_get et
          unfold Pn.lv at lv
          omega
        have sk := Pn.sizes_take et
        have sl := Pn.sizes_le ts (i + 1)
        unfold Pn.size at sz
        refine ⟨_, rfl, .inl ⟨rfl, _, SqL.of e2⟩, _, rfl, x, tc, rfl, ht.same s2, lc, by omega, fun l2' ys G3 s3 n3 e3 ly => ?_⟩
        refine ⟨l, l2', acc, ys, rfl, rfl, s3 _ _ e2, e3, Nat.le_trans (show acc.length + ys.length ≤ 100000 by omega) (by decide), ?_⟩
        exact ⟨⟨_, rfl⟩, same_putN (s2.trans s3) n1, _, upd_same, by rw [List.length_append]; omega⟩
      · rintro σ G ⟨⟨v2, rfl⟩, s2, acc, e2, l2⟩
        refine ⟨_, rfl, k l acc G s2 n1 e2 ?_⟩
        rw [ha.len, List.take_length] at l2
        exact l2
/-- a plan of at most n levels: how many -/
def spLevels (K : PySem.W.Frag) (n : Nat) : Sp := fun vs H Q _ => ∃ v t, vs = [v] ∧ Pt K H v t ∧ t.lv ≤ n ∧ t.size ≤ 100000 ∧ ∀ H', Same H H' → Q (.int t.lv) H'
theorem ok_levels_of (F : Has K mg "levels_of" s_levels_of) (T : Txt K mg) (na : NoAttr K (suA K) "children") (cl : Cls K (suA K)) : ∀ n, FnQ P w K mg base CX0 (n + 1) "levels_of" ["plan"] (spLevels K n) := by
  intro n
  induction n with
  | zero =>
    refine F.q sc_levels_of (fun _ _ _ _ _ _ us hl => match us, hl with | [_], _ => rfl) (fun vs H Q E h => by obtain ⟨_, _, rfl, _⟩ := h; rfl) (fun cdv A outer s H vs Q E hr h => ?_)
    obtain ⟨v, t, _, _, lv, _⟩ := h
    have := t.lv_pos
    omega
  | succ n F_levels_of =>
    refine F.q sc_levels_of (fun _ _ _ _ _ _ us hl => match us, hl with | [_], _ => rfl) (fun vs H Q E h => by obtain ⟨_, _, rfl, _⟩ := h; rfl) (fun cdv A outer s H vs Q E hr h => ?_)
    obtain ⟨v, t, rfl, hv, lv, sz, k⟩ := h
    have gI : mg "isinstance" = none := T.fr _ (by simp [frees])
    refine ⟨_, PSs.nox (pss_cons (ps_if (pt_val (pe_callB call_isi (by rfl) gI boot_isinstance (pa_cons (pv 0) (pa_cons (C8.pe_gc (by rfl) T.c_WorkerPlan) pa_nil))))
  (pss_one (ps_ret pe_int))
  pss_nil)
  (pss_one (ps_ret (pe_op op_add pe_int (pe_callBK (cr_maxDef rfl) (by rfl) (T.fr "max" (by simp [frees])) PyProof.Rows.boot_max (pa_cons (pe_lc (own := [("child", 1)]) (tt := tYes) rfl sc_levels_of.nd (pi_tup (pe_fld (pv 0) rfl)) (blkOk_by (N := N_levels_of) (sc := defScope s_levels_of) (by decide +kernel)) (fun _ _ _ _ _ => (pg_name (i := 1) sc_levels_of.nd rfl (by first | exact .inl rfl | exact .inr rfl))) (fun _ _ _ _ _ => pts_nil) (fun _ _ _ _ _ => (pe_f F_levels_of hr pass0 (pa_cons (pv 1) pa_nil) (hj := Nat.le_refl _)))) pa_nil) (pk_cons pe_int pk_nil)))))), ?_⟩
    refine ⟨_, rfl, _, _, _, _, _, rfl, .own _, hv.ty T.pk, T.pk.kit _ 5 (kt_lt _) (by decide), _, rfl, ?_⟩
    cases hv with
    | wrk h => exact if_yes rfl (k H (Same.refl H))
    | @sup a dx c fs xs ts h lk q ha =>
      refine if_no rfl ?_
      have lx : xs.length ≤ 100000 := by
        have pos : ∀ cs : List Pn, cs.length ≤ Pn.sizes cs := by
          intro cs
          induction cs with
          | nil => simp [Pn.sizes]
          | cons c cs ih =>
            have : 0 < c.size := by cases c <;> (unfold Pn.size; omega)
            simp only [List.length_cons, Pn.sizes]
            omega
        have := pos ts
        have := ha.len
        unfold Pn.size at sz
        omega
      refine ⟨_, rfl, a, suA K, dx, fs, .ref c, rfl, h, cl, na, lk, c, rfl, ⟨_, q⟩, comp_val walk_tup (f := fun i => .int ((ts[i]?.map Pn.lv).getD 0)) (Nat.lt_of_le_of_lt lx (by decide)) (fun G s => s.sqT q) (fun i H x H' y b o e => by rw [y.1]; exact e) ?_ ?_⟩
      · rintro i x G1 G2 R hi s1 ⟨rfl, ex⟩ r
        obtain ⟨tc, et, ht⟩ := ha.get ex
        have lc : tc.lv ≤ n := by
          have := Pn.lvs_get et
          unfold Pn.lv at lv
          omega
        have sk := Pn.sizes_take et
        have sl := Pn.sizes_le ts (i + 1)
        unfold Pn.size at sz
        refine ⟨rfl, _, rfl, x, tc, rfl, ht.same s1, lc, by omega, fun G3 s3 => ?_⟩
        have z := r G3 s3
        simp only [et, Option.map_some, Option.getD_some] at z
        exact z
      · intro p G s1 n1 e1
        have em : (List.range xs.length).map (fun i => V.int ((ts[i]?.map Pn.lv).getD 0 : Nat)) = (ts.map fun c => (c.lv : Int)).map V.int := by
          rw [ha.len]
          refine List.ext_getElem? fun i => ?_
          by_cases c : i < ts.length
          · simp [List.getElem?_range c, List.getElem?_eq_getElem c]
          · simp [List.getElem?_eq_none (Nat.le_of_not_lt c), List.getElem?_eq_none (l := List.range ts.length) (by simpa using Nat.le_of_not_lt c)]
        rw [em] at e1
        refine ⟨p, _, .int 0, rfl, rfl, SqL.of e1, fun z => ?_, fun m hm gr => ?_⟩
        · have tz : ts = [] := List.map_eq_nil_iff.mp z
          subst tz
          exact ⟨_, _, rfl, rfl, k G s1⟩
        · have ne : ts ≠ [] := fun z => by rw [z] at hm; cases hm
          have z := Pn.lvs_max ne hm gr
          subst z
          exact ⟨_, _, rfl, rfl, by
            have y := k G s1
            unfold Pn.lv at y
            exact y⟩
end
end K02
/-! is_plan, len of a plan, _check_children -/
namespace K02
open PySem PySem.Spec PyProof.Rows L2
section
variable {K : PySem.W.Frag} {mg : Str → Option Value} (T : Txt K mg)
include T
theorem Txt.c_MOST_CHILDREN : ∃ u, mg "MOST_CHILDREN" = some u ∧ RelV (.int 12) u := T.ci ("MOST_CHILDREN", _) (by simp [cInts])
theorem Txt.c_MOST_LEVELS : ∃ u, mg "MOST_LEVELS" = some u ∧ RelV (.int 20) u := T.ci ("MOST_LEVELS", _) (by simp [cInts])
theorem Txt.c_MOST_PLANS : ∃ u, mg "MOST_PLANS" = some u ∧ RelV (.int 200) u := T.ci ("MOST_PLANS", _) (by simp [cInts])
theorem Txt.c_BadChild : ∃ u, mg "BadChild" = some u ∧ RelV (.ref (He.ga K "BadChild")) u := T.cc "BadChild" (by simp [clss])
end
/-- what may stand among the children -/
inductive Kid where
  | odd (d : Dt) | pn (t : Pn)
def isPn : Kid → Bool
  | .odd _ => false | .pn _ => true
def kk : Kid → Nat
  | .odd d => kd d | .pn t => kt t
inductive KidR (K : PySem.W.Frag) (H : Hp) : V → Kid → Prop
  | odd {v : V} {d : Dt} : Dd K H v d → kd d < 7 → KidR K H v (.odd d)
  | pn {v : V} {t : Pn} : Pt K H v t → t.lv ≤ 20 → t.size ≤ 100000 → KidR K H v (.pn t)
inductive KidAll (K : PySem.W.Frag) (H : Hp) : List V → List Kid → Prop
  | nil : KidAll K H [] []
  | cons {v : V} {vs : List V} {t : Kid} {ts : List Kid} : KidR K H v t → KidAll K H vs ts → KidAll K H (v :: vs) (t :: ts)
/-- the first that can't be a child; m: how many there are by now -/
def firstKid : Nat → Nat → List Kid → Option Nat
  | _, _, [] => none
  | i, m, k :: r => if i = 12 then some i else match k with
    | .odd _ => some i
    | .pn t => if m + t.size > 200 then some i else if t.lv + 1 > 20 then some i else firstKid (i + 1) (m + t.size) r
theorem firstKid_pn {i m : Nat} {t : Pn} {r : List Kid} : firstKid i m (.pn t :: r) = if i = 12 then some i else if m + t.size > 200 then some i else if t.lv + 1 > 20 then some i else firstKid (i + 1) (m + t.size) r := by rw [firstKid]
theorem kit_two {K : PySem.W.Frag} {t a b : Value} {x y : Bool} (h1 : PySem.W.kitOne K t a = some x) (h2 : PySem.W.kitOne K t b = some y) : PySem.W.kitAny K t [a, b] = some (x || (y || false)) := by
  unfold PySem.W.kitAny PySem.W.kitAny PySem.W.kitAny
  rw [h1, h2]
  cases x <;> cases y <;> rfl
theorem fnR_of {P : Program} {w : World} {K : PySem.W.Frag} {mg : Str → Option Value} {base : Heap} {CX : CXT} {k : Nat} {f : Addr} {fd : FuncData} {ps : List Str} {sp : Sp} (F : FnOk P w K mg base CX k f fd ps sp) (b : Binds K fd ps []) : FnR P w K mg base CX k f sp := by
  intro A outer s H us vs Q E hr e0 r h
  have kin : K.In s.heap := e0.mod.kin.keeps fun b o e => (e0.bs b o e).1
  have l : (us ++ []).length = ps.length := by rw [List.append_nil, ← r.length]; exact F.len _ _ _ _ h
  have z := b s us kin l
  rw [List.append_nil] at z
  exact F.run A outer s H ⟨us, []⟩ us vs Q E hr e0 z r h
section
variable {K : PySem.W.Frag} {H H' : Hp} {v : V} {k : Kid}
theorem KidR.same (s : Same H H') (h : KidR K H v k) : KidR K H' v k := by
  cases h with
  | odd h l => exact .odd (h.same s) l
  | pn h l z => exact .pn (h.same s) l z
theorem KidAll.same {vs : List V} {ks : List Kid} (s : Same H H') (h : KidAll K H vs ks) : KidAll K H' vs ks := by
  induction h with
  | nil => exact .nil
  | cons a _ ih => exact .cons (a.same s) ih
theorem KidAll.len {vs : List V} {ks : List Kid} (h : KidAll K H vs ks) : vs.length = ks.length := by
  induction h with
  | nil => rfl
  | cons _ _ ih => simp [ih]
theorem KidAll.get {vs : List V} {ks : List Kid} (h : KidAll K H vs ks) : ∀ {i : Nat} {v : V}, vs[i]? = some v → ∃ k, ks[i]? = some k ∧ KidR K H v k := by
  induction h with
  | nil => intro i v e; simp at e
  | cons a _ ih =>
    intro i v e
    cases i with
    | zero => simp at e; exact ⟨_, rfl, e ▸ a⟩
    | succ i => simpa using ih (by simpa using e)
theorem kk_lt (h : KidR K H v k) : kk k < 9 := by
  cases h with
  | odd _ l => exact Nat.lt_of_lt_of_le l (by decide)
  | pn _ _ _ => exact kt_lt _
theorem KidR.ty (P : PKn K) (h : KidR K H v k) : TyX K H v (tyK K (kk k)) := by
  cases h with
  | odd h _ => exact h.ty P
  | pn h _ _ => exact h.ty P
theorem isPn_tab (h : KidR K H v k) : (tabK (kk k) 5 || (tabK (kk k) 6 || false)) = isPn k := by
  cases h with
  | @odd d h l => cases d <;> first | rfl | exact absurd l (by simp [kd])
  | @pn t h _ _ => cases t <;> rfl
end
section
variable {P : Program} {w : World} {K : PySem.W.Frag} {mg : Str → Option Value} {base : Heap}
abbrev s_is_plan : Stmt := (top 56)
def N_is_plan : List Str := ["value"]
theorem sc_is_plan : FnScope N_is_plan ["value"] (defScope s_is_plan) := ⟨rfl, rfl, rfl, by decide +kernel, rfl, by decide +kernel, by decide +kernel⟩
abbrev s_WorkerPlan___len__ : Stmt := (inClass (top 54) 2)
def N_WorkerPlan___len__ : List Str := ["self"]
theorem sc_WorkerPlan___len__ : FnScope N_WorkerPlan___len__ ["self"] (defScope s_WorkerPlan___len__) := ⟨rfl, rfl, rfl, by decide +kernel, rfl, by decide +kernel, by decide +kernel⟩
abbrev s_SupervisorPlan___len__ : Stmt := (inClass (top 55) 2)
def N_SupervisorPlan___len__ : List Str := ["self"]
theorem sc_SupervisorPlan___len__ : FnScope N_SupervisorPlan___len__ ["self"] (defScope s_SupervisorPlan___len__) := ⟨rfl, rfl, rfl, by decide +kernel, rfl, by decide +kernel, by decide +kernel⟩
abbrev s_check_children : Stmt := (top 59)
def N_check_children : List Str := ["children", "many", "index", "child"]
theorem sc_check_children : FnScope N_check_children ["children"] (defScope s_check_children) := ⟨rfl, rfl, rfl, by decide +kernel, rfl, by decide +kernel, by decide +kernel⟩
abbrev spIsPlan (K : PySem.W.Frag) : Sp := fun vs H Q _ => ∃ v k, vs = [v] ∧ KidR K H v k ∧ ∀ H', Same H H' → Q (.bl (isPn k)) H'
theorem ok_is_plan (F : Has K mg "is_plan" s_is_plan) (T : Txt K mg) : FnQ P w K mg base CX0 1 "is_plan" ["value"] (spIsPlan K) := by
  refine F.q sc_is_plan (fun _ _ _ _ _ _ us hl => match us, hl with | [_], _ => rfl) (fun vs H Q E h => by obtain ⟨_, _, rfl, _⟩ := h; rfl) (fun cdv A outer s H vs Q E hr h => ?_)
  obtain ⟨v, k, rfl, hv, q⟩ := h
  have gI : mg "isinstance" = none := T.fr _ (by simp [frees])
  refine ⟨_, PSs.nox (pss_one (ps_ret (pe_callB call_isiT (by rfl) gI boot_isinstance (pa_cons (pv 0) (pa_cons (pe_tupM (pa_cons (C8.pe_gc (by rfl) T.c_WorkerPlan) (pa_cons (C8.pe_gc (by rfl) T.c_SupervisorPlan) pa_nil))) pa_nil))))), ?_⟩
  refine ⟨_, rfl, (by show 2 ≤ sizeLine; decide), fun tp G s1 n1 e1 => ⟨_, tp, _, _, _, _, rfl, e1, .cons (.own _) (.cons (.own _) .nil), (hv.same s1).ty T.pk, kit_two (T.pk.kit _ 5 (kk_lt hv) (by decide)) (T.pk.kit _ 6 (kk_lt hv) (by decide)), ?_⟩⟩
  rw [isPn_tab hv]
  exact q G s1
/-- how many plans are in it -/
abbrev spLen (K : PySem.W.Frag) : Sp := fun vs H Q _ => ∃ v t, vs = [v] ∧ Pt K H v t ∧ t.lv ≤ 20 ∧ t.size ≤ 100000 ∧ ∀ H', Same H H' → Q (.int (t.size : Nat)) H'
theorem ok_len_w {fd : FuncData} (F : FunD K "__len__" "WorkerPlan.__len__" (defArgs s_WorkerPlan___len__) (defBody s_WorkerPlan___len__) (defScope s_WorkerPlan___len__) [] [] (He.ma K (wkA K) "__len__") fd) (T : Txt K mg) (F_plans_in : FnQ P w K mg base CX0 21 "plans_in" ["plan"] (spPlans K 20)) :
    FnR P w K mg base CX0 22 (He.ma K (wkA K) "__len__") (spLen K) := by
  refine fnR_of (ps := ["self"]) (F.ok sc_WorkerPlan___len__ (fun vs H Q E h => by obtain ⟨_, _, rfl, _⟩ := h; rfl) (fun cdv A outer s H vs Q E hr h => ?_)) (FunD.bindsN F fun _ _ _ _ _ _ us hl => match us, hl with | [_], _ => rfl)
  obtain ⟨v, t, rfl, hv, lv, sz, k⟩ := h
  have gL : mg "len" = none := T.fr _ (by simp [frees])
  refine ⟨_, PSs.nox (pss_one (ps_ret (pe_callB call_len_seq (by rfl) gL boot_len (pa_cons (pe_f F_plans_in hr pass0 (pa_cons (pv 0) pa_nil)) pa_nil)))), ?_⟩
  refine ⟨_, rfl, v, t, rfl, hv, lv, sz, fun l xs G s1 n1 e1 lx => ⟨l, xs, rfl, .inl (SqL.of e1), ?_⟩⟩
  have z := k G s1
  rw [← lx] at z
  exact z
theorem ok_len_s {fd : FuncData} (F : FunD K "__len__" "SupervisorPlan.__len__" (defArgs s_SupervisorPlan___len__) (defBody s_SupervisorPlan___len__) (defScope s_SupervisorPlan___len__) [] [] (He.ma K (suA K) "__len__") fd) (T : Txt K mg) (F_plans_in : FnQ P w K mg base CX0 21 "plans_in" ["plan"] (spPlans K 20)) :
    FnR P w K mg base CX0 22 (He.ma K (suA K) "__len__") (spLen K) := by
  refine fnR_of (ps := ["self"]) (F.ok sc_SupervisorPlan___len__ (fun vs H Q E h => by obtain ⟨_, _, rfl, _⟩ := h; rfl) (fun cdv A outer s H vs Q E hr h => ?_)) (FunD.bindsN F fun _ _ _ _ _ _ us hl => match us, hl with | [_], _ => rfl)
  obtain ⟨v, t, rfl, hv, lv, sz, k⟩ := h
  have gL : mg "len" = none := T.fr _ (by simp [frees])
  refine ⟨_, PSs.nox (pss_one (ps_ret (pe_callB call_len_seq (by rfl) gL boot_len (pa_cons (pe_f F_plans_in hr pass0 (pa_cons (pv 0) pa_nil)) pa_nil)))), ?_⟩
  refine ⟨_, rfl, v, t, rfl, hv, lv, sz, fun l xs G s1 n1 e1 lx => ⟨l, xs, rfl, .inl (SqL.of e1), ?_⟩⟩
  have z := k G s1
  rw [← lx] at z
  exact z
/-- where the two classes have their __len__ -/
structure Lens (K : PySem.W.Frag) : Prop where
  w1 : PySem.W.findIn K (.ref (wkA K)) "__len__" = some (some (.ref (He.ma K (wkA K) "__len__")))
  w2 : PySem.W.typeIn K (.ref (He.ma K (wkA K) "__len__")) = some (.type "function")
  s1 : PySem.W.findIn K (.ref (suA K)) "__len__" = some (some (.ref (He.ma K (suA K) "__len__")))
  s2 : PySem.W.typeIn K (.ref (He.ma K (suA K) "__len__")) = some (.type "function")
theorem lens_at {H : Hp} {v : V} {t : Pn} {Q : VK} (L : Lens K) (FW : FnR P w K mg base CX0 22 (He.ma K (wkA K) "__len__") (spLen K)) (FS : FnR P w K mg base CX0 22 (He.ma K (suA K) "__len__") (spLen K)) (hv : Pt K H v t) (lv : t.lv ≤ 20) (sz : t.size ≤ 100000)
    (k : ∀ H', Same H H' → Q (.int (t.size : Nat)) H') : rLenOwn P w K mg base CX0 22 (fun _ _ _ => False) [v] H Q := by
  cases hv with
  | @wrk a dx fs h => exact ⟨a, wkA K, dx, _, fs, spLen K, rfl, h, L.w1, L.w2, FW, _, _, rfl, .wrk h, lv, sz, fun H' s => ⟨_, rfl, by omega, k H' s⟩⟩
  | @sup a dx c fs xs ts h l q ha => exact ⟨a, suA K, dx, _, fs, spLen K, rfl, h, L.s1, L.s2, FS, _, _, rfl, .sup h l q ha, lv, sz, fun H' s => ⟨_, rfl, by omega, k H' s⟩⟩
abbrev spKids (K : PySem.W.Frag) : Sp := fun vs H Q E => ∃ p xs ks, vs = [.ref p] ∧ SqT K H p xs ∧ KidAll K H xs ks ∧ (firstKid 0 1 ks = none → ∀ H', Same H H' → Q .non H') ∧
  (∀ i, firstKid 0 1 ks = some i → ∀ e H', Same H H' → H e = none → H' e = some (.xd [("index", .int (i : Nat))]) → E (.ref (He.ga K "BadChild")) (some e) H')
theorem ok_check_children (F : Has K mg "_check_children" s_check_children) (T : Txt K mg) (TC : Err K mg "BadChild" "index") (L : Lens K) (FW : FnR P w K mg base CX0 22 (He.ma K (wkA K) "__len__") (spLen K)) (FS : FnR P w K mg base CX0 22 (He.ma K (suA K) "__len__") (spLen K))
    (F_is_plan : FnQ P w K mg base CX0 1 "is_plan" ["value"] (spIsPlan K)) (F_levels_of : FnQ P w K mg base CX0 21 "levels_of" ["plan"] (spLevels K 20)) : FnQ P w K mg base (L2.CX P w) 24 "_check_children" ["children"] (spKids K) := by
  refine F.q sc_check_children (fun _ _ _ _ _ _ us hl => match us, hl with | [_], _ => rfl) (fun vs H Q E h => by obtain ⟨_, _, _, rfl, _⟩ := h; rfl) (fun cdv A outer s H vs Q E hr h => ?_)
  obtain ⟨p, xs, ks, rfl, hp, hx, k, ke⟩ := h
  have gL : mg "len" = none := T.fr _ (by simp [frees])
  refine ⟨_, (pss_cons (ps_set (i := 1) sc_check_children.nd rfl (by first | exact .inl rfl | exact .inr rfl) pe_int)
  (pss_one (ps_for (passes_of rfl) rfl (pi_enumT (by rfl) (T.fr "enumerate" (by simp [frees])) (pa_cons (pv 0) pa_nil)) (pg_tup rfl (pgs_cons (pg_name (i := 2) sc_check_children.nd rfl (by first | exact .inl rfl | exact .inr rfl)) (pgs_cons (pg_name (i := 3) sc_check_children.nd rfl (by first | exact .inl rfl | exact .inr rfl)) pgs_nil)))
  (pss_cons (ps_if (pw_or (pt_cmpR op_eq (pv 2) (C8.pe_gc (by rfl) T.c_MOST_CHILDREN) (by first | exact nomark _ | rfl)) (pw_or1 (pt_not (pt_val (pe_f F_is_plan hr pass0 (pa_cons (pv 3) pa_nil)))))).pt
  (pss_one (ps_raise rfl (takes_of rfl rfl rfl rfl) (pmk_xc PySem.F.excBase_ValueError PySem.F.store_ValueError TC.cl TC.xi fn_index TC.ty hr (by decide) TC.gl (pv 2))))
  pss_nil)
  (pss_cons (ps_aug (i := 1) sc_check_children.nd rfl (.inl rfl) (pe_callB (call_lenOwn (CX := CX0) (n := 22) (E := fun _ _ _ => False) (hr.mono (by decide)) pass0) (by rfl) gL boot_len (pa_cons (pv 3) pa_nil)) ip_add)
  (pss_one (ps_if (pw_or (pt_cmpR op_gt (pv 1) (C8.pe_gc (by rfl) T.c_MOST_PLANS) (by first | exact nomark _ | rfl)) (pw_or1 (pt_cmpR op_gt (pe_op op_add (pe_f F_levels_of hr pass0 (pa_cons (pv 3) pa_nil)) pe_int) (C8.pe_gc (by rfl) T.c_MOST_LEVELS) (by first | exact nomark _ | rfl)))).pt
  (pss_one (ps_raise rfl (takes_of rfl rfl rfl rfl) (pmk_xc PySem.F.excBase_ValueError PySem.F.store_ValueError TC.cl TC.xi fn_index TC.ty hr (by decide) TC.gl (pv 2))))
  pss_nil))))))), ?_⟩
  refine ⟨_, rfl, p, xs, rfl, hp, for_it walk_enumT (fun i σ G => (∃ (m : Nat) (v2 v3 : Option V), σ = [some (.ref p), some (.int (m : Nat)), v2, v3] ∧ firstKid i m (ks.drop i) = firstKid 0 1 ks) ∧ Same H G ∧ i ≤ 12) ⟨⟨1, none, none, rfl, rfl⟩, Same.refl H, by decide⟩ (fun i σ G _ h => h.2.1.sqT hp) ?_ ?_⟩
  · rintro i v σ H1 H2 hi ⟨⟨m, v2, v3, rfl, fk⟩, s1, i12⟩ ⟨tp, x0, y, rfl, nT, rfl, e1, e2⟩
    cases e1
    obtain ⟨kd0, ek, hk⟩ := hx.get (show xs[i]? = some y from e2)
    have li : i < ks.length := by rw [← hx.len]; exact hi
    have dr : ks.drop i = kd0 :: ks.drop (i + 1) := by
      rw [List.drop_eq_getElem_cons li]
      congr 1
      rw [List.getElem?_eq_getElem li] at ek
      exact Option.some.inj ek
    rw [dr] at fk
    have s2 : Same H (upd H1 tp (.tup [.int (i : Nat), y])) := s1.trans (Same.new nT)
    generalize hH2 : upd H1 tp (.tup [.int (i : Nat), y]) = H2 at s2
    have at_tp : H2 tp = some (.tup [.int (i : Nat), y]) := by rw [← hH2]; exact upd_same
    have none_of : ∀ {G : Hp} {e : Addr}, Same H G → G e = none → H e = none := fun {G e} s n => by
      cases q : H e with
      | none => rfl
      | some o => rw [s _ _ q] at n; cases n
    refine ⟨tp, _, rfl, SqT.of at_tp, rfl, _, _, rfl, _, _, rfl, rfl, ?_⟩
    refine ⟨_, rfl, rfl, _, rfl, ?_⟩
    by_cases c1 : i = 12
    · subst c1
      refine if_yes (decide_eq_true rfl) (if_yes rfl ⟨_, rfl, fun e G sg n x2 => ke 12 ?_ e G (s2.trans sg) (none_of s2 n) x2⟩)
      rw [← fk]
      unfold firstKid
      rw [if_pos rfl]
    · refine if_no (decide_eq_false fun e => c1 (by injection e with e; omega)) ?_
      refine ⟨_, rfl, y, kd0, rfl, hk.same s2, fun H3 s3 => ⟨_, rfl, ?_⟩⟩
      have s03 := s2.trans s3
      cases hk with
      | @odd d hd l =>
        refine if_yes rfl ⟨_, rfl, fun e G sg n x2 => ke i ?_ e G (s03.trans sg) (none_of s03 n) x2⟩
        rw [← fk]
        unfold firstKid
        rw [if_neg c1]
      | @pn t ht lv sz =>
        refine if_no rfl ?_
        refine ⟨_, rfl, _, rfl, ?_⟩
        dsimp only [tNil, cxOf]
        refine lens_at L FW FS (ht.same s03) lv sz fun H4 s4 => ⟨_, _, rfl, rfl, ?_⟩
        have s04 := s03.trans s4
        rw [firstKid_pn, if_neg c1] at fk
        refine ⟨_, rfl, _, _, rfl, rfl, _, rfl, ?_⟩
        by_cases c2 : m + t.size > 200
        · rw [if_pos c2] at fk
          exact if_yes (decide_eq_true (by show (200 : Int) < (m : Int) + (t.size : Int); omega)) (if_yes rfl ⟨_, rfl, fun e G sg n x2 => ke i fk.symm e G (s04.trans sg) (none_of s04 n) x2⟩)
        · rw [if_neg c2] at fk
          refine if_no (decide_eq_false (by show ¬ (200 : Int) < (m : Int) + (t.size : Int); omega)) ⟨_, rfl, y, t, rfl, ht.same s04, lv, sz, fun H5 s5 => ?_⟩
          refine ⟨_, _, rfl, rfl, _, _, rfl, rfl, _, rfl, ?_⟩
          by_cases c3 : t.lv + 1 > 20
          · rw [if_pos c3] at fk
            exact if_yes (decide_eq_true (by show (20 : Int) < (t.lv : Int) + 1; omega)) ⟨_, rfl, fun e G sg n x2 => ke i fk.symm e G ((s04.trans s5).trans sg) (none_of (s04.trans s5) n) x2⟩
          · rw [if_neg c3] at fk
            exact if_no (decide_eq_false (by show ¬ (20 : Int) < (t.lv : Int) + 1; omega)) ⟨⟨_, _, _, rfl, fk⟩, s04.trans s5, by omega⟩
  · rintro σ G ⟨⟨m, v2, v3, rfl, fk⟩, s1, _⟩
    rw [hx.len, List.drop_length] at fk
    exact k fk.symm G s1
end
end K02
/-! f(k = v, ..); rules for the inside of a comprehension -/
namespace L2
open PySem PySem.Spec PyProof.Rows
section
variable {P : Program} {w : World} {K : PySem.W.Frag} {mg : Str → Option Value} {base : Heap} {CX : CXT} {k : Nat} {x : Str} {ps : List Str} {sp : Sp} {st : Stmt}
/-- a def all of whose parameters are given by name -/
structure FnK (P : Program) (w : World) (K : PySem.W.Frag) (mg : Str → Option Value) (base : Heap) (CX : CXT) (k : Nat) (x : Str) (ps : List Str) (sp : Sp) : Prop where
  gl : mg x = some (.ref (He.ga K x))
  kp : PySem.W.keepIn K (.ref (He.ga K x)) = true
  fn : ∃ fd, FnOk P w K mg base CX k (He.ga K x) fd ps sp ∧ KBn K fd ps 0 ps (fun _ ws => ws) (fun _ zs => zs)
theorem Has.kw (Hs : Has K mg x st) (F : FnQ P w K mg base CX k x ps sp)
    (B : ∀ (kV doc pm : Value) (an : Option Addr) (cdv ct : Value) (us : List Value), us.length = ps.length → bindArgs (PySem.W.fnOf x x (defArgs st) (defBody st) (defScope st) .none kV doc pm an cdv ct) ⟨[], ps.zip us⟩ = pure (ps.zip us)) : FnK P w K mg base CX k x ps sp := by
  obtain ⟨fd2, F2⟩ := Hs.df
  obtain ⟨oc2, od2, osl2, lk2⟩ := lookD F2
  obtain ⟨fd, ok, _, oc, od, osl, lk⟩ := F.fn
  have same : fd2 = fd := by
    have z := lk2.symm.trans lk
    cases z
    rfl
  subst same
  refine ⟨F.gl, F.kp, fd2, ok, ?_⟩
  obtain ⟨oc, od, dV, kV, doc, pm, an, cdv, ct, osl, rfl, _, _, hD, _⟩ := F2.ex
  rcases hD with ⟨_, rfl⟩ | ⟨e, _⟩
  · exact ⟨fun s us ws X l1 l2 => by
      have : us = [] := List.length_eq_zero_iff.mp l1
      subst this
      exact BindsTo.of_eq (B kV doc pm an cdv ct ws l2), fun _ r => r⟩
  · exact absurd rfl e
end
section
variable {X : Cx} {CX : CXT} {k j : Nat} {ps : List Str} {sp : Sp} {E : XK} {x : Str} {p pos : Pos} {kws : List Keyword} {tk : TA}
def tKw (n : Nat) (sp : Sp) (E : XK) (tk : TA) : TE := fun σ H Q => tk σ H fun zs H1 => zs.length = n ∧ sp zs H1 Q E
theorem pe_fKw (F : FnK X.prog X.w X.K X.mg X.base CX j x ps sp) (hr : Room k X.A) (hx : Passes CX X E) (hkw : PK X kws tk) (hg : Gl X x := by rfl) (hj : j ≤ k := by decide) (hdb : (x == ("__debug__" : Str)) = false := by decide)
    (hall : (backToKw pos (keywordEach kws X.env)).all (·.1.isSome) = true := by rfl) (hks : (backToKw pos (keywordEach kws X.env)).filterMap (·.1) = ps := by rfl)
    (hpl : ((backTo pos (starEach [] X.env)).any (·.1) || (backToKw pos (keywordEach kws X.env)).any (·.1.isNone)) = false := by rfl) : PE X (.Call (.Name x p) [] kws pos) (tKw ps.length sp E tk) := by
  obtain ⟨fd, ok, hb⟩ := F.fn
  refine ⟨fun pins s σ H Q I h => wpAny_Call_Name_kw (ld_glob I hg F.gl ?_ hdb)⟩
  refine PySem.W.callWith_KW0 (h₀ := X.base) I.ok.mod.kin F.kp hall (thn (hkw.run pos pins s σ H _ I h) fun ws s2 ⟨zs, H2, I2, rz, l2, q2⟩ => ⟨I2.kIn, ?_⟩) hpl
  rw [hks]
  exact run_fnN (us := []) (vs := []) ok (hr.mono hj) hb hx I2 .nil rz rfl l2 q2
theorem op_eqDK (K : PySem.W.Frag) (hu : X.A.units + 64 < cLine) (h : X.K = K := by rfl) : OpR X (compareOp .Eq) (rEqD K) := by
  subst h; exact op_eqD hu
theorem op_neDK (K : PySem.W.Frag) (hu : X.A.units + 64 < cLine) (h : X.K = K := by rfl) : OpR X (compareOp .NotEq) (rNeD K) := by
  subst h; exact op_neD hu
theorem sl_tupK (K : PySem.W.Frag) (h : X.K = K := by rfl) : SlR X (rSlT K) := by
  subst h; exact sl_tup
end
end L2
/-! C(a, b, .., k = v, ..) where __init__ has *rest and takes the rest by name -/
namespace L2
open PySem PySem.Spec PyProof.Rows
abbrev SpK := List V → List V → Hp → VK → XK → Prop
/-- what a def promises of a call by place and by the names ks -/
def FnRK (P : Program) (w : World) (K : PySem.W.Frag) (mg : Str → Option Value) (base : Heap) (CX : CXT) (k : Nat) (f : Addr) (ks : List Str) (sp : SpK) : Prop :=
  ∀ (A : Around) (outer : List Env) (s : Shared) (H : Hp) (us ws : List Value) (vs zs : List V) (Q : VK) (E : XK), Room k A → Env0 P w K mg base A outer s H → Vals vs us → Vals zs ws → zs.length = ks.length → sp vs zs H Q E →
    codeAny (model P w) A (.call (.ref f) ⟨us, ks.zip ws⟩) (CR CX outer P w H s Q E) s
section
variable {P : Program} {w : World} {K : PySem.W.Frag} {mg : Str → Option Value} {base : Heap} {CX : CXT} {k : Nat} {f : Addr} {name qual : Str} {params : Arguments} {body : List Stmt} {scope : Scope} {dV kV doc pm cdv ct oc : Value} {an od : Option Addr} {osl : Array (Option Value)} {N ps ks : List Str} {sp : Sp}
/-- all of ks given by name, what is left over by place is a new tuple -/
theorem fn_starK {pv : Str} (lk : K.lookup f = some ⟨oc, od, .func (PySem.W.fnOf name qual params body scope dV kV doc pm an cdv ct), osl⟩) (hcd : PySem.W.codeIn K cdv qual = true) (S : FnScope N (ps ++ ks ++ [pv]) scope) (hCX : StX.CXUp CX)
    (hb : ∀ us rest ws : List Value, us.length = ps.length → ws.length = ks.length → bindArgs (PySem.W.fnOf name qual params body scope dV kV doc pm an cdv ct) ⟨us ++ rest, ks.zip ws⟩ = (newTuple rest >>= fun t => pure ((ps ++ ks).zip (us ++ ws) ++ [(pv, t)])))
    (hbody : ∀ (A : Around) (outer : List Env) (s : Shared) (H : Hp) (vs : List V) (Q : VK) (E : XK), Room k (A.deeper (envOfC qual scope s.heap.objs.size f cdv)) → sp vs H Q E →
      ∃ t, PSs (cxOf CX P w K mg base N qual scope f cdv A outer s H E) body t ∧ t { nx := fun _ H' => Q .non H', rt := Q } (start N vs) H) :
    FnRK P w K mg base CX (k + 1) f ks (fun vs zs H Q E => ∃ xs rest, vs = xs ++ rest ∧ xs.length = ps.length ∧ rest.length ≤ sizeLine ∧ ∀ p, H p = none → sp (xs ++ zs ++ [V.ref p]) (upd H p (.tup rest)) Q E) := by
  intro A outer s H us ws vs zs Q E hr e0 r rz lz hsp
  obtain ⟨xs, rest, ev, hl, hz, hq⟩ := hsp
  subst ev
  obtain ⟨u1, u2, eu, r1, r2⟩ := StX.vals_split r
  subst eu
  have hn : H s.heap.objs.size = none := e0.hok.fresh (Nat.le_refl _)
  have n1 : u1.length = ps.length := by rw [← r1.length]; exact hl
  have n2 : u2.length ≤ sizeLine := by rw [← r2.length]; exact hz
  have n3 : ws.length = ks.length := by rw [← rz.length]; exact lz
  refine StX.run_bnd lk hcd S hr e0 (G := fun ys H2 => ∃ p, H p = none ∧ ys = xs ++ zs ++ [V.ref p] ∧ H2 = upd H p (.tup rest)) (fun A' Ex Q' h => ?_) fun s2 H2 ys ⟨p, hp, ex, eH⟩ hr' => ?_
  · rw [hb u1 u2 ws n1 n3]
    refine wpAny_bind (wpAny_newTuple (wpAny_pure ?_) n2)
    have new : ObjOk P w (upd H s.heap.objs.size (.tup rest)) (s.heap.push ({ cls := .type "tuple", data := .seq u2.toArray } : Obj)) s.heap.objs.size (.tup rest) := ⟨hz, u2, r2, ⟨_, Heap.get?_push_size _ rfl, rfl, _, rfl⟩⟩
    have un := StX.un_laid (fs := frs outer) (s := s) (o := ({ cls := .type "tuple", data := .seq u2.toArray } : Obj)) (u := .tup rest) hn
    have z := h _ _ (xs ++ zs ++ [V.ref s.heap.objs.size]) (u1 ++ ws ++ [Value.ref s.heap.objs.size]) (StX.env0_laid e0 new) un rfl (fun e s' => hCX outer s H _ _ E e s' un (fun b o q => Heap.get?_push_of_some _ q) rfl) ((r1.append rz).append (.cons rfl .nil))
      (by simp only [List.length_append, hl, lz, List.length_cons, List.length_nil]) ⟨_, hn, rfl, rfl⟩
    rw [List.zip_append (by simp only [List.length_append, n1, n3])] at z
    exact z
  · subst ex eH
    exact hbody A outer s2 _ _ Q E hr' (hq p hp)
end
/-- C(e, .., k = v, ..): a new instance and its dict, then __init__ -/
def tMakeRK (C : Addr) (m : Nat) (sp : SpK) (E : XK) (t tk : TA) : TE := fun σ H Q => t σ H fun vs H1 => tk σ H1 fun zs H2 => zs.length = m ∧ ∀ x dx, H2 x = none → H2 dx = none → dx ≠ x → sp (.ref x :: vs) zs (upd (upd H2 dx (.own x)) x (.ins C dx [])) (fun v H3 => v = .non ∧ Q (.ref x) H3) E
section
variable {X : Cx} {CX : CXT} {k : Nat} {f C : Addr} {ks : List Str} {sp : SpK} {E : XK} {x : Str} {p pos : Pos} {e : Expr} {es : List Expr} {kws : List Keyword} {t tk : TA}
theorem run_makeRK {pins : List (Addr × Obj)} {σ : St} {H : Hp} {s : Shared} {Q : VK} {us ws : List Value} {vs zs : List V} (M : Mk X.K C f) (F : FnRK X.prog X.w X.K X.mg X.base CX k f ks sp) (hr : Room (k + 1) X.A) (hx : Passes CX X E) (I : Inv X pins σ H s) (r : Vals vs us) (rz : Vals zs ws) (l2 : zs.length = ks.length)
    (h : ∀ x dx, H x = none → H dx = none → dx ≠ x → sp (.ref x :: vs) zs (upd (upd H dx (.own x)) x (.ins C dx [])) (fun v H2 => v = .non ∧ Q (.ref x) H2) E) :
    wpAny (model X.prog X.w) X.A (call (.ref C) us (ks.zip ws)) (EP X pins σ Q) X.xe s := by
  have q0 := h (s.heap.objs.size + 1) s.heap.objs.size (I.hok.fresh (Nat.le_succ _)) (I.hok.fresh (Nat.le_refl _)) (Nat.ne_of_lt (Nat.lt_succ_self _))
  have J := Inv.made (C := C) I
  have r1 : Vals (V.ref (s.heap.objs.size + 1) :: vs) (Value.ref (s.heap.objs.size + 1) :: us) := .cons rfl r
  refine wpAny_call (make_map (f := f) I.kIn M.makes M.init (beq_iff_eq.mp M.fn) (codeAny_mono (F _ X.stack _ _ (Value.ref (s.heap.objs.size + 1) :: us) ws _ _ _ E (hr.make C us (ks.zip ws)) (J.env0.make C us (ks.zip ws)) r1 rz l2 q0) fun r s' q1 => ?_))
  cases r with
  | error e => exact hx pins σ _ _ e s' J q1
  | ok fl =>
    cases fl with
    | ret u =>
      obtain ⟨v, H', J2, rv, ev, q2⟩ := J.after q1
      subst ev
      exact ⟨rv, ⟨V.ref (s.heap.objs.size + 1), H', J2, rfl, q2⟩⟩
    | next => exact q1.elim
    | brk => exact q1.elim
    | cont => exact q1.elim
theorem pe_makeRK (M : Mk X.K C f) (F : FnRK X.prog X.w X.K X.mg X.base CX k f ks sp) (hr : Room (k + 1) X.A) (hg : Gl X x) (hm : X.mg x = some (.ref C)) (hx : Passes CX X E)
    (ha : PA X (e :: es) t) (hkw : PK X kws tk) (hall : (backToKw pos (keywordEach kws X.env)).all (·.1.isSome) = true := by rfl) (hks : (backToKw pos (keywordEach kws X.env)).filterMap (·.1) = ks := by rfl)
    (hdb : (x == ("__debug__" : Str)) = false := by decide) (he : starEach (e :: es) X.env = (false, eval e X.env) :: starEach es X.env := by rfl)
    (hpl : ((backTo pos (starEach (e :: es) X.env)).any (·.1) || (backToKw pos (keywordEach kws X.env)).any (·.1.isNone)) = false := by rfl) :
    PE X (.Call (.Name x p) (e :: es) kws pos) (tMakeRK C ks.length sp E t tk) := by
  refine ⟨fun pins s σ H Q I h => wpAny_Call_Name_kw (ld_glob I hg hm ?_ hdb)⟩
  refine PySem.W.callWith_KW (h₀ := X.base) I.ok.mod.kin M.kp hall (thn (ha.run pos pins s σ H _ I h) fun us s1 ⟨vs, H1, I1, r, q⟩ => thn (hkw.run pos pins s1 σ H1 _ I1 q) fun ws s2 ⟨zs, H2, I2, rz, l2, q2⟩ => ⟨I2.kIn, ?_⟩) hpl he
  rw [hks]
  exact run_makeRK M F hr hx I2 r rz l2 q2
end
end L2
/-! SupervisorPlan(name, *children, restart=.., strategy=.., most=.., span=.., deadline=..) -/
namespace K02
open PySem PySem.Spec PyProof.Rows L2
section
variable {P : Program} {w : World} {K : PySem.W.Frag} {mg : Str → Option Value} {base : Heap}
abbrev s_SupervisorPlan___init__ : Stmt := (inClass (top 55) 0)
def N_SupervisorPlan___init__ : List Str := ["self", "name", "restart", "strategy", "most", "span", "deadline", "children"]
theorem sc_SupervisorPlan___init__ : FnScope N_SupervisorPlan___init__ ["self", "name", "restart", "strategy", "most", "span", "deadline", "children"] (defScope s_SupervisorPlan___init__) := ⟨rfl, rfl, rfl, by decide +kernel, rfl, by decide +kernel, by decide +kernel⟩
def sset (d1 d2 d3 d4 d5 d6 : Dt) : List (Str × Bool) := [("name", isPlace d1), ("restart", isOne restarts d2), ("strategy", isOne ["one", "rest", "all"] d3), ("most", isBtw 0 20 d4), ("span", isBtw 1 1000000000 d5), ("deadline", deadD d6)]
def sflds (v1 c v2 v3 v4 v5 v6 : V) : List (Str × V) := [("name", v1), ("children", c), ("restart", v2), ("strategy", v3), ("most", v4), ("span", v5), ("deadline", v6)]
abbrev sNames : List Str := ["name", "children", "restart", "strategy", "most", "span", "deadline"]
/-- what is asked of the class SupervisorPlan -/
structure Su (K : PySem.W.Frag) (mg : Str → Option Value) : Prop where
  gl : mg "SupervisorPlan" = some (.ref (suA K))
  cl : Cls K (suA K)
  na : ∀ f ∈ sNames, NoAttr K (suA K) f
  mkr : Mk K (suA K) (He.ma K (suA K) "__init__")
theorem sflds_put (v1 c v2 v3 v4 v5 v6 : V) : putF "deadline" v6 (putF "span" v5 (putF "most" v4 (putF "strategy" v3 (putF "restart" v2 (putF "children" c (putF "name" v1 [])))))) = sflds v1 c v2 v3 v4 v5 v6 := by
  have q01 : ¬ (("name" : Str) = "children") := by decide +kernel
  have q02 : ¬ (("name" : Str) = "restart") := by decide +kernel
  have q03 : ¬ (("name" : Str) = "strategy") := by decide +kernel
  have q04 : ¬ (("name" : Str) = "most") := by decide +kernel
  have q05 : ¬ (("name" : Str) = "span") := by decide +kernel
  have q06 : ¬ (("name" : Str) = "deadline") := by decide +kernel
  have q12 : ¬ (("children" : Str) = "restart") := by decide +kernel
  have q13 : ¬ (("children" : Str) = "strategy") := by decide +kernel
  have q14 : ¬ (("children" : Str) = "most") := by decide +kernel
  have q15 : ¬ (("children" : Str) = "span") := by decide +kernel
  have q16 : ¬ (("children" : Str) = "deadline") := by decide +kernel
  have q23 : ¬ (("restart" : Str) = "strategy") := by decide +kernel
  have q24 : ¬ (("restart" : Str) = "most") := by decide +kernel
  have q25 : ¬ (("restart" : Str) = "span") := by decide +kernel
  have q26 : ¬ (("restart" : Str) = "deadline") := by decide +kernel
  have q34 : ¬ (("strategy" : Str) = "most") := by decide +kernel
  have q35 : ¬ (("strategy" : Str) = "span") := by decide +kernel
  have q36 : ¬ (("strategy" : Str) = "deadline") := by decide +kernel
  have q45 : ¬ (("most" : Str) = "span") := by decide +kernel
  have q46 : ¬ (("most" : Str) = "deadline") := by decide +kernel
  have q56 : ¬ (("span" : Str) = "deadline") := by decide +kernel
  simp [putF, sflds, q01, q02, q03, q04, q05, q06, q12, q13, q14, q15, q16, q23, q24, q25, q26, q34, q35, q36, q45, q46, q56]
/-- any settings, any children -/
abbrev spSInit (K : PySem.W.Frag) : Sp := fun vs H Q E => ∃ a dx v1 v2 v3 v4 v5 v6 d1 d2 d3 d4 d5 d6 p xs ks, vs = [.ref a, v1, v2, v3, v4, v5, v6, .ref p] ∧ H a = some (.ins (suA K) dx []) ∧
  Dd K H v1 d1 ∧ Dd K H v2 d2 ∧ Dd K H v3 d3 ∧ Dd K H v4 d4 ∧ Dd K H v5 d5 ∧ Dd K H v6 d6 ∧ SqT K H p xs ∧ KidAll K H xs ks ∧
  (firstBad (sset d1 d2 d3 d4 d5 d6) = none → firstKid 0 1 ks = none → ∀ H', Same H H' → Q .non (upd H' a (.ins (suA K) dx (sflds v1 (.ref p) v2 v3 v4 v5 v6)))) ∧
  (∀ x, firstBad (sset d1 d2 d3 d4 d5 d6) = some x → ∀ e H', Same H H' → H e = none → H' e = some (.xd [("setting", .str x)]) → E (.ref (He.ga K "BadSetting")) (some e) H') ∧
  (firstBad (sset d1 d2 d3 d4 d5 d6) = none → ∀ i, firstKid 0 1 ks = some i → ∀ e H', Same H H' → H e = none → H' e = some (.xd [("index", .int (i : Nat))]) → E (.ref (He.ga K "BadChild")) (some e) H')
theorem sup_body {A : Around} {outer : List Env} {s : Shared} {H : Hp} {vs : List V} {Q : VK} {E : XK} {f : Addr} {cdv : Value} (T : Txt K mg) (W : Su K mg) (hr : Room 24 (A.deeper (envOfC "SupervisorPlan.__init__" (defScope s_SupervisorPlan___init__) s.heap.objs.size f cdv)))
    (F_check_settings : FnQ P w K mg base (L2.CX P w) 2 "_check_settings" ["checks"] (spSettings K)) (F_is_place_name : FnQ P w K mg base CX0 2 "is_place_name" ["value"] (spChk K isPlace)) (F_is_one_of : FnQ P w K mg base CX0 1 "is_one_of" ["value", "words"] (spOne K))
    (F_is_between : FnQ P w K mg base CX0 2 "is_between" ["value", "low", "high"] (spBtw K)) (F_is_deadline : FnQ P w K mg base CX0 3 "_is_deadline" ["value"] (spChk K deadD)) (F_check_children : FnQ P w K mg base (L2.CX P w) 24 "_check_children" ["children"] (spKids K)) (h : spSInit K vs H Q E) :
    ∃ t, PSs (cxOf (L2.CX P w) P w K mg base N_SupervisorPlan___init__ "SupervisorPlan.__init__" (defScope s_SupervisorPlan___init__) f cdv A outer s H E) (defBody s_SupervisorPlan___init__) t ∧ t { nx := fun _ H' => Q .non H', rt := Q } (start N_SupervisorPlan___init__ vs) H := by
  obtain ⟨a, dx, v1, v2, v3, v4, v5, v6, d1, d2, d3, d4, d5, d6, p, xs, ks, rfl, ha, h1, h2, h3, h4, h5, h6, hp, hx, k, ke, kc⟩ := h
  refine ⟨_, (pss_cons (ps_expr (pe_fS F_check_settings hr (fun σ => passAt (takes_of rfl rfl rfl rfl) σ) (pa_cons (pe_tupM (pa_cons (pe_tupM (pa_cons pe_str (pa_cons (pe_f F_is_place_name hr pass0 (pa_cons (pv 1) pa_nil)) pa_nil))) (pa_cons (pe_tupM (pa_cons pe_str (pa_cons (pe_f F_is_one_of hr pass0 (pa_cons (pv 2) (pa_cons (C8.pe_gc (by rfl) T.c_RESTARTS) pa_nil))) pa_nil))) (pa_cons (pe_tupM (pa_cons pe_str (pa_cons (pe_f F_is_one_of hr pass0 (pa_cons (pv 3) (pa_cons (C8.pe_gc (by rfl) T.c_STRATEGIES) pa_nil))) pa_nil))) (pa_cons (pe_tupM (pa_cons pe_str (pa_cons (pe_f F_is_between hr pass0 (pa_cons (pv 4) (pa_cons pe_int (pa_cons (C8.pe_gc (by rfl) T.c_MOST_RESTARTS) pa_nil)))) pa_nil))) (pa_cons (pe_tupM (pa_cons pe_str (pa_cons (pe_f F_is_between hr pass0 (pa_cons (pv 5) (pa_cons pe_int (pa_cons (C8.pe_gc (by rfl) T.c_MOST_TICKS) pa_nil)))) pa_nil))) (pa_cons (pe_tupM (pa_cons pe_str (pa_cons (pe_f F_is_deadline hr pass0 (pa_cons (pv 6) pa_nil)) pa_nil))) pa_nil))))))) pa_nil)))
  (pss_cons (ps_expr (pe_fS F_check_children hr (fun σ => passAt (takes_of rfl rfl rfl rfl) σ) (pa_cons (pv 7) pa_nil)))
  (PSs.nox (pss_cons (ps_fld (pv 0) (pv 1) rfl)
  (pss_cons (ps_fld (pv 0) (pv 7) rfl)
  (pss_cons (ps_fld (pv 0) (pv 2) rfl)
  (pss_cons (ps_fld (pv 0) (pv 3) rfl)
  (pss_cons (ps_fld (pv 0) (pv 4) rfl)
  (pss_cons (ps_fld (pv 0) (pv 5) rfl)
  (pss_one (ps_fld (pv 0) (pv 6) rfl))))))))))), ?_⟩
  have two : (2 : Nat) ≤ sizeLine := by decide
  have hw : ∀ H, SqT K H (He.ga K "RESTARTS") (restarts.map V.str) := T.tq ("RESTARTS", restarts) (by simp [cTups, restarts])
  have hs : ∀ H, SqT K H (He.ga K "STRATEGIES") ((["one", "rest", "all"] : List Str).map V.str) := T.tq ("STRATEGIES", ["one", "rest", "all"]) (by simp [cTups])
  refine ⟨_, rfl, v1, d1, rfl, h1, fun H1 s1 => ⟨two, fun t1 G1 r1 n1 l1 => ?_⟩⟩
  have S1 : Same H G1 := s1.trans r1
  refine ⟨_, rfl, v2, d2, _, restarts, rfl, h2.same S1, hw G1, fun H2 s2 => ⟨two, fun t2 G2 r2 n2 l2 => ?_⟩⟩
  have T2 : Same G1 G2 := s2.trans r2
  have S2 := S1.trans T2
  refine ⟨_, rfl, v3, d3, _, ["one", "rest", "all"], rfl, h3.same S2, hs G2, fun H3 s3 => ⟨two, fun t3 G3 r3 n3 l3 => ?_⟩⟩
  have T3 : Same G2 G3 := s3.trans r3
  have S3 := S2.trans T3
  refine ⟨_, rfl, v4, d4, _, _, rfl, h4.same S3, fun H4 s4 => ⟨two, fun t4 G4 r4 n4 l4 => ?_⟩⟩
  have T4 : Same G3 G4 := s4.trans r4
  have S4 := S3.trans T4
  refine ⟨_, rfl, v5, d5, _, _, rfl, h5.same S4, fun H5 s5 => ⟨two, fun t5 G5 r5 n5 l5 => ?_⟩⟩
  have T5 : Same G4 G5 := s5.trans r5
  have S5 := S4.trans T5
  refine ⟨_, rfl, v6, d6, rfl, h6.same S5, fun H6 s6 => ⟨two, fun t6 G6 r6 n6 l6 => ?_⟩⟩
  have T6 : Same G5 G6 := s6.trans r6
  refine ⟨(by show 6 ≤ sizeLine; decide), fun p8 G8 r8 n8 l8 => ?_⟩
  have S8 := S5.trans (T6.trans r8)
  have m6 := r8 _ _ l6
  have m5 := r8 _ _ (T6 _ _ l5)
  have m4 := r8 _ _ (T6 _ _ (T5 _ _ l4))
  have m3 := r8 _ _ (T6 _ _ (T5 _ _ (T4 _ _ l3)))
  have m2 := r8 _ _ (T6 _ _ (T5 _ _ (T4 _ _ (T3 _ _ l2))))
  have m1 := r8 _ _ (T6 _ _ (T5 _ _ (T4 _ _ (T3 _ _ (T2 _ _ l1)))))
  have none_of : ∀ {G : Hp} {e : Addr}, Same H G → G e = none → H e = none := fun {G e} s n => by
    cases q : H e with
    | none => rfl
    | some o => rw [s _ _ q] at n; cases n
  refine ⟨p8, _, sset d1 d2 d3 d4 d5 d6, rfl, SqT.of l8, .cons (SqT.of m1) (.cons (SqT.of m2) (.cons (SqT.of m3) (.cons (SqT.of m4) (.cons (SqT.of m5) (.cons (SqT.of m6) .nil))))), fun fb H9 s9 => ?_, fun x fb e H' s n q => ke x fb e H' (S8.trans s) (none_of S8 n) q⟩
  have S9 := S8.trans s9
  refine ⟨_, rfl, p, xs, ks, rfl, S9.sqT hp, hx.same S9, fun fk H10 s10 => ?_, fun i fk e H' s n q => kc fb i fk e H' (S9.trans s) (none_of S9 n) q⟩
  have S10 := S9.trans s10
  have a9 := S10 _ _ ha
  have na : ∀ {f : Str}, f ∈ sNames → NoAttr K (suA K) f := fun h => W.na _ h
  refine ⟨_, rfl, _, rfl, a, suA K, dx, _, rfl, a9, W.cl, na (by simp), Nat.lt_of_le_of_lt (Nat.zero_le 0) (by decide), ?_⟩
  refine ⟨_, rfl, _, rfl, a, suA K, dx, _, rfl, upd_same, W.cl, na (by simp), Nat.lt_of_le_of_lt (putF_le (Nat.zero_le 0)) (by decide), ?_⟩
  refine ⟨_, rfl, _, rfl, a, suA K, dx, _, rfl, upd_same, W.cl, na (by simp), Nat.lt_of_le_of_lt (putF_le (putF_le (Nat.zero_le 0))) (by decide), ?_⟩
  refine ⟨_, rfl, _, rfl, a, suA K, dx, _, rfl, upd_same, W.cl, na (by simp), Nat.lt_of_le_of_lt (putF_le (putF_le (putF_le (Nat.zero_le 0)))) (by decide), ?_⟩
  refine ⟨_, rfl, _, rfl, a, suA K, dx, _, rfl, upd_same, W.cl, na (by simp), Nat.lt_of_le_of_lt (putF_le (putF_le (putF_le (putF_le (Nat.zero_le 0))))) (by decide), ?_⟩
  refine ⟨_, rfl, _, rfl, a, suA K, dx, _, rfl, upd_same, W.cl, na (by simp), Nat.lt_of_le_of_lt (putF_le (putF_le (putF_le (putF_le (putF_le (Nat.zero_le 0)))))) (by decide), ?_⟩
  refine ⟨_, rfl, _, rfl, a, suA K, dx, _, rfl, upd_same, W.cl, na (by simp), Nat.lt_of_le_of_lt (putF_le (putF_le (putF_le (putF_le (putF_le (putF_le (Nat.zero_le 0))))))) (by decide), ?_⟩
  have z := k fb fk H10 S10
  simp only [upd_upd]
  show Q .non (upd H10 a (.ins (suA K) dx (putF "deadline" v6 (putF "span" v5 (putF "most" v4 (putF "strategy" v3 (putF "restart" v2 (putF "children" (.ref p) (putF "name" v1 [])))))))))
  rw [sflds_put]
  exact z
abbrev sKs : List Str := ["restart", "strategy", "most", "span", "deadline"]
def sDef : List (Str × V) := [("restart", .str "permanent"), ("strategy", .str "one"), ("most", .int 1), ("span", .int 10), ("deadline", .non)]
/-- the call by place and by name -/
abbrev spSMade (K : PySem.W.Frag) : SpK := fun vs zs H Q E => ∃ xs rest, vs = xs ++ rest ∧ xs.length = (["self", "name"] : List Str).length ∧ rest.length ≤ sizeLine ∧ ∀ p, H p = none → spSInit K (xs ++ zs ++ [V.ref p]) (upd H p (.tup rest)) Q E
theorem ok_sinit {fd : FuncData} (F : FunD K "__init__" "SupervisorPlan.__init__" (defArgs s_SupervisorPlan___init__) (defBody s_SupervisorPlan___init__) (defScope s_SupervisorPlan___init__) [] sDef (He.ma K (suA K) "__init__") fd) (T : Txt K mg) (W : Su K mg)
    (F_check_settings : FnQ P w K mg base (L2.CX P w) 2 "_check_settings" ["checks"] (spSettings K)) (F_is_place_name : FnQ P w K mg base CX0 2 "is_place_name" ["value"] (spChk K isPlace)) (F_is_one_of : FnQ P w K mg base CX0 1 "is_one_of" ["value", "words"] (spOne K))
    (F_is_between : FnQ P w K mg base CX0 2 "is_between" ["value", "low", "high"] (spBtw K)) (F_is_deadline : FnQ P w K mg base CX0 3 "_is_deadline" ["value"] (spChk K deadD)) (F_check_children : FnQ P w K mg base (L2.CX P w) 24 "_check_children" ["children"] (spKids K)) :
    FnRK P w K mg base (L2.CX P w) 25 (He.ma K (suA K) "__init__") sKs (spSMade K) := by
  obtain ⟨oc, od, dV, kV, doc, pm, an, cdv, ct, osl, rfl, lk, hcd, hD, hK⟩ := F.ex
  rcases hD with ⟨_, rfl⟩ | ⟨e, _⟩
  rotate_left
  · exact absurd rfl e
  refine fn_starK (N := N_SupervisorPlan___init__) (ps := ["self", "name"]) (ks := sKs) (pv := "children") lk hcd sc_SupervisorPlan___init__ StX.cxUp (fun us rest ws l1 l2 => ?_) fun A outer s H vs Q E hr h => sup_body T W hr F_check_settings F_is_place_name F_is_one_of F_is_between F_is_deadline F_check_children h
  match us, rest, ws, l1, l2 with
  | [_, _], [], [_, _, _, _, _], _, _ => rfl
  | [_, _], _ :: _, [_, _, _, _, _], _, _ => rfl
end
end K02
namespace K02
open PySem PySem.Spec PyProof.Rows L2
/-! ### the source of draws -/
def kC : Key := .inr "script"
def kA : Key := .inr "at"
def kL : Key := .inr "left"
def src (c : Addr) (n r : Int) : List (Key × V) := [(kC, .ref c), (kA, .int n), (kL, .int r)]
theorem nCA : ¬ kC = kA := by decide +kernel
theorem nCL : ¬ kC = kL := by decide +kernel
theorem nAL : ¬ kA = kL := by decide +kernel
theorem vC (c : Addr) (n r : Int) : valV (src c n r) kC = some (.ref c) := valV_pos rfl
theorem vA (c : Addr) (n r : Int) : valV (src c n r) kA = some (.int n) := (valV_neg nCA).trans (valV_pos rfl)
theorem vL (c : Addr) (n r : Int) : valV (src c n r) kL = some (.int r) := (valV_neg nCL).trans ((valV_neg nAL).trans (valV_pos rfl))
theorem pA (c : Addr) (n r z : Int) : putK (src c n r) kA (.int z) = src c z r := by
  unfold putK src
  simp [nCA, Ne.symm nAL]
theorem pL (c : Addr) (n r z : Int) : putK (src c n r) kL (.int z) = src c n z := by
  unfold putK src
  simp [nCL, nAL]
/-- a source stands at a: its cells at c; at most m draws were made -/
structure Src (K : PySem.W.Frag) (H : Hp) (a c : Addr) (ns : List Int) (m : Int) : Prop where
  dc : ∃ n r, H a = some (.dK (src c n r)) ∧ 0 ≤ n ∧ n ≤ m ∧ 0 ≤ r
  cs : ScrL K H c (ns.map V.int)
  few : ns.length ≤ 63
/-- the heap stays but for the source -/
def But (a : Addr) (H H' : Hp) : Prop := ∀ b o, H b = some o → b ≠ a → H' b = some o
theorem But.refl (a : Addr) (H : Hp) : But a H H := fun _ _ e _ => e
theorem But.trans {a : Addr} {H H1 H2 : Hp} (s : But a H H1) (t : But a H1 H2) : But a H H2 := fun b o e n => t b o (s b o e n) n
theorem But.same {a : Addr} {H H1 H2 : Hp} (s : But a H H1) (t : Same H1 H2) : But a H H2 := fun b o e n => t b o (s b o e n)
theorem But.upd {a : Addr} {H0 H : Hp} (h : But a H0 H) (o : HO) : But a H0 (upd H a o) := fun b u e ne => by rw [upd_ne ne]; exact h b u e ne
def spBegun (K : PySem.W.Frag) : Sp := fun vs H Q _ => ∃ (c : Addr) (ns : List Int), vs = [.ref c] ∧ ScrL K H c (ns.map V.int) ∧ ns.length ≤ 63 ∧ ∀ p H', Same H H' → Src K H' p c ns 0 → H p = none → Q (.ref p) H'
def spNext (K : PySem.W.Frag) : Sp := fun vs H Q _ => ∃ (a c : Addr) (ns : List Int) (m b : Int), vs = [.ref a, .int b] ∧ Src K H a c ns m ∧ m ≤ 1000000 ∧ 0 < b ∧ b < 1000000 ∧
  ∀ (j : Nat) H', (j : Int) < b → Src K H' a c ns (m + 1) → But a H H' → Q (.int j) H'
def spOf (K : PySem.W.Frag) : Sp := fun vs H Q _ => ∃ (a c l : Addr) (ns : List Int) (m : Int) (xs : List V), vs = [.ref a, .ref l] ∧ Src K H a c ns m ∧ m ≤ 1000000 ∧ H l = some (.lst xs) ∧ l ≠ a ∧ 0 < xs.length ∧ xs.length ≤ 1000 ∧
  ∀ (j : Nat) v H', xs[j]? = some v → Src K H' a c ns (m + 1) → But a H H' → Q v H'
section
variable {P : Program} {w : World} {K : PySem.W.Frag} {mg : Str → Option Value} {base : Heap}
abbrev s_law_begun : Stmt := (top 64)
def N_law_begun : List Str := ["cells"]
theorem sc_law_begun : FnScope N_law_begun ["cells"] (defScope s_law_begun) := ⟨rfl, rfl, rfl, by decide +kernel, rfl, by decide +kernel, by decide +kernel⟩
abbrev s_law_next : Stmt := (top 65)
def N_law_next : List Str := ["m", "total", "found", "k", "cell", "mixed"]
theorem sc_law_next : FnScope N_law_next ["m", "total"] (defScope s_law_next) := ⟨rfl, rfl, rfl, by decide +kernel, rfl, by decide +kernel, by decide +kernel⟩
abbrev s_law_of : Stmt := (top 66)
def N_law_of : List Str := ["m", "items"]
theorem sc_law_of : FnScope N_law_of ["m", "items"] (defScope s_law_of) := ⟨rfl, rfl, rfl, by decide +kernel, rfl, by decide +kernel, by decide +kernel⟩
theorem ok_begun (F : Has K mg "_law_begun" s_law_begun) : FnQ P w K mg base CX0 1 "_law_begun" ["cells"] (spBegun K) := by
  refine F.q sc_law_begun (fun _ _ _ _ _ _ us hl => match us, hl with | [_], _ => rfl) (fun vs H Q E h => by obtain ⟨c, ns, rfl, _⟩ := h; rfl) (fun cdv A outer s H vs Q E hr h => ?_)
  obtain ⟨c, ns, rfl, hs, hl, k⟩ := h
  refine ⟨_, PSs.nox (pss_one (ps_ret (pe_disp (pps_cons pe_str (pv 0) (pps_cons pe_str pe_int (pps_cons pe_str pe_int pps_nil))) rfl rfl (by simp) (by decide)))), ?_⟩
  intro p hp
  refine ⟨_, rfl, upd_same, [(kC, V.ref c), (kA, V.int 0), (kL, V.int 0)], rfl, (by show 3 ≤ 15; decide), ?_⟩
  have em : mergeK [] [(kC, V.ref c), (kA, V.int 0), (kL, V.int 0)] = src c 0 0 := by
    unfold mergeK src
    simp [putK, nCA, nCL, nAL]
  rw [em, upd_upd]
  have s1 : Same H (upd H p (.dK (src c 0 0))) := Same.new hp
  exact k p _ s1 ⟨⟨0, 0, upd_same, by decide, by decide, by decide⟩, hs.same s1, hl⟩ hp
theorem getC {H : Hp} {a c : Addr} {n r : Int} (h : H a = some (.dK (src c n r))) : DGet H a (.str "script") (some (.ref c)) := by
  have z := DGet.k (k := kC) h
  rw [vC] at z; exact z
theorem getA {H : Hp} {a c : Addr} {n r : Int} (h : H a = some (.dK (src c n r))) : DGet H a (.str "at") (some (.int n)) := by
  have z := DGet.k (k := kA) h
  rw [vA] at z; exact z
theorem getL {H : Hp} {a c : Addr} {n r : Int} (h : H a = some (.dK (src c n r))) : DGet H a (.str "left") (some (.int r)) := by
  have z := DGet.k (k := kL) h
  rw [vL] at z; exact z
theorem few3 (c : Addr) (n r : Int) : (src c n r).length < sizeLine := small1000 (by show 3 ≤ 1000; decide)
theorem putA {H : Hp} {a c : Addr} {n r z : Int} (h : H a = some (.dK (src c n r))) : DPut H a (.str "at") (.int z) (upd H a (.dK (src c z r))) := by
  have y := DPut.k (k := kA) (v := .int z) h (few3 c n r)
  rw [pA] at y; exact y
theorem putL {H : Hp} {a c : Addr} {n r z : Int} (h : H a = some (.dK (src c n r))) : DPut H a (.str "left") (.int z) (upd H a (.dK (src c n z))) := by
  have y := DPut.k (k := kL) (v := .int z) h (few3 c n r)
  rw [pL] at y; exact y
theorem ok_of (F : Has K mg "_law_of" s_law_of) (T : Txt K mg) (F_law_next : FnQ P w K mg base CX0 1 "_law_next" ["m", "total"] (spNext K)) : FnQ P w K mg base CX0 2 "_law_of" ["m", "items"] (spOf K) := by
  refine F.q sc_law_of (fun _ _ _ _ _ _ us hl => match us, hl with | [_, _], _ => rfl) (fun vs H Q E h => by obtain ⟨a, c, l, ns, m, xs, rfl, _⟩ := h; rfl) (fun cdv A outer s H vs Q E hr h => ?_)
  obtain ⟨a, c, l, ns, m, xs, rfl, S, hm, hx, nla, lp, lf, k⟩ := h
  have gL : mg "len" = none := T.fr _ (by simp [frees])
  refine ⟨_, PSs.nox (pss_one (ps_ret (pe_ix ix_list (pv 1) (pe_f F_law_next hr pass0 (pa_cons (pv 0) (pa_cons (pe_callB call_len_seq (by rfl) gL boot_len (pa_cons (pv 1) pa_nil)) pa_nil))) (fun _ _ => rfl)))), ?_⟩
  refine ⟨_, rfl, _, rfl, _, rfl, l, xs, rfl, .inl (SqL.of hx), a, c, ns, m, xs.length, rfl, S, hm, by omega, by omega, fun j H' hj S' but => ?_⟩
  have lt : j < xs.length := by omega
  have e : xs[j]? = some xs[j] := List.getElem?_eq_getElem lt
  exact ⟨l, xs, _, _, rfl, rfl, SqL.of (but l _ hx nla), atI_nat e, k j _ H' e S' but⟩
theorem dp_ints {H : Hp} : ∀ ns : List Int, DpAll K H (ns.map V.int) (ns.map PyData.int)
  | [] => .nil
  | n :: ns => .cons (.int n) (dp_ints ns)
theorem lay_ints : ∀ ns : List Int, PyData.canLayAll0 (ns.map PyData.int) = true
  | [] => rfl
  | n :: ns => by
    show (PyData.canLay0 (.int n) && PyData.canLayAll0 (ns.map PyData.int)) = true
    rw [lay_ints ns]; rfl
theorem depth_ints : ∀ ns : List Int, PyData.depthAll (ns.map PyData.int) = 0
  | [] => rfl
  | n :: ns => by
    show max (PyData.depth (.int n)) (PyData.depthAll (ns.map PyData.int)) = 0
    rw [depth_ints ns]; rfl
theorem shaped_ints (ns : List Int) : SeqAt.shaped (.list (ns.map PyData.int)) = true := by
  unfold SeqAt.shaped
  have h1 : PyData.canLay0 (.list (ns.map PyData.int)) = true := lay_ints ns
  have h2 : PyData.depth (.list (ns.map PyData.int)) ≤ 64 := by
    show PyData.depthAll (ns.map PyData.int) + 1 ≤ 64
    rw [depth_ints]; decide
  rw [h1, decide_eq_true h2]; rfl
theorem eqv_nil : ∀ ns : List Int, (!PyData.eqv (.list (ns.map PyData.int)) (.list [])) = decide (ns ≠ [])
  | [] => by decide +kernel
  | n :: ns => by
    have : PyData.eqv (.list ((n :: ns).map PyData.int)) (.list []) = false := rfl
    rw [this]
    simp
theorem ok_next (F : Has K mg "_law_next" s_law_next) (T : Txt K mg) : FnQ P w K mg base CX0 1 "_law_next" ["m", "total"] (spNext K) := by
  refine F.q sc_law_next (fun _ _ _ _ _ _ us hl => match us, hl with | [_, _], _ => rfl) (fun vs H Q E h => by obtain ⟨a, c, ns, m, b, rfl, _⟩ := h; rfl) (fun cdv A outer s H vs Q E hr h => ?_)
  obtain ⟨a, c, ns, m, b, rfl, S, hm, b0, b1, kk⟩ := h
  have gL : mg "len" = none := T.fr _ (by simp [frees])
  obtain ⟨⟨n, r, hd, n0, n1, r0⟩, hc, few⟩ := S
  refine ⟨_, PSs.nox (pss_cons (ps_if (pt_cmpR op_gt (pe_dget (hu_of hr) (pv 0) pe_str (fun _ _ => rfl)) pe_int (by first | exact nomark _ | rfl))
  (pss_cons (ps_set (i := 2) sc_law_next.nd rfl (by first | exact .inl rfl | exact .inr rfl) (pe_op op_mod (pe_callTy call_int1 (by rfl) (T.fr "int" (by simp [frees])) PyProof.Rows.boot_int (pa_cons (pe_dget (hu_of hr) (pv 0) pe_str (fun _ _ => rfl)) pa_nil)) (pv 1)))
  (pss_cons (ps_dput (hu_of hr) (pv 0) pe_str (pe_op op_fdiv (pe_dget (hu_of hr) (pv 0) pe_str (fun _ _ => rfl)) (pv 1)) rfl)
  (pss_one (ps_ret (pv 2)))))
  pss_nil)
  (pss_cons (ps_set (i := 3) sc_law_next.nd rfl (by first | exact .inl rfl | exact .inr rfl) (pe_dget (hu_of hr) (pv 0) pe_str (fun _ _ => rfl)))
  (pss_cons (ps_dput (hu_of hr) (pv 0) pe_str (pe_op op_add (pv 3) pe_int) rfl)
  (C8.pss_cut (ps_set (i := 4) sc_law_next.nd rfl (by first | exact .inl rfl | exact .inr rfl) (pe_ifExp (pt_cmpR (op_neD hr.units) (pe_dget (hu_of hr) (pv 0) pe_str (fun _ _ => rfl)) (pe_lstM pa_nil) (by first | exact nomark _ | rfl)) (pe_ix ix_list (pe_dget (hu_of hr) (pv 0) pe_str (fun _ _ => rfl)) (pe_op op_mod (pe_callTy call_int1 (by rfl) (T.fr "int" (by simp [frees])) PyProof.Rows.boot_int (pa_cons (pv 3) pa_nil)) (pe_callB call_len_seq (by rfl) gL boot_len (pa_cons (pe_dget (hu_of hr) (pv 0) pe_str (fun _ _ => rfl)) pa_nil))) (fun _ _ => rfl)) pe_int))
  (pss_cons (ps_if (pw_and (pt_cmpR op_ge (pv 4) (pe_op op_pow pe_int pe_int) (by first | exact nomark _ | rfl)) (pw_and1 (pt_cmpR op_lt (pv 3) (pe_callB call_len_seq (by rfl) gL boot_len (pa_cons (pe_dget (hu_of hr) (pv 0) pe_str (fun _ _ => rfl)) pa_nil)) (by first | exact nomark _ | rfl)))).pt
  (pss_cons (ps_dput (hu_of hr) (pv 0) pe_str (pe_op op_fdiv (pv 4) (pv 1)) rfl)
  (pss_one (ps_ret (pe_op op_mod (pe_callTy call_int1 (by rfl) (T.fr "int" (by simp [frees])) PyProof.Rows.boot_int (pa_cons (pv 4) pa_nil)) (pv 1)))))
  pss_nil)
  (pss_cons (ps_set (i := 5) sc_law_next.nd rfl (by first | exact .inl rfl | exact .inr rfl) (pe_op op_add (pe_op op_mul (pe_op op_mod (pe_callTy call_int1 (by rfl) (T.fr "int" (by simp [frees])) PyProof.Rows.boot_int (pa_cons (pv 4) pa_nil)) pe_int) pe_int) (pe_op op_mod (pe_callTy call_int1 (by rfl) (T.fr "int" (by simp [frees])) PyProof.Rows.boot_int (pa_cons (pe_op op_fdiv (pv 4) pe_int) pa_nil)) pe_int)))
  (pss_cons (ps_set (i := 5) sc_law_next.nd rfl (by first | exact .inl rfl | exact .inr rfl) (pe_op op_mod (pe_callTy call_int1 (by rfl) (T.fr "int" (by simp [frees])) PyProof.Rows.boot_int (pa_cons (pe_op op_add (pe_op op_add (pe_op op_add (pv 5) (pe_op op_mul (pe_op op_mul pe_int (pv 3)) (pv 3))) (pe_op op_mul pe_int (pv 3))) pe_int) pa_nil)) pe_int))
  (pss_cons (ps_set (i := 5) sc_law_next.nd rfl (by first | exact .inl rfl | exact .inr rfl) (pe_op op_mod (pe_callTy call_int1 (by rfl) (T.fr "int" (by simp [frees])) PyProof.Rows.boot_int (pa_cons (pe_op op_mul (pe_op op_mod (pe_callTy call_int1 (by rfl) (T.fr "int" (by simp [frees])) PyProof.Rows.boot_int (pa_cons (pe_op op_mul (pv 5) (pv 5)) pa_nil)) pe_int) pe_int) pa_nil)) pe_int))
  (pss_one (ps_ret (pe_op op_mod (pe_callTy call_int1 (by rfl) (T.fr "int" (by simp [frees])) PyProof.Rows.boot_int (pa_cons (pe_op op_fdiv (pv 5) pe_int) pa_nil)) (pv 1)))))))))))), ?_⟩
  have nac : ∀ {H' : Hp} {z : List (Key × V)}, ScrL K H c (ns.map V.int) → But a H H' → ScrL K H' c (ns.map V.int) := fun {H' z} q but => by
    rcases q with ⟨o, q⟩ | q
    · exact .inl ⟨o, but _ _ q (ne_of q hd fun e => nomatch e)⟩
    · exact .inr q
  have fin : ∀ {H' : Hp} {n2 r2 z : Int}, But a H H' → H' a = some (.dK (src c n2 r2)) → 0 ≤ n2 → n2 ≤ m + 1 → 0 ≤ r2 → 0 ≤ z → z < b → Q (.int z) H' := fun {H' n2 r2 z} but at_ a0 a1 a2 z0 z1 => by
    have q := kk z.toNat H' (by omega) ⟨⟨n2, r2, at_, a0, a1, a2⟩, nac (z := []) hc but, few⟩ but
    rwa [Int.toNat_of_nonneg z0] at q
  refine ⟨_, rfl, a, _, rfl, getL hd, _, _, rfl, rfl, _, rfl, ?_⟩
  by_cases c0 : 0 < r
  · refine if_yes (decide_eq_true c0) ?_
    refine ⟨_, rfl, a, _, rfl, getL hd, .inl ⟨_, rfl, ?_⟩⟩
    refine ⟨_, rfl, _, _, rfl, rfl, b0, ?_⟩
    refine ⟨_, rfl, a, _, rfl, getL hd, _, rfl, _, _, rfl, rfl, ⟨b0, by omega⟩, _, rfl, a, _, rfl, putL hd, _, rfl, ?_⟩
    exact fin ((But.refl a H).upd _) upd_same n0 (by omega) (Int.ediv_nonneg (by omega) (by omega)) (Int.emod_nonneg _ (by omega)) (Int.emod_lt_of_pos _ b0)
  · have er : r = 0 := by omega
    subst er
    refine if_no (decide_eq_false (by omega)) ?_
    refine ⟨_, rfl, a, _, rfl, getA hd, ?_⟩
    refine ⟨_, rfl, _, _, rfl, rfl, _, rfl, a, _, rfl, putA hd, ?_⟩
    generalize hH1 : upd H a (.dK (src c (n + 1) 0)) = H1
    have d1 : H1 a = some (.dK (src c (n + 1) 0)) := by rw [← hH1]; exact upd_same
    have t1 : But a H H1 := by rw [← hH1]; exact (But.refl a H).upd _
    have c1 : ScrL K H1 c (ns.map V.int) := nac (z := []) hc t1
    refine ⟨fun σ H' => ∃ z : Int, σ = [some (.ref a), some (.int b), none, some (.int n), some (.int z), none] ∧ But a H H' ∧ H' a = some (.dK (src c (n + 1) 0)), ?_, ?_⟩
    · refine ⟨_, rfl, a, _, rfl, getC d1, Nat.zero_le _, fun q H2 s2 n2 l2 => ⟨.list (ns.map .int), .list [], .lst (c1.same s2).seq (dp_ints ns), .lst (SqL.of l2) .nil, shaped_ints ns, by decide +kernel, _, rfl, ?_⟩⟩
      have t2 : But a H H2 := t1.same s2
      have d2 := s2 _ _ d1
      have c2 : ScrL K H2 c (ns.map V.int) := c1.same s2
      rw [eqv_nil]
      by_cases e0 : ns = []
      · refine if_no (decide_eq_false (by simp [e0])) ⟨0, rfl, t2, d2⟩
      · refine if_yes (decide_eq_true e0) ?_
        have lp : 0 < ns.length := List.length_pos_iff.mpr e0
        have lm : ((ns.map V.int).length : Int) = ns.length := by simp
        have i0 : 0 ≤ n % ((ns.map V.int).length : Int) := Int.emod_nonneg _ (by omega)
        have i1 : n % ((ns.map V.int).length : Int) < (ns.map V.int).length := Int.emod_lt_of_pos _ (by omega)
        obtain ⟨z, hz⟩ : ∃ z, (ns.map V.int)[(n % ((ns.map V.int).length : Int)).toNat]? = some (V.int z) := by
          have lt : (n % ((ns.map V.int).length : Int)).toNat < ns.length := by omega
          exact ⟨ns[(n % ((ns.map V.int).length : Int)).toNat], by rw [List.getElem?_map, List.getElem?_eq_getElem lt]; rfl⟩
        exact ⟨_, rfl, a, _, rfl, getC d2, _, rfl, .inl ⟨_, rfl, _, rfl, a, _, rfl, getC d2, c, _, rfl, .inl c2.seq, _, _, rfl, rfl, (by omega), c, _, _, _, rfl, rfl, c2.seq, at_of (Int.toNat_of_nonneg i0).symm hz, z, rfl, t2, d2⟩⟩
    · rintro σ H' ⟨z, rfl, t2, d2⟩
      have c2 : ScrL K H' c (ns.map V.int) := nac (z := []) hc t2
      refine ⟨_, rfl, _, _, rfl, rfl, ⟨by decide, by decide, by decide⟩, _, _, rfl, rfl, _, rfl, ?_⟩
      have p18 : (10 : Int) ^ (18 : Int).toNat = 1000000000000000000 := by decide
      have last : ∀ x : Int, 0 ≤ x % b ∧ x % b < b := fun x => ⟨Int.emod_nonneg _ (by omega), Int.emod_lt_of_pos _ b0⟩
      by_cases g1 : (10 : Int) ^ (18 : Int).toNat ≤ z
      · refine if_yes (decide_eq_true g1) ?_
        refine ⟨_, rfl, _, rfl, a, _, rfl, getC d2, c, _, rfl, .inl c2.seq, _, _, rfl, rfl, _, rfl, ?_⟩
        by_cases g2 : n < ((ns.map V.int).length : Int)
        · refine if_yes (decide_eq_true g2) ?_
          refine ⟨_, rfl, _, rfl, _, _, rfl, rfl, ⟨b0, by omega⟩, _, rfl, a, _, rfl, putL d2, ?_⟩
          refine ⟨_, rfl, .inl ⟨_, rfl, _, rfl, _, _, rfl, rfl, b0, ?_⟩⟩
          exact fin (t2.upd _) upd_same (by omega) (by omega) (Int.ediv_nonneg (by omega) (by omega)) (last z).1 (last z).2
        · refine if_no (decide_eq_false g2) ?_
          -- mixed
          refine ⟨_, rfl, .inl ⟨_, rfl, _, _, rfl, rfl, (by show (0 : Int) < _; decide), _, _, rfl, rfl, .inr ⟨by decide, by decide⟩, _, rfl, _, _, rfl, rfl, ⟨by decide, by decide⟩, .inl ⟨_, rfl, _, _, rfl, rfl, (by show (0 : Int) < _; decide), _, _, rfl, rfl, ?_⟩⟩⟩
          refine ⟨_, rfl, _, rfl, _, _, rfl, rfl, .inl ⟨by decide, by decide⟩, _, rfl, _, _, rfl, rfl, .inr ⟨by omega, by omega⟩, _, _, rfl, rfl, _, rfl, _, _, rfl, rfl, .inl ⟨by decide, by decide⟩, _, _, rfl, rfl, _, _, rfl, rfl, .inl ⟨_, rfl, _, _, rfl, rfl, (by show (0 : Int) < _; decide), ?_⟩⟩
          generalize hmx : (z % 1000003 * 48271 + z / 1000003 % 1000003 + 7919 * n * n + 104729 * n + 73) % 2147483647 = mx
          have m0 : 0 ≤ mx := by rw [← hmx]; exact Int.emod_nonneg _ (by decide)
          have m1 : mx < 2147483647 := by rw [← hmx]; exact Int.emod_lt_of_pos _ (by decide)
          refine ⟨_, rfl, _, rfl, _, _, rfl, rfl, .inl ⟨by omega, by omega⟩, .inl ⟨_, rfl, _, _, rfl, rfl, (by show (0 : Int) < _; decide), ?_⟩⟩
          generalize hmy : mx * mx % 2147483629 = my
          have y0 : 0 ≤ my := by rw [← hmy]; exact Int.emod_nonneg _ (by decide)
          have y1 : my < 2147483629 := by rw [← hmy]; exact Int.emod_lt_of_pos _ (by decide)
          refine ⟨_, _, rfl, rfl, .inl ⟨by omega, by omega⟩, .inl ⟨_, rfl, _, _, rfl, rfl, (by show (0 : Int) < _; decide), ?_⟩⟩
          refine ⟨_, rfl, _, _, rfl, rfl, ⟨by decide, by decide⟩, .inl ⟨_, rfl, _, rfl, _, _, rfl, rfl, b0, ?_⟩⟩
          exact fin t2 d2 (by omega) (by omega) (Int.le_refl 0) (last _).1 (last _).2
      · refine if_no (decide_eq_false g1) ?_
        -- mixed
        refine ⟨_, rfl, .inl ⟨_, rfl, _, _, rfl, rfl, (by show (0 : Int) < _; decide), _, _, rfl, rfl, .inr ⟨by decide, by decide⟩, _, rfl, _, _, rfl, rfl, ⟨by decide, by decide⟩, .inl ⟨_, rfl, _, _, rfl, rfl, (by show (0 : Int) < _; decide), _, _, rfl, rfl, ?_⟩⟩⟩
        refine ⟨_, rfl, _, rfl, _, _, rfl, rfl, .inl ⟨by decide, by decide⟩, _, rfl, _, _, rfl, rfl, .inr ⟨by omega, by omega⟩, _, _, rfl, rfl, _, rfl, _, _, rfl, rfl, .inl ⟨by decide, by decide⟩, _, _, rfl, rfl, _, _, rfl, rfl, .inl ⟨_, rfl, _, _, rfl, rfl, (by show (0 : Int) < _; decide), ?_⟩⟩
        generalize hmx : (z % 1000003 * 48271 + z / 1000003 % 1000003 + 7919 * n * n + 104729 * n + 73) % 2147483647 = mx
        have m0 : 0 ≤ mx := by rw [← hmx]; exact Int.emod_nonneg _ (by decide)
        have m1 : mx < 2147483647 := by rw [← hmx]; exact Int.emod_lt_of_pos _ (by decide)
        refine ⟨_, rfl, _, rfl, _, _, rfl, rfl, .inl ⟨by omega, by omega⟩, .inl ⟨_, rfl, _, _, rfl, rfl, (by show (0 : Int) < _; decide), ?_⟩⟩
        generalize hmy : mx * mx % 2147483629 = my
        have y0 : 0 ≤ my := by rw [← hmy]; exact Int.emod_nonneg _ (by decide)
        have y1 : my < 2147483629 := by rw [← hmy]; exact Int.emod_lt_of_pos _ (by decide)
        refine ⟨_, _, rfl, rfl, .inl ⟨by omega, by omega⟩, .inl ⟨_, rfl, _, _, rfl, rfl, (by show (0 : Int) < _; decide), ?_⟩⟩
        refine ⟨_, rfl, _, _, rfl, rfl, ⟨by decide, by decide⟩, .inl ⟨_, rfl, _, rfl, _, _, rfl, rfl, b0, ?_⟩⟩
        exact fin t2 d2 (by omega) (by omega) (Int.le_refl 0) (last _).1 (last _).2
end
end K02
namespace K02
open PySem PySem.Spec PyProof.Rows L2
section
variable {P : Program} {w : World} {K : PySem.W.Frag} {mg : Str → Option Value} {base : Heap}
/-- the defaults of WorkerPlan; dS: the address of the empty tuple among them -/
def wDef (dS : Addr) : List (Str × V) := [("restart", .str "permanent"), ("opening", .int 0), ("closing", .int 0), ("deadline", .non), ("refused", .int 0), ("script", .ref dS)]
abbrev wPs : List Str := ["self", "name", "restart", "opening", "closing", "deadline", "refused", "script"]
/-- WorkerPlan(name, script=..) -/
theorem wk_bindS {dS : Addr} {fd : FuncData} (F : FunD K "__init__" "WorkerPlan.__init__" (defArgs s_WorkerPlan___init__) (defBody s_WorkerPlan___init__) (defScope s_WorkerPlan___init__) [] (wDef dS) (He.ma K (wkA K) "__init__") fd) :
    ∃ mv : List Value, KBn K fd wPs 2 ["script"] (fun us ws => us ++ mv ++ ws) (fun vs zs => vs ++ [.str "permanent", .int 0, .int 0, .non, .int 0] ++ zs) := by
  refine F.kbinds0 2 ["script"] [("restart", .str "permanent"), ("opening", .int 0), ("closing", .int 0), ("deadline", .non), ("refused", .int 0)] (fun a b c => a ++ b ++ c) (by simp [wDef]) (by simp [wDef]) (fun r1 r2 r3 => (r1.append r2).append r3) ?_
  intro D doc pm an cdv ct us mv ws l1 l2 l3
  match us, mv, ws, l1, l2, l3 with
  | [_, _], [_, _, _, _, _], [_], _, _, _ => exact ⟨_, _, _, _, _, _, rfl, rfl, _, _, _, _, _, _, rfl, rfl, _, _, _, _, _, _, rfl, rfl, _, _, _, _, _, _, rfl, rfl, _, _, _, _, _, _, rfl, rfl, rfl⟩
end
end K02
/-! a, b, c = x, y, z: the names are stored from behind -/
namespace L2
open PySem PySem.Spec PyProof.Rows
def setSeq : List Nat → List V → St → St
  | i :: is, x :: xs, σ => setSeq is xs (σ.set i (some x))
  | _, _, σ => σ
section
variable {X : Cx} {pins : List (Addr × Obj)} {H : Hp} {M : Model} {A : Around} {E : Value → Shared → Prop}
/-- names as they stand in the list -/
inductive Nms (X : Cx) : List Nat → List Str → Prop
  | nil : Nms X [] []
  | cons {i : Nat} {x : Str} {is : List Nat} {ns : List Str} (hi : X.N[i]? = some x) (hx : Loc X.env.scope x) (hf : X.fn x = true ∨ X.env.scope.names.lookup x = some .local) (r : Nms X is ns) : Nms X (i :: is) (x :: ns)
theorem Nms.len {is : List Nat} {ns : List Str} (h : Nms X is ns) : is.length = ns.length := by
  induction h with
  | nil => rfl
  | cons _ _ _ _ ih => rw [List.length_cons, List.length_cons, ih]
theorem stores_ok (hN : X.N.Nodup) : ∀ {is : List Nat} {ns : List Str} {xs : List V} {us : List Value} {σ : St} {s : Shared} {Q : Unit → Shared → Prop}, Nms X is ns → Vals xs us → Inv X pins σ H s → (∀ s', Inv X pins (setSeq is xs σ) H s' → Q () s') →
    wpAny M A (assignInOrder (ns.map fun n => bindName X.env n) us) Q E s
  | _, _, _, _, σ, s, Q, .nil, _, I, h => by
    refine wpAny_pure (h s ?_)
    unfold setSeq
    exact I
  | _, _, _, _, σ, s, Q, .cons hi hx hf r, .nil, I, h => wpAny_pure (h s I)
  | _, _, _, _, σ, s, Q, .cons hi hx hf r, .cons rx rr, I, h => by
    refine wpAny_bind (wpAny_holding (wpAny_bind (wpAny_holding (wpAny_point (wpAny_bind (store_ok I hN hi hx rx (fun s1 I1 => wpAny_point ?_) hf))))))
    exact stores_ok hN r rr I1 h
/-- target names = a tuple of as many -/
def tSwap (K : PySem.W.Frag) (is : List Nat) (te : TE) : TS := fun D σ H => te σ H fun v H1 => ∃ a xs, v = .ref a ∧ SqT K H1 a xs ∧ xs.length = is.length ∧ D.nx (setSeq is.reverse xs.reverse σ) H1
theorem Vals.rev {xs : List V} {us : List Value} (h : Vals xs us) : Vals xs.reverse us.reverse := by
  induction h with
  | nil => exact .nil
  | cons r _ ih =>
    rw [List.reverse_cons, List.reverse_cons]
    exact ih.append (.cons r .nil)
theorem ps_swap {tg e : Expr} {te : TE} {pos : Pos} {is : List Nat} {ns : List Str} (hc : X.calm = true) (hN : X.N.Nodup) (he : PE X e te) (hn : Nms X is.reverse ns.reverse) (hs : swapsWithSole [tg] e pos.line X.env = pure false := by rfl) (hw : swappedStores [tg] e X.env = pure (some ns) := by rfl) :
    PS X (.Assign [tg] e pos) (tSwap X.K is te) := by
  refine ⟨fun pins s σ H D I h => ?_⟩
  rw [exec_Assign_arm]
  refine wpAny_bind (wpAny_standAt ?_)
  rw [hs]
  refine wpAny_bind (wpAny_pure ?_)
  rw [if_neg (by decide)]
  refine wpAny_bind (thn (he.run pins s σ H _ I h) fun v s1 ⟨x, H1, I1, r1, a, xs, ex, hq, hl, q⟩ => ?_)
  subst ex
  cases r1
  rw [hw]
  refine wpAny_bind (wpAny_pure ?_)
  obtain ⟨its, rv, ht, hz⟩ := I1.tuple hq
  have ln : ns.length = its.toArray.size := by
    have z := hn.len
    rw [List.length_reverse, List.length_reverse] at z
    have y := rv.length
    rw [List.size_toArray]
    omega
  refine wpAny_bind (wpAny_rule (wpAny_bind ?_))
  rw [ln]
  refine unpackItems_tuple (I.ok.hd hc) ht fun h' hx => ?_
  have I2 : Inv X pins σ H1 { s1 with heap := h' } := I1.kept (t' := s1.toks) fun b o e => hx b o (Nat.ne_of_lt (Heap.lt_size e)) e
  refine wpAny_bind (stores_ok hN hn (Vals.rev (by simpa using rv)) I2 fun s' I' => wpAny_pure ?_)
  exact ⟨_, _, I', q⟩
end
end L2
namespace K02
open PySem PySem.Spec PyProof.Rows L2
section
variable {P : Program} {w : World} {K : PySem.W.Frag} {mg : Str → Option Value} {base : Heap}
/-! ### right plans of the law's own, where no exception may leave -/
def ENo : XK := fun _ _ _ => False
theorem passNo {X : Cx} : Passes (L2.CX P w) X ENo := fun _ _ _ _ _ _ _ h => by
  obtain ⟨_, _, _, _, _, _, _, _, _, _, _, _, z⟩ := h
  exact z.elim
theorem wset_ok {d1 d7 : Dt} (h1 : isPlace d1 = true) (h7 : scriptD d7 = true) : firstBad (wset d1 (.str "permanent") (.int 0) (.int 0) .non (.int 0) d7) = none := by
  unfold wset
  rw [h1, h7]
  decide +kernel
theorem right_wk {H : Hp} {v1 v7 : V} {d1 d7 : Dt} {Q : Addr → Hp → Prop} (h1 : Dd K H v1 d1) (p1 : isPlace d1 = true) (h7 : Dd K H v7 d7) (p7 : scriptD d7 = true) (o7 : okSc d7 = true) (k : ∀ x H', Same H H' → H x = none → Dd K H' (.ref x) (.wrk d7) → Q x H') :
    ∀ x dx, H x = none → H dx = none → dx ≠ x → spWInit K [.ref x, v1, .str "permanent", .int 0, .int 0, .non, .int 0, v7] (upd (upd H dx (.own x)) x (.ins (wkA K) dx [])) (fun v H3 => v = .non ∧ Q x H3) ENo := by
  intro x dx nx nd ne
  have s0 : Same H (upd (upd H dx (.own x)) x (.ins (wkA K) dx [])) := (Same.new nd).trans (Same.new (by rw [upd_ne (Ne.symm ne)]; exact nx))
  refine ⟨x, dx, v1, _, _, _, _, _, v7, d1, .str "permanent", .int 0, .int 0, .non, .int 0, d7, rfl, upd_same, h1.same s0, .str _, .int _, .int _, .non, .int _, h7.same s0, fun _ H' s' => ⟨rfl, ?_⟩, fun y e => ?_⟩
  · have s2 : Same H (upd H' x (.ins (wkA K) dx (wflds v1 (.str "permanent") (.int 0) (.int 0) .non (.int 0) v7))) := fun b o e => by
      rw [upd_ne (ne_of_none e nx)]
      exact s' _ _ (s0 _ _ e)
    exact k x _ s2 nx (.wrk upd_same (by kernel_rfl) (h7.same s2) o7)
  · rw [wset_ok p1 p7] at e
    cases e
/-! ### data behind a draw -/
def IsSrc (H : Hp) (a : Addr) : Prop := ∃ c n r, H a = some (.dK (src c n r))
theorem Src.is {H : Hp} {a c : Addr} {ns : List Int} {m : Int} (S : Src K H a c ns m) : IsSrc H a := by
  obtain ⟨⟨n, r, e, _⟩, _, _⟩ := S
  exact ⟨c, n, r, e⟩
theorem Src.same {H H' : Hp} {a c : Addr} {ns : List Int} {m : Int} (S : Src K H a c ns m) (s : Same H H') : Src K H' a c ns m := by
  obtain ⟨⟨n, r, e, q⟩, cs, few⟩ := S
  exact ⟨⟨n, r, s _ _ e, q⟩, cs.same s, few⟩
theorem Src.more {H : Hp} {a c : Addr} {ns : List Int} {m m2 : Int} (S : Src K H a c ns m) (h : m ≤ m2) : Src K H a c ns m2 := by
  obtain ⟨⟨n, r, e, h1, h2, h3⟩, cs, few⟩ := S
  exact ⟨⟨n, r, e, h1, by omega, h3⟩, cs, few⟩
theorem IsSrc.ne {H : Hp} {a b : Addr} {o : HO} (S : IsSrc H a) (e : H b = some o) (h : ∀ c n r, o ≠ .dK (src c n r)) : b ≠ a := by
  rintro rfl
  obtain ⟨c, n, r, z⟩ := S
  rw [z] at e
  exact h c n r (Option.some.inj e).symm
theorem But.sqL {H H' : Hp} {a b : Addr} {xs : List V} (e : But a H H') (S : IsSrc H a) (h : SqL K H b xs) : SqL K H' b xs := by
  rcases h with (h | ⟨o, h⟩) | h
  · exact .inl (.inl (e _ _ h (S.ne h fun _ _ _ z => nomatch z)))
  · exact .inl (.inr ⟨o, e _ _ h (S.ne h fun _ _ _ z => nomatch z)⟩)
  · exact .inr h
theorem But.sqT {H H' : Hp} {a b : Addr} {xs : List V} (e : But a H H') (S : IsSrc H a) (h : SqT K H b xs) : SqT K H' b xs := by
  rcases h with (h | ⟨o, h⟩) | h
  · exact .inl (.inl (e _ _ h (S.ne h fun _ _ _ z => nomatch z)))
  · exact .inl (.inr ⟨o, e _ _ h (S.ne h fun _ _ _ z => nomatch z)⟩)
  · exact .inr h
mutual
theorem Dd_but {H H' : Hp} {a : Addr} (s : But a H H') (S : IsSrc H a) : ∀ {v : V} {d : Dt}, Dd K H v d → Dd K H' v d
  | _, _, .non => .non
  | _, _, .bl b => .bl b
  | _, _, .int i => .int i
  | _, _, .str x h => .str x h
  | _, _, .lst h t => .lst (s.sqL S h) (DdAll_but s S t)
  | _, _, .tup h t => .tup (s.sqT S h) (DdAll_but s S t)
  | _, _, .dic h => .dic (s _ _ h (S.ne h fun _ _ _ z => nomatch z))
  | _, _, .wrk h l t o => .wrk (s _ _ h (S.ne h fun _ _ _ z => nomatch z)) l (Dd_but s S t) o
  | _, _, .sup h => .sup (s _ _ h (S.ne h fun _ _ _ z => nomatch z))
theorem DdAll_but {H H' : Hp} {a : Addr} (s : But a H H') (S : IsSrc H a) : ∀ {vs : List V} {ds : List Dt}, DdAll K H vs ds → DdAll K H' vs ds
  | _, _, .nil => .nil
  | _, _, .cons h t => .cons (Dd_but s S h) (DdAll_but s S t)
end
theorem Dd_all3 {G5 G6 G7 G8 : Hp} {a : Addr} {vs : List V} {ds : List Dt} (x6 : Same G5 G6) (b7 : But a G6 G7) (S : IsSrc G6 a) (x8 : Same G7 G8) (D : DdAll K G5 vs ds) : DdAll K G8 vs ds := (DdAll_but b7 S (D.same x6)).same x8
theorem cat_new {H : Hp} {l b : Addr} {xs zs : List V} {Q : VK} (h1 : H l = some (.lst xs)) (h2 : H b = some (.lst zs)) (h3 : xs.length + zs.length ≤ sizeLine) (k : ∀ p G, Same H G → G p = some (.lst (xs ++ zs)) → Q (.ref p) G) : rCat (.ref l) (.ref b) H Q :=
  ⟨l, b, xs, zs, rfl, rfl, h1, h2, h3, fun p hp => k p _ (Same.new hp) upd_same⟩
theorem i_word (d : Dt) : itemD "word" d = isWord d := by
  unfold itemD
  rw [if_neg (by decide +kernel), if_neg (by decide +kernel), if_neg (by decide +kernel), if_neg (by decide +kernel), if_neg (by decide +kernel), if_neg (by decide +kernel)]
theorem i_sent (d : Dt) : itemD "sent word" d = isSent d := by
  unfold itemD
  rw [if_pos rfl]
theorem i_value (d : Dt) : itemD "value" d = dvalD d := by
  unfold itemD
  rw [if_neg (by decide +kernel), if_pos rfl]
theorem i_ticks (d : Dt) : itemD "ticks" d = isBtw 1 1000000000 d := by
  unfold itemD
  rw [if_neg (by decide +kernel), if_neg (by decide +kernel), if_pos rfl]
theorem i_truth (d : Dt) : itemD "truth" d = isBl d := by
  unfold itemD
  rw [if_neg (by decide +kernel), if_neg (by decide +kernel), if_neg (by decide +kernel), if_pos rfl]
theorem i_reason (d : Dt) : itemD "reason" d = isGiven d := by
  unfold itemD
  rw [if_neg (by decide +kernel), if_neg (by decide +kernel), if_neg (by decide +kernel), if_neg (by decide +kernel), if_pos rfl]
theorem i_plan (d : Dt) : itemD "plan" d = planD d := by
  unfold itemD
  rw [if_neg (by decide +kernel), if_neg (by decide +kernel), if_neg (by decide +kernel), if_neg (by decide +kernel), if_neg (by decide +kernel), if_pos rfl]
/-- a deed by its items -/
theorem deed_by {x : Str} {ks : List Str} {ds : List Dt} (h : deedItems.lookup x = some ks) (h2 : itemsD ks ds = true) : deedD (.tup (.str x :: ds)) = true ∧ okDeed (.tup (.str x :: ds)) = true := by
  refine ⟨?_, rfl⟩
  simp only [deedD, h]
  exact h2
def newSc : Dt := .tup [.tup [.str "first", .str "go", .int 1, .tup []]]
theorem newSc_ok : scriptD newSc = true ∧ okSc newSc = true ∧ planD (.wrk newSc) = true ∧ isPlace (.str "new") = true := by decide +kernel
mutual
/-- no list anywhere -/
def noLst : Dt → Bool
  | .lst _ => false
  | .tup ds => noLstAll ds
  | .wrk sc => noLst sc
  | _ => true
def noLstAll : List Dt → Bool
  | [] => true
  | d :: ds => noLst d && noLstAll ds
end
mutual
theorem Dd_butL {H H' : Hp} {a : Addr} {ys : List V} (s : But a H H') (S : H a = some (.lst ys)) : ∀ {v : V} {d : Dt}, Dd K H v d → noLst d = true → Dd K H' v d
  | _, _, .non, _ => .non
  | _, _, .bl b, _ => .bl b
  | _, _, .int i, _ => .int i
  | _, _, .str x h, _ => .str x h
  | _, _, .lst h t, n => by simp [noLst] at n
  | _, _, .tup h t, n => .tup (by
      rcases h with (h | ⟨o, h⟩) | h
      · exact .inl (.inl (s _ _ h (by rintro rfl; rw [S] at h; cases h)))
      · exact .inl (.inr ⟨o, s _ _ h (by rintro rfl; rw [S] at h; cases h)⟩)
      · exact .inr h) (DdAll_butL s S t (by simpa [noLst] using n))
  | _, _, .dic h, _ => .dic (s _ _ h (by rintro rfl; rw [S] at h; cases h))
  | _, _, .wrk h l t o, n => .wrk (s _ _ h (by rintro rfl; rw [S] at h; cases h)) l (Dd_butL s S t (by simpa [noLst] using n)) o
  | _, _, .sup h, _ => .sup (s _ _ h (by rintro rfl; rw [S] at h; cases h))
theorem DdAll_butL {H H' : Hp} {a : Addr} {ys : List V} (s : But a H H') (S : H a = some (.lst ys)) : ∀ {vs : List V} {ds : List Dt}, DdAll K H vs ds → noLstAll ds = true → DdAll K H' vs ds
  | _, _, .nil, _ => .nil
  | _, _, .cons h t, n => .cons (Dd_butL s S h (by simp [noLstAll] at n; exact n.1)) (DdAll_butL s S t (by simp [noLstAll] at n; exact n.2))
end
theorem mul20 : MulOk "x" 20 ∧ Txt.mul "x" 20 = "xxxxxxxxxxxxxxxxxxxx" := by
  refine ⟨⟨by decide, fun _ _ => by decide, fun _ _ => by decide +kernel⟩, by decide +kernel⟩
theorem pow12 : (10 : Int) ^ (12 : Int).toNat = 1000000000000 := by decide
theorem get5 {α : Type} {a b c d e v : α} {j : Nat} (h : [a, b, c, d, e][j]? = some v) : v = a ∨ v = b ∨ v = c ∨ v = d ∨ v = e := by
  rcases j with _ | _ | _ | _ | _ | j <;> simp at h <;> simp [h]
theorem get4 {α : Type} {a b c d v : α} {j : Nat} (h : [a, b, c, d][j]? = some v) : v = a ∨ v = b ∨ v = c ∨ v = d := by
  rcases j with _ | _ | _ | _ | j <;> simp at h <;> simp [h]
theorem get3 {α : Type} {a b c v : α} {j : Nat} (h : [a, b, c][j]? = some v) : v = a ∨ v = b ∨ v = c := by
  rcases j with _ | _ | _ | j <;> simp at h <;> simp [h]
theorem get2 {α : Type} {a b v : α} {j : Nat} (h : [a, b][j]? = some v) : v = a ∨ v = b := by
  rcases j with _ | _ | j <;> simp at h <;> simp [h]
/-! plans behind a draw, behind a change of a list -/
/-- what stands at a is no part of a plan -/
def NoPart (H : Hp) (a : Addr) : Prop := (∃ xs, H a = some (.dK xs)) ∨ ∃ xs, H a = some (.lst xs)
theorem NoPart.ins {H : Hp} {a b C dx : Addr} {fs : List (Str × V)} (N : NoPart H a) (e : H b = some (.ins C dx fs)) : b ≠ a := by
  rintro rfl
  rcases N with ⟨xs, z⟩ | ⟨xs, z⟩ <;> (rw [z] at e; cases e)
theorem NoPart.sqT {H H' : Hp} {a b : Addr} {xs : List V} (N : NoPart H a) (s : But a H H') (h : SqT K H b xs) : SqT K H' b xs := by
  have ne : ∀ {o : HO}, H b = some o → (∀ ys, o ≠ .dK ys) → (∀ ys, o ≠ .lst ys) → b ≠ a := fun {o} e n1 n2 => by
    rintro rfl
    rcases N with ⟨ys, z⟩ | ⟨ys, z⟩ <;> (rw [z] at e; cases e)
    · exact n1 _ rfl
    · exact n2 _ rfl
  rcases h with (h | ⟨o, h⟩) | h
  · exact .inl (.inl (s _ _ h (ne h (fun _ z => nomatch z) fun _ z => nomatch z)))
  · exact .inl (.inr ⟨o, s _ _ h (ne h (fun _ z => nomatch z) fun _ z => nomatch z)⟩)
  · exact .inr h
mutual
theorem Pt_but {H H' : Hp} {a : Addr} (s : But a H H') (N : NoPart H a) : ∀ {v : V} {t : Pn}, Pt K H v t → Pt K H' v t
  | _, _, .wrk h => .wrk (s _ _ h (N.ins h))
  | _, _, .sup h l q r => .sup (s _ _ h (N.ins h)) l (N.sqT s q) (PtAll_but s N r)
theorem PtAll_but {H H' : Hp} {a : Addr} (s : But a H H') (N : NoPart H a) : ∀ {vs : List V} {ts : List Pn}, PtAll K H vs ts → PtAll K H' vs ts
  | _, _, .nil => .nil
  | _, _, .cons h t => .cons (Pt_but s N h) (PtAll_but s N t)
end
theorem IsSrc.noPart {H : Hp} {a : Addr} (S : IsSrc H a) : NoPart H a := by
  obtain ⟨c, n, r, e⟩ := S
  exact .inl ⟨_, e⟩
end
end K02
/-! SupervisorPlan(name, *children), settings by default; right plans -/
namespace K02
open PySem PySem.Spec PyProof.Rows L2
/-- looked up, one after the other; then t' -/
def KwTo {α : Type} (D : Addr) : List (Str × Value) → Sem α → Sem α → Prop
  | [], t, t' => t = t'
  | q :: l, t, t' => ∃ (β γ : Type) (k1 : Option Value → Sem β) (k2 : β → Sem γ) (k3 : γ → Sem α) (a : β), t = ((nsGet D q.1 >>= k1) >>= k2) >>= k3 ∧ k1 (some q.2) = pure a ∧ KwTo D l (k2 a >>= k3) t'
theorem KwTo.run {α : Type} {K : PySem.W.Frag} {M : Model} {D : Addr} {A : Around} {Q : α → Shared → Prop} {E : Value → Shared → Prop} {s : Shared} (X : K.In s.heap) : ∀ {l : List (Str × Value)} {t t' : Sem α}, (∀ q ∈ l, PySem.W.nsIn K D q.1 = some (some q.2)) → KwTo D l t t' → wpAny M A t' Q E s → wpAny M A t Q E s
  | [], t, t', _, e, h => by
    rw [show t = t' from e]
    exact h
  | q :: l, t, t', hl, e, h => by
    obtain ⟨β, γ, k1, k2, k3, a, e1, e2, e3⟩ := e
    have l1 : PySem.W.Looks M s.heap (nsGet D q.1 >>= k1) a := (PySem.W.looks_nsIn X (hl q (List.mem_cons_self ..))).andThen (PySem.W.Looks.of_pure e2)
    rw [e1, bind_assoc]
    exact wpAny_bind (l1.here (KwTo.run X (fun p hp => hl p (List.mem_cons_of_mem _ hp)) e3 h))
section
variable {P : Program} {w : World} {K : PySem.W.Frag} {mg : Str → Option Value} {base : Heap}
/-- the call by place: the rest are children, the settings stand by default -/
abbrev spSMadeD (K : PySem.W.Frag) : Sp := fun vs H Q E => ∃ v0 v1 rest, vs = v0 :: v1 :: rest ∧ rest.length ≤ sizeLine ∧ ∀ p, H p = none → spSInit K [v0, v1, .str "permanent", .str "one", .int 1, .int 10, .non, .ref p] (upd H p (.tup rest)) Q E
theorem ok_sinitD {fd : FuncData} (F : FunD K "__init__" "SupervisorPlan.__init__" (defArgs s_SupervisorPlan___init__) (defBody s_SupervisorPlan___init__) (defScope s_SupervisorPlan___init__) [] sDef (He.ma K (suA K) "__init__") fd) (T : Txt K mg) (W : Su K mg)
    (F_check_settings : FnQ P w K mg base (L2.CX P w) 2 "_check_settings" ["checks"] (spSettings K)) (F_is_place_name : FnQ P w K mg base CX0 2 "is_place_name" ["value"] (spChk K isPlace)) (F_is_one_of : FnQ P w K mg base CX0 1 "is_one_of" ["value", "words"] (spOne K))
    (F_is_between : FnQ P w K mg base CX0 2 "is_between" ["value", "low", "high"] (spBtw K)) (F_is_deadline : FnQ P w K mg base CX0 3 "_is_deadline" ["value"] (spChk K deadD)) (F_check_children : FnQ P w K mg base (L2.CX P w) 24 "_check_children" ["children"] (spKids K)) :
    FnR P w K mg base (L2.CX P w) 25 (He.ma K (suA K) "__init__") (spSMadeD K) := by
  obtain ⟨oc, od, dV, kV, doc, pm, an, cdv, ct, osl, rfl, lk, hcd, hD, hK⟩ := F.ex
  rcases hD with ⟨_, rfl⟩ | ⟨e, _⟩
  rotate_left
  · exact absurd rfl e
  rcases hK with e | ⟨D, rfl, hq⟩
  · cases e
  obtain ⟨mv, hl, rk, hks⟩ := kwd_vals hq
  intro A outer s H us vs Q E hr e0 r hsp
  obtain ⟨v0, v1, rest, rfl, hz, k⟩ := hsp
  cases r with
  | cons r0 r =>
  cases r with
  | cons r1 r2 =>
  rename_i u0 u1 ur
  have hn : H s.heap.objs.size = none := e0.hok.fresh (Nat.le_refl _)
  have n2 : ur.length ≤ sizeLine := by rw [← r2.length]; exact hz
  refine StX.run_bnd (N := N_SupervisorPlan___init__) (ps := ["self", "name", "restart", "strategy", "most", "span", "deadline", "children"]) lk hcd sc_SupervisorPlan___init__ hr e0 (G := fun xs H2 => ∃ p, H p = none ∧ xs = [v0, v1, .str "permanent", .str "one", .int 1, .int 10, .non, .ref p] ∧ H2 = upd H p (.tup rest)) (fun A' Ex Q' h => ?_) fun s2 H2 xs ⟨p, hp, ex, eH⟩ hr' => ?_
  · have kin : K.In s.heap := e0.mod.kin.keeps fun b o e => (e0.bs b o e).1
    have new : ObjOk P w (upd H s.heap.objs.size (.tup rest)) (s.heap.push ({ cls := .type "tuple", data := .seq ur.toArray } : Obj)) s.heap.objs.size (.tup rest) := ⟨hz, ur, r2, ⟨_, Heap.get?_push_size _ rfl, rfl, _, rfl⟩⟩
    have un := StX.un_laid (fs := frs outer) (s := s) (o := ({ cls := .type "tuple", data := .seq ur.toArray } : Obj)) (u := .tup rest) hn
    match mv, hl with
    | [w1, w2, w3, w4, w5], _ =>
      have z := h _ _ [v0, v1, .str "permanent", .str "one", .int 1, .int 10, .non, .ref s.heap.objs.size] [u0, u1, w1, w2, w3, w4, w5, .ref s.heap.objs.size] (StX.env0_laid e0 new) un rfl (fun e s' => StX.cxUp outer s H _ _ E e s' un (fun b o q => Heap.get?_push_of_some _ q) rfl)
        (.cons r0 (.cons r1 (rk.append (.cons rfl .nil)))) rfl ⟨_, hn, rfl, rfl⟩
      cases ur with
      | nil =>
        refine KwTo.run (t' := newTuple [] >>= fun t => pure [("self", u0), ("name", u1), ("restart", w1), ("strategy", w2), ("most", w3), ("span", w4), ("deadline", w5), ("children", t)]) kin hks ⟨_, _, _, _, _, _, rfl, rfl, _, _, _, _, _, _, rfl, rfl, _, _, _, _, _, _, rfl, rfl, _, _, _, _, _, _, rfl, rfl, _, _, _, _, _, _, rfl, rfl, rfl⟩ ?_
        exact wpAny_bind (wpAny_newTuple (wpAny_pure z) n2)
      | cons y ys =>
        refine KwTo.run (t' := newTuple (y :: ys) >>= fun t => pure [("self", u0), ("name", u1), ("restart", w1), ("strategy", w2), ("most", w3), ("span", w4), ("deadline", w5), ("children", t)]) kin hks ⟨_, _, _, _, _, _, rfl, rfl, _, _, _, _, _, _, rfl, rfl, _, _, _, _, _, _, rfl, rfl, _, _, _, _, _, _, rfl, rfl, _, _, _, _, _, _, rfl, rfl, rfl⟩ ?_
        exact wpAny_bind (wpAny_newTuple (wpAny_pure z) n2)
  · subst ex eH
    exact sup_body T W hr' F_check_settings F_is_place_name F_is_one_of F_is_between F_is_deadline F_check_children (k p hp)
/-! ### right plans -/
theorem firstKid_ok : ∀ (ts : List Pn) (i m : Nat), i + ts.length ≤ 12 → m + Pn.sizes ts ≤ 200 → Pn.lvs ts + 1 ≤ 20 → firstKid i m (ts.map .pn) = none
  | [], _, _, _, _, _ => by rw [List.map_nil, firstKid]
  | t :: ts, i, m, h1, h2, h3 => by
    unfold Pn.sizes at h2
    unfold Pn.lvs at h3
    rw [List.length_cons] at h1
    rw [List.map_cons, firstKid_pn, if_neg (by omega), if_neg (by omega), if_neg (by omega)]
    exact firstKid_ok ts (i + 1) (m + t.size) (by omega) (by omega) (by omega)
theorem kids_of {H : Hp} : ∀ {vs : List V} {ts : List Pn}, PtAll K H vs ts → Pn.lvs ts ≤ 20 → Pn.sizes ts ≤ 100000 → KidAll K H vs (ts.map .pn)
  | _, _, .nil, _, _ => .nil
  | _, _, .cons h r, h1, h2 => by
    unfold Pn.lvs at h1
    unfold Pn.sizes at h2
    exact .cons (.pn h (by omega) (by omega)) (kids_of r (by omega) (by omega))
/-- a new plan, all of it right -/
theorem right_sup {H : Hp} {v1 v2 v3 v4 v5 v6 : V} {d1 d2 d3 d4 d5 d6 : Dt} {rest : List V} {ts : List Pn} {Q : Addr → Hp → Prop} {E : XK} (h1 : Dd K H v1 d1) (h2 : Dd K H v2 d2) (h3 : Dd K H v3 d3) (h4 : Dd K H v4 d4) (h5 : Dd K H v5 d5) (h6 : Dd K H v6 d6) (fb : firstBad (sset d1 d2 d3 d4 d5 d6) = none)
    (hr : PtAll K H rest ts) (n : ts.length ≤ 12) (sz : 1 + Pn.sizes ts ≤ 200) (lv : Pn.lvs ts + 1 ≤ 20) (k : ∀ x H', Same H H' → H x = none → Pt K H' (.ref x) (.sup ts) → Q x H') :
    ∀ x dx, H x = none → H dx = none → dx ≠ x → ∀ p, (upd (upd H dx (.own x)) x (.ins (suA K) dx [])) p = none →
      spSInit K [.ref x, v1, v2, v3, v4, v5, v6, .ref p] (upd (upd (upd H dx (.own x)) x (.ins (suA K) dx [])) p (.tup rest)) (fun v H3 => v = .non ∧ Q x H3) E := by
  intro x dx nx nd ne p np
  have s0 : Same H (upd (upd H dx (.own x)) x (.ins (suA K) dx [])) := (Same.new nd).trans (Same.new (by rw [upd_ne (Ne.symm ne)]; exact nx))
  have px : p ≠ x := fun z => by rw [z, upd_same] at np; cases np
  have s1 := s0.trans (Same.new (o := HO.tup rest) np)
  have fk := firstKid_ok ts 0 1 (by omega) sz lv
  refine ⟨x, dx, v1, v2, v3, v4, v5, v6, d1, d2, d3, d4, d5, d6, p, rest, ts.map .pn, rfl, by rw [upd_ne (Ne.symm px)]; exact upd_same, h1.same s1, h2.same s1, h3.same s1, h4.same s1, h5.same s1, h6.same s1, SqT.of upd_same, kids_of (hr.same s1) (by omega) (by omega),
    fun _ _ H' s' => ⟨rfl, ?_⟩, fun y e => ?_, fun _ i e => ?_⟩
  · have s2 : ∀ fs, Same H (upd H' x (.ins (suA K) dx fs)) := fun fs => same_putN (s1.trans s') nx
    have at_p : ∀ fs, upd H' x (.ins (suA K) dx fs) p = some (.tup rest) := fun fs => by rw [upd_ne px]; exact s' _ _ upd_same
    exact k x _ (s2 _) nx (.sup upd_same (by kernel_rfl) (SqT.of (at_p _)) (hr.same (s2 _)))
  · rw [fb] at e; cases e
  · rw [fk] at e; cases e
theorem right_supD {H : Hp} {v1 : V} {d1 : Dt} {rest : List V} {ts : List Pn} {Q : Addr → Hp → Prop} {E : XK} (h1 : Dd K H v1 d1) (p1 : isPlace d1 = true) (hr : PtAll K H rest ts) (n : ts.length ≤ 12) (sz : 1 + Pn.sizes ts ≤ 200) (lv : Pn.lvs ts + 1 ≤ 20) (k : ∀ x H', Same H H' → H x = none → Pt K H' (.ref x) (.sup ts) → Q x H') :
    ∀ x dx, H x = none → H dx = none → dx ≠ x → spSMadeD K (.ref x :: v1 :: rest) (upd (upd H dx (.own x)) x (.ins (suA K) dx [])) (fun v H3 => v = .non ∧ Q x H3) E := by
  intro x dx nx nd ne
  have lr : rest.length ≤ sizeLine := by
    have : rest.length = ts.length := hr.len
    exact Nat.le_trans (show rest.length ≤ 12 by omega) (by decide)
  exact ⟨_, _, rest, rfl, lr, right_sup h1 (.str "permanent") (.str "one") (.int 1) (.int 10) .non (by
    unfold sset
    rw [p1]
    decide +kernel) hr n sz lv k x dx nx nd ne⟩
end
end K02
/-! _law_deep -/
namespace K02
open PySem PySem.Spec PyProof.Rows L2
def chain : Nat → Pn
  | 0 => .wrk
  | n + 1 => .sup [chain n]
theorem chain_size : ∀ n, (chain n).size = n + 1
  | 0 => rfl
  | n + 1 => by
    show 1 + ((chain n).size + 0) = n + 1 + 1
    rw [chain_size n]; omega
theorem chain_lv : ∀ n, (chain n).lv = n + 1
  | 0 => rfl
  | n + 1 => by
    show 1 + max (chain n).lv 0 = n + 1 + 1
    rw [chain_lv n]; omega
theorem pt_of {K : PySem.W.Frag} {H : Hp} {v : V} {sc : Dt} (h : Dd K H v (.wrk sc)) : Pt K H v .wrk := by
  cases h with
  | wrk e _ _ _ => exact .wrk e
section
variable {P : Program} {w : World} {K : PySem.W.Frag} {mg : Str → Option Value} {base : Heap}
theorem wk_bind0 {dS : Addr} {fd : FuncData} (F : FunD K "__init__" "WorkerPlan.__init__" (defArgs s_WorkerPlan___init__) (defBody s_WorkerPlan___init__) (defScope s_WorkerPlan___init__) [] (wDef dS) (He.ma K (wkA K) "__init__") fd) :
    ∃ mv : List Value, KBn K fd wPs 2 [] (fun us ws => us ++ mv ++ ws) (fun vs zs => vs ++ [.str "permanent", .int 0, .int 0, .non, .int 0, .ref dS] ++ zs) := by
  refine F.kbinds0 2 [] (wDef dS) (fun a b c => a ++ b ++ c) (by simp [wDef]) (by simp [wDef]) (fun r1 r2 r3 => (r1.append r2).append r3) ?_
  intro D doc pm an cdv ct us mv ws l1 l2 l3
  match us, mv, ws, l1, l2, l3 with
  | [_, _], [_, _, _, _, _, _], [], _, _, _ => exact ⟨_, _, _, _, _, _, rfl, rfl, _, _, _, _, _, _, rfl, rfl, _, _, _, _, _, _, rfl, rfl, _, _, _, _, _, _, rfl, rfl, _, _, _, _, _, _, rfl, rfl, _, _, _, _, _, _, rfl, rfl, rfl⟩
abbrev s_law_deep : Stmt := (top 75)
def N_law_deep : List Str := ["many", "plan", "k"]
theorem sc_law_deep : FnScope N_law_deep ["many"] (defScope s_law_deep) := ⟨rfl, rfl, rfl, by decide +kernel, rfl, by decide +kernel, by decide +kernel⟩
/-- n + 1 plans, one below the other -/
def spDeep (K : PySem.W.Frag) : Sp := fun vs H Q _ => ∃ n : Nat, vs = [.int ((n + 1 : Nat))] ∧ n ≤ 19 ∧ ∀ v H', Same H H' → Pt K H' v (chain n) → Q v H'
theorem ok_deep {fd : FuncData} {mv0 : List Value} {dS : Addr} (F : Has K mg "_law_deep" s_law_deep) (T : Txt K mg) (W : Wk K mg) (WS : Su K mg) (FW : FnOk P w K mg base (L2.CX P w) 11 (He.ma K (wkA K) "__init__") fd wPs (spWInit K)) (FS : FnR P w K mg base (L2.CX P w) 25 (He.ma K (suA K) "__init__") (spSMadeD K))
    (hb0 : KBn K fd wPs 2 [] (fun us ws => us ++ mv0 ++ ws) (fun vs zs => vs ++ [.str "permanent", .int 0, .int 0, .non, .int 0, .ref dS] ++ zs)) (hds : ∀ H, SqT K H dS []) : FnQ P w K mg base CX0 27 "_law_deep" ["many"] (spDeep K) := by
  refine F.q sc_law_deep (fun _ _ _ _ _ _ us hl => match us, hl with | [_], _ => rfl) (fun vs H Q E h => by obtain ⟨_, rfl, _⟩ := h; rfl) (fun cdv A outer s H vs Q E hr h => ?_)
  obtain ⟨n, rfl, hn, k⟩ := h
  refine ⟨_, PSs.nox (pss_cons (ps_set (i := 1) sc_law_deep.nd rfl (by first | exact .inl rfl | exact .inr rfl) (pe_makeN W.mkr FW (hr.mono (by decide)) rfl W.gl hb0 passNo (pa_cons pe_str pa_nil) pk_nil))
  (pss_cons (ps_for PassesOwn.never rfl (pi_range1 (by rfl) (T.fr "range" (by simp [frees])) (pa_cons (pe_op op_sub (pv 0) pe_int) pa_nil)) (pg_name (i := 2) sc_law_deep.nd rfl (by first | exact .inl rfl | exact .inr rfl))
  (pss_one (ps_set (i := 1) sc_law_deep.nd rfl (by first | exact .inl rfl | exact .inr rfl) (StX.pe_makeR WS.mkr FS hr rfl WS.gl passNo (pa_cons pe_str (pa_cons (pv 1) pa_nil))))))
  (pss_one (ps_ret (pv 1))))), ?_⟩
  refine ⟨rfl, rfl, right_wk (d1 := .str "k") (d7 := .tup []) (.str "k") (by decide +kernel) (.tup (hds H) .nil) (by decide +kernel) (by decide +kernel) fun x H1 s1 n1 hx => ?_⟩
  have nn : ((n + 1 : Nat) : Int) - 1 = (n : Nat) := by omega
  refine ⟨_, rfl, _, _, rfl, rfl, ((n : Nat) : Int), congrArg (fun z => [V.int z]) nn, by omega, by omega, for_range (n := n) (fun i σ G => (∃ v v2, σ = [some (.int ((n + 1 : Nat))), some v, v2] ∧ Pt K G v (chain i)) ∧ Same H G) ⟨⟨_, none, rfl, pt_of hx⟩, s1⟩ ?_ ?_⟩
  · rintro i σ G hi ⟨⟨v, v2, rfl, hv⟩, s2⟩
    refine ⟨_, rfl, right_supD (d1 := .str "k") (.str "k") (by decide +kernel) (.cons hv .nil) (by show 1 ≤ 12; decide) ?_ ?_ fun x G2 s3 _ hp => ⟨⟨_, _, rfl, hp⟩, s2.trans s3⟩⟩
    · show 1 + ((chain i).size + 0) ≤ 200
      rw [chain_size]; omega
    · show max (chain i).lv 0 + 1 ≤ 20
      rw [chain_lv]; omega
  · rintro σ G ⟨⟨v, v2, rfl, hv⟩, s2⟩
    exact ⟨_, rfl, k v G s2 hv⟩
end
end K02
/-! _law_sup: SupervisorPlan with none to thirteen children -/
namespace K02
open PySem PySem.Spec PyProof.Rows L2
theorem kid_pt {K : PySem.W.Frag} {H : Hp} : ∀ {vs : List V} {ks : List Kid}, KidAll K H vs ks → ∀ ts, ks = ts.map Kid.pn → PtAll K H vs ts
  | _, _, .nil, ts, e => by
    cases ts with
    | nil => exact .nil
    | cons _ _ => cases e
  | _, _, .cons h r, ts, e => by
    cases ts with
    | nil => cases e
    | cons t ts =>
      rw [List.map_cons] at e
      injection e with e1 e2
      subst e1
      cases h with
      | pn h _ _ => exact .cons h (kid_pt r ts e2)
section
variable {P : Program} {w : World} {K : PySem.W.Frag} {mg : Str → Option Value} {base : Heap}
/-- what becomes of a call: a plan, or the error due -/
structure Outs (K : PySem.W.Frag) (H : Hp) (d1 d2 d3 d4 d5 d6 : Dt) (ks : List Kid) (Q : Addr → Hp → Prop) (E : XK) : Prop where
  ok : firstBad (sset d1 d2 d3 d4 d5 d6) = none → firstKid 0 1 ks = none → ∀ x H', Same H H' → (∀ ts, ks = ts.map Kid.pn → Pt K H' (.ref x) (.sup ts)) → Q x H'
  set : ∀ y, firstBad (sset d1 d2 d3 d4 d5 d6) = some y → ∀ e H', Same H H' → H e = none → H' e = some (.xd [("setting", .str y)]) → E (.ref (He.ga K "BadSetting")) (some e) H'
  kid : firstBad (sset d1 d2 d3 d4 d5 d6) = none → ∀ i, firstKid 0 1 ks = some i → ∀ e H', Same H H' → H e = none → H' e = some (.xd [("index", .int (i : Nat))]) → E (.ref (He.ga K "BadChild")) (some e) H'
theorem none_back {H G : Hp} {e : Addr} (s : Same H G) (n : G e = none) : H e = none := by
  cases q : H e with
  | none => rfl
  | some o => rw [s _ _ q] at n; cases n
theorem Outs.same {H G : Hp} {d1 d2 d3 d4 d5 d6 : Dt} {ks : List Kid} {Q : Addr → Hp → Prop} {E : XK} (O : Outs K H d1 d2 d3 d4 d5 d6 ks Q E) (s : Same H G) : Outs K G d1 d2 d3 d4 d5 d6 ks Q E :=
  ⟨fun a b x H' t p => O.ok a b x H' (s.trans t) p, fun y a e H' t n x => O.set y a e H' (s.trans t) (none_back s n) x, fun a i b e H' t n x => O.kid a i b e H' (s.trans t) (none_back s n) x⟩
theorem any_sup {H : Hp} {v1 v2 v3 v4 v5 v6 : V} {d1 d2 d3 d4 d5 d6 : Dt} {rest : List V} {ks : List Kid} {Q : Addr → Hp → Prop} {E : XK} (h1 : Dd K H v1 d1) (h2 : Dd K H v2 d2) (h3 : Dd K H v3 d3) (h4 : Dd K H v4 d4) (h5 : Dd K H v5 d5) (h6 : Dd K H v6 d6)
    (hk : KidAll K H rest ks) (n : rest.length ≤ 13) (O : Outs K H d1 d2 d3 d4 d5 d6 ks Q E) :
    ∀ x dx, H x = none → H dx = none → dx ≠ x → spSMade K (.ref x :: v1 :: rest) [v2, v3, v4, v5, v6] (upd (upd H dx (.own x)) x (.ins (suA K) dx [])) (fun v H3 => v = .non ∧ Q x H3) E := by
  intro x dx nx nd ne
  refine ⟨[.ref x, v1], rest, rfl, rfl, Nat.le_trans n (by decide), fun p np => ?_⟩
  have s0 : Same H (upd (upd H dx (.own x)) x (.ins (suA K) dx [])) := (Same.new nd).trans (Same.new (by rw [upd_ne (Ne.symm ne)]; exact nx))
  have px : p ≠ x := fun z => by rw [z, upd_same] at np; cases np
  have s1 := s0.trans (Same.new (o := HO.tup rest) np)
  refine ⟨x, dx, v1, v2, v3, v4, v5, v6, d1, d2, d3, d4, d5, d6, p, rest, ks, rfl, by rw [upd_ne (Ne.symm px)]; exact upd_same, h1.same s1, h2.same s1, h3.same s1, h4.same s1, h5.same s1, h6.same s1, SqT.of upd_same, hk.same s1,
    fun a b H' s' => ⟨rfl, O.ok a b x _ (same_putN (s1.trans s') nx) fun ts e => ?_⟩, fun y a e H' s' n2 x2 => O.set y a e H' (s1.trans s') (none_back s1 n2) x2, fun a i b e H' s' n2 x2 => O.kid a i b e H' (s1.trans s') (none_back s1 n2) x2⟩
  have at_p : ∀ fs, upd H' x (.ins (suA K) dx fs) p = some (.tup rest) := fun fs => by rw [upd_ne px]; exact s' _ _ upd_same
  exact .sup upd_same (by kernel_rfl) (SqT.of (at_p _)) ((kid_pt hk ts e).same (same_putN (s1.trans s') nx))
/-- _law_sup and what it hands on -/
def spSupL (K : PySem.W.Frag) (lo : Nat) : Sp := fun vs H Q E => ∃ v1 v2 v3 v4 v5 v6 d1 d2 d3 d4 d5 d6 c sA xs ks, vs = [v1, .ref c, .ref sA] ∧ H c = some (.lst xs) ∧ H sA = some (.lst [v2, v3, v4, v5, v6]) ∧ lo ≤ xs.length ∧ xs.length ≤ 13 ∧
  Dd K H v1 d1 ∧ Dd K H v2 d2 ∧ Dd K H v3 d3 ∧ Dd K H v4 d4 ∧ Dd K H v5 d5 ∧ Dd K H v6 d6 ∧ KidAll K H xs ks ∧ Outs K H d1 d2 d3 d4 d5 d6 ks (fun x H' => Q (.ref x) H') E
abbrev s_law_greatest : Stmt := (top 70)
def N_law_greatest : List Str := ["label", "c", "s", "a", "b", "d", "e", "f", "many"]
theorem sc_law_greatest : FnScope N_law_greatest ["label", "c", "s"] (defScope s_law_greatest) := ⟨rfl, rfl, rfl, by decide +kernel, rfl, by decide +kernel, by decide +kernel⟩
abbrev s_law_greater : Stmt := (top 71)
def N_law_greater : List Str := ["label", "c", "s", "a", "b", "d", "e", "f", "many"]
theorem sc_law_greater : FnScope N_law_greater ["label", "c", "s"] (defScope s_law_greater) := ⟨rfl, rfl, rfl, by decide +kernel, rfl, by decide +kernel, by decide +kernel⟩
abbrev s_law_sup : Stmt := (top 72)
def N_law_sup : List Str := ["label", "c", "s", "a", "b", "d", "e", "f", "many"]
theorem sc_law_sup : FnScope N_law_sup ["label", "c", "s"] (defScope s_law_sup) := ⟨rfl, rfl, rfl, by decide +kernel, rfl, by decide +kernel, by decide +kernel⟩
theorem ok_law_greatest (F : Has K mg "_law_greatest" s_law_greatest) (T : Txt K mg) (WS : Su K mg) (FS : FnRK P w K mg base (L2.CX P w) 25 (He.ma K (suA K) "__init__") sKs (spSMade K)) :
    FnQ P w K mg base (L2.CX P w) 27 "_law_greatest" ["label", "c", "s"] (spSupL K 9) := by
  refine F.q sc_law_greatest (fun _ _ _ _ _ _ us hl => match us, hl with | [_, _, _], _ => rfl) (fun vs H Q E h => by obtain ⟨_, _, _, _, _, _, _, _, _, _, _, _, _, _, _, _, rfl, _⟩ := h; rfl) (fun cdv A outer s H vs Q E hr h => ?_)
  obtain ⟨v1, v2, v3, v4, v5, v6, d1, d2, d3, d4, d5, d6, c, sA, xs, ks, rfl, hc, hs, n1, n2, h1, h2, h3, h4, h5, h6, hk, O⟩ := h
  have gL : mg "len" = none := T.fr _ (by simp [frees])
  refine ⟨_, (pss_cons (ps_asg (pv 2) (pg_lst rfl (pgs_cons (pg_name (i := 3) sc_law_greatest.nd rfl (.inl rfl)) (pgs_cons (pg_name (i := 4) sc_law_greatest.nd rfl (.inl rfl)) (pgs_cons (pg_name (i := 5) sc_law_greatest.nd rfl (.inl rfl)) (pgs_cons (pg_name (i := 6) sc_law_greatest.nd rfl (.inl rfl)) (pgs_cons (pg_name (i := 7) sc_law_greatest.nd rfl (.inl rfl)) pgs_nil)))))))
  (pss_cons (ps_set (i := 8) sc_law_greatest.nd rfl (by first | exact .inl rfl | exact .inr rfl) (pe_callB call_len_seq (by rfl) gL boot_len (pa_cons (pv 1) pa_nil)))
  (pss_cons (ps_if (pt_cmpR op_eq (pv 8) pe_int (by first | exact nomark _ | rfl))
  (pss_one (ps_ret (pe_makeRK WS.mkr FS (hr.mono (by decide)) rfl WS.gl (passes_call (takes_of rfl rfl rfl rfl) fun _ _ _ _ h => h) (pa_cons (pv 0) (pa_cons (pe_ix ix_list (pv 1) pe_int (fun _ _ => rfl)) (pa_cons (pe_ix ix_list (pv 1) pe_int (fun _ _ => rfl)) (pa_cons (pe_ix ix_list (pv 1) pe_int (fun _ _ => rfl)) (pa_cons (pe_ix ix_list (pv 1) pe_int (fun _ _ => rfl)) (pa_cons (pe_ix ix_list (pv 1) pe_int (fun _ _ => rfl)) (pa_cons (pe_ix ix_list (pv 1) pe_int (fun _ _ => rfl)) (pa_cons (pe_ix ix_list (pv 1) pe_int (fun _ _ => rfl)) (pa_cons (pe_ix ix_list (pv 1) pe_int (fun _ _ => rfl)) (pa_cons (pe_ix ix_list (pv 1) pe_int (fun _ _ => rfl)) pa_nil)))))))))) (pk_cons (pv 3) (pk_cons (pv 4) (pk_cons (pv 5) (pk_cons (pv 6) (pk_cons (pv 7) pk_nil))))))))
  pss_nil)
  (pss_cons (ps_if (pt_cmpR op_eq (pv 8) pe_int (by first | exact nomark _ | rfl))
  (pss_one (ps_ret (pe_makeRK WS.mkr FS (hr.mono (by decide)) rfl WS.gl (passes_call (takes_of rfl rfl rfl rfl) fun _ _ _ _ h => h) (pa_cons (pv 0) (pa_cons (pe_ix ix_list (pv 1) pe_int (fun _ _ => rfl)) (pa_cons (pe_ix ix_list (pv 1) pe_int (fun _ _ => rfl)) (pa_cons (pe_ix ix_list (pv 1) pe_int (fun _ _ => rfl)) (pa_cons (pe_ix ix_list (pv 1) pe_int (fun _ _ => rfl)) (pa_cons (pe_ix ix_list (pv 1) pe_int (fun _ _ => rfl)) (pa_cons (pe_ix ix_list (pv 1) pe_int (fun _ _ => rfl)) (pa_cons (pe_ix ix_list (pv 1) pe_int (fun _ _ => rfl)) (pa_cons (pe_ix ix_list (pv 1) pe_int (fun _ _ => rfl)) (pa_cons (pe_ix ix_list (pv 1) pe_int (fun _ _ => rfl)) (pa_cons (pe_ix ix_list (pv 1) pe_int (fun _ _ => rfl)) pa_nil))))))))))) (pk_cons (pv 3) (pk_cons (pv 4) (pk_cons (pv 5) (pk_cons (pv 6) (pk_cons (pv 7) pk_nil))))))))
  pss_nil)
  (pss_cons (ps_if (pt_cmpR op_eq (pv 8) pe_int (by first | exact nomark _ | rfl))
  (pss_one (ps_ret (pe_makeRK WS.mkr FS (hr.mono (by decide)) rfl WS.gl (passes_call (takes_of rfl rfl rfl rfl) fun _ _ _ _ h => h) (pa_cons (pv 0) (pa_cons (pe_ix ix_list (pv 1) pe_int (fun _ _ => rfl)) (pa_cons (pe_ix ix_list (pv 1) pe_int (fun _ _ => rfl)) (pa_cons (pe_ix ix_list (pv 1) pe_int (fun _ _ => rfl)) (pa_cons (pe_ix ix_list (pv 1) pe_int (fun _ _ => rfl)) (pa_cons (pe_ix ix_list (pv 1) pe_int (fun _ _ => rfl)) (pa_cons (pe_ix ix_list (pv 1) pe_int (fun _ _ => rfl)) (pa_cons (pe_ix ix_list (pv 1) pe_int (fun _ _ => rfl)) (pa_cons (pe_ix ix_list (pv 1) pe_int (fun _ _ => rfl)) (pa_cons (pe_ix ix_list (pv 1) pe_int (fun _ _ => rfl)) (pa_cons (pe_ix ix_list (pv 1) pe_int (fun _ _ => rfl)) (pa_cons (pe_ix ix_list (pv 1) pe_int (fun _ _ => rfl)) pa_nil)))))))))))) (pk_cons (pv 3) (pk_cons (pv 4) (pk_cons (pv 5) (pk_cons (pv 6) (pk_cons (pv 7) pk_nil))))))))
  pss_nil)
  (pss_cons (ps_if (pt_cmpR op_eq (pv 8) pe_int (by first | exact nomark _ | rfl))
  (pss_one (ps_ret (pe_makeRK WS.mkr FS (hr.mono (by decide)) rfl WS.gl (passes_call (takes_of rfl rfl rfl rfl) fun _ _ _ _ h => h) (pa_cons (pv 0) (pa_cons (pe_ix ix_list (pv 1) pe_int (fun _ _ => rfl)) (pa_cons (pe_ix ix_list (pv 1) pe_int (fun _ _ => rfl)) (pa_cons (pe_ix ix_list (pv 1) pe_int (fun _ _ => rfl)) (pa_cons (pe_ix ix_list (pv 1) pe_int (fun _ _ => rfl)) (pa_cons (pe_ix ix_list (pv 1) pe_int (fun _ _ => rfl)) (pa_cons (pe_ix ix_list (pv 1) pe_int (fun _ _ => rfl)) (pa_cons (pe_ix ix_list (pv 1) pe_int (fun _ _ => rfl)) (pa_cons (pe_ix ix_list (pv 1) pe_int (fun _ _ => rfl)) (pa_cons (pe_ix ix_list (pv 1) pe_int (fun _ _ => rfl)) (pa_cons (pe_ix ix_list (pv 1) pe_int (fun _ _ => rfl)) (pa_cons (pe_ix ix_list (pv 1) pe_int (fun _ _ => rfl)) (pa_cons (pe_ix ix_list (pv 1) pe_int (fun _ _ => rfl)) pa_nil))))))))))))) (pk_cons (pv 3) (pk_cons (pv 4) (pk_cons (pv 5) (pk_cons (pv 6) (pk_cons (pv 7) pk_nil))))))))
  pss_nil)
  (pss_one (ps_ret (pe_makeRK WS.mkr FS (hr.mono (by decide)) rfl WS.gl (passes_call (takes_of rfl rfl rfl rfl) fun _ _ _ _ h => h) (pa_cons (pv 0) (pa_cons (pe_ix ix_list (pv 1) pe_int (fun _ _ => rfl)) (pa_cons (pe_ix ix_list (pv 1) pe_int (fun _ _ => rfl)) (pa_cons (pe_ix ix_list (pv 1) pe_int (fun _ _ => rfl)) (pa_cons (pe_ix ix_list (pv 1) pe_int (fun _ _ => rfl)) (pa_cons (pe_ix ix_list (pv 1) pe_int (fun _ _ => rfl)) (pa_cons (pe_ix ix_list (pv 1) pe_int (fun _ _ => rfl)) (pa_cons (pe_ix ix_list (pv 1) pe_int (fun _ _ => rfl)) (pa_cons (pe_ix ix_list (pv 1) pe_int (fun _ _ => rfl)) (pa_cons (pe_ix ix_list (pv 1) pe_int (fun _ _ => rfl)) (pa_cons (pe_ix ix_list (pv 1) pe_int (fun _ _ => rfl)) (pa_cons (pe_ix ix_list (pv 1) pe_int (fun _ _ => rfl)) (pa_cons (pe_ix ix_list (pv 1) pe_int (fun _ _ => rfl)) (pa_cons (pe_ix ix_list (pv 1) pe_int (fun _ _ => rfl)) pa_nil)))))))))))))) (pk_cons (pv 3) (pk_cons (pv 4) (pk_cons (pv 5) (pk_cons (pv 6) (pk_cons (pv 7) pk_nil)))))))))))))), ?_⟩
  refine ⟨_, rfl, sA, _, rfl, SqL.of hs, rfl, _, _, rfl, _, _, rfl, _, _, rfl, _, _, rfl, _, _, rfl, rfl, _, rfl, c, xs, rfl, .inl (SqL.of hc), ?_⟩
  match xs, n1, n2, hc, hk with
  | [x0, x1, x2, x3, x4, x5, x6, x7, x8], n1, n2, hc, hk =>
    exact ⟨_, rfl, rfl, _, rfl, if_yes (by show decide (V.int (9 : Int) = V.int (9 : Int)) = true; decide) ⟨_, rfl, _, rfl, c, _, _, _, rfl, rfl, SqL.of hc, atI_nat rfl, _, rfl, c, _, _, _, rfl, rfl, SqL.of hc, atI_nat rfl, _, rfl, c, _, _, _, rfl, rfl, SqL.of hc, atI_nat rfl, _, rfl, c, _, _, _, rfl, rfl, SqL.of hc, atI_nat rfl, _, rfl, c, _, _, _, rfl, rfl, SqL.of hc, atI_nat rfl, _, rfl, c, _, _, _, rfl, rfl, SqL.of hc, atI_nat rfl, _, rfl, c, _, _, _, rfl, rfl, SqL.of hc, atI_nat rfl, _, rfl, c, _, _, _, rfl, rfl, SqL.of hc, atI_nat rfl, _, rfl, c, _, _, _, rfl, rfl, SqL.of hc, atI_nat rfl, _, rfl, _, rfl, _, rfl, _, rfl, _, rfl, rfl, any_sup h1 h2 h3 h4 h5 h6 hk (by show 9 ≤ 13; decide) O⟩⟩
  | [x0, x1, x2, x3, x4, x5, x6, x7, x8, x9], n1, n2, hc, hk =>
    refine ⟨_, rfl, rfl, _, rfl, if_no (by show decide (V.int (10 : Int) = V.int (9 : Int)) = false; decide) ?_⟩
    exact ⟨_, rfl, rfl, _, rfl, if_yes (by show decide (V.int (10 : Int) = V.int (10 : Int)) = true; decide) ⟨_, rfl, _, rfl, c, _, _, _, rfl, rfl, SqL.of hc, atI_nat rfl, _, rfl, c, _, _, _, rfl, rfl, SqL.of hc, atI_nat rfl, _, rfl, c, _, _, _, rfl, rfl, SqL.of hc, atI_nat rfl, _, rfl, c, _, _, _, rfl, rfl, SqL.of hc, atI_nat rfl, _, rfl, c, _, _, _, rfl, rfl, SqL.of hc, atI_nat rfl, _, rfl, c, _, _, _, rfl, rfl, SqL.of hc, atI_nat rfl, _, rfl, c, _, _, _, rfl, rfl, SqL.of hc, atI_nat rfl, _, rfl, c, _, _, _, rfl, rfl, SqL.of hc, atI_nat rfl, _, rfl, c, _, _, _, rfl, rfl, SqL.of hc, atI_nat rfl, _, rfl, c, _, _, _, rfl, rfl, SqL.of hc, atI_nat rfl, _, rfl, _, rfl, _, rfl, _, rfl, _, rfl, rfl, any_sup h1 h2 h3 h4 h5 h6 hk (by show 10 ≤ 13; decide) O⟩⟩
  | [x0, x1, x2, x3, x4, x5, x6, x7, x8, x9, x10], n1, n2, hc, hk =>
    refine ⟨_, rfl, rfl, _, rfl, if_no (by show decide (V.int (11 : Int) = V.int (9 : Int)) = false; decide) ?_⟩
    refine ⟨_, rfl, rfl, _, rfl, if_no (by show decide (V.int (11 : Int) = V.int (10 : Int)) = false; decide) ?_⟩
    exact ⟨_, rfl, rfl, _, rfl, if_yes (by show decide (V.int (11 : Int) = V.int (11 : Int)) = true; decide) ⟨_, rfl, _, rfl, c, _, _, _, rfl, rfl, SqL.of hc, atI_nat rfl, _, rfl, c, _, _, _, rfl, rfl, SqL.of hc, atI_nat rfl, _, rfl, c, _, _, _, rfl, rfl, SqL.of hc, atI_nat rfl, _, rfl, c, _, _, _, rfl, rfl, SqL.of hc, atI_nat rfl, _, rfl, c, _, _, _, rfl, rfl, SqL.of hc, atI_nat rfl, _, rfl, c, _, _, _, rfl, rfl, SqL.of hc, atI_nat rfl, _, rfl, c, _, _, _, rfl, rfl, SqL.of hc, atI_nat rfl, _, rfl, c, _, _, _, rfl, rfl, SqL.of hc, atI_nat rfl, _, rfl, c, _, _, _, rfl, rfl, SqL.of hc, atI_nat rfl, _, rfl, c, _, _, _, rfl, rfl, SqL.of hc, atI_nat rfl, _, rfl, c, _, _, _, rfl, rfl, SqL.of hc, atI_nat rfl, _, rfl, _, rfl, _, rfl, _, rfl, _, rfl, rfl, any_sup h1 h2 h3 h4 h5 h6 hk (by show 11 ≤ 13; decide) O⟩⟩
  | [x0, x1, x2, x3, x4, x5, x6, x7, x8, x9, x10, x11], n1, n2, hc, hk =>
    refine ⟨_, rfl, rfl, _, rfl, if_no (by show decide (V.int (12 : Int) = V.int (9 : Int)) = false; decide) ?_⟩
    refine ⟨_, rfl, rfl, _, rfl, if_no (by show decide (V.int (12 : Int) = V.int (10 : Int)) = false; decide) ?_⟩
    refine ⟨_, rfl, rfl, _, rfl, if_no (by show decide (V.int (12 : Int) = V.int (11 : Int)) = false; decide) ?_⟩
    exact ⟨_, rfl, rfl, _, rfl, if_yes (by show decide (V.int (12 : Int) = V.int (12 : Int)) = true; decide) ⟨_, rfl, _, rfl, c, _, _, _, rfl, rfl, SqL.of hc, atI_nat rfl, _, rfl, c, _, _, _, rfl, rfl, SqL.of hc, atI_nat rfl, _, rfl, c, _, _, _, rfl, rfl, SqL.of hc, atI_nat rfl, _, rfl, c, _, _, _, rfl, rfl, SqL.of hc, atI_nat rfl, _, rfl, c, _, _, _, rfl, rfl, SqL.of hc, atI_nat rfl, _, rfl, c, _, _, _, rfl, rfl, SqL.of hc, atI_nat rfl, _, rfl, c, _, _, _, rfl, rfl, SqL.of hc, atI_nat rfl, _, rfl, c, _, _, _, rfl, rfl, SqL.of hc, atI_nat rfl, _, rfl, c, _, _, _, rfl, rfl, SqL.of hc, atI_nat rfl, _, rfl, c, _, _, _, rfl, rfl, SqL.of hc, atI_nat rfl, _, rfl, c, _, _, _, rfl, rfl, SqL.of hc, atI_nat rfl, _, rfl, c, _, _, _, rfl, rfl, SqL.of hc, atI_nat rfl, _, rfl, _, rfl, _, rfl, _, rfl, _, rfl, rfl, any_sup h1 h2 h3 h4 h5 h6 hk (by show 12 ≤ 13; decide) O⟩⟩
  | [x0, x1, x2, x3, x4, x5, x6, x7, x8, x9, x10, x11, x12], n1, n2, hc, hk =>
    refine ⟨_, rfl, rfl, _, rfl, if_no (by show decide (V.int (13 : Int) = V.int (9 : Int)) = false; decide) ?_⟩
    refine ⟨_, rfl, rfl, _, rfl, if_no (by show decide (V.int (13 : Int) = V.int (10 : Int)) = false; decide) ?_⟩
    refine ⟨_, rfl, rfl, _, rfl, if_no (by show decide (V.int (13 : Int) = V.int (11 : Int)) = false; decide) ?_⟩
    refine ⟨_, rfl, rfl, _, rfl, if_no (by show decide (V.int (13 : Int) = V.int (12 : Int)) = false; decide) ?_⟩
    exact ⟨_, rfl, _, rfl, c, _, _, _, rfl, rfl, SqL.of hc, atI_nat rfl, _, rfl, c, _, _, _, rfl, rfl, SqL.of hc, atI_nat rfl, _, rfl, c, _, _, _, rfl, rfl, SqL.of hc, atI_nat rfl, _, rfl, c, _, _, _, rfl, rfl, SqL.of hc, atI_nat rfl, _, rfl, c, _, _, _, rfl, rfl, SqL.of hc, atI_nat rfl, _, rfl, c, _, _, _, rfl, rfl, SqL.of hc, atI_nat rfl, _, rfl, c, _, _, _, rfl, rfl, SqL.of hc, atI_nat rfl, _, rfl, c, _, _, _, rfl, rfl, SqL.of hc, atI_nat rfl, _, rfl, c, _, _, _, rfl, rfl, SqL.of hc, atI_nat rfl, _, rfl, c, _, _, _, rfl, rfl, SqL.of hc, atI_nat rfl, _, rfl, c, _, _, _, rfl, rfl, SqL.of hc, atI_nat rfl, _, rfl, c, _, _, _, rfl, rfl, SqL.of hc, atI_nat rfl, _, rfl, c, _, _, _, rfl, rfl, SqL.of hc, atI_nat rfl, _, rfl, _, rfl, _, rfl, _, rfl, _, rfl, rfl, any_sup h1 h2 h3 h4 h5 h6 hk (by show 13 ≤ 13; decide) O⟩
theorem ok_law_greater (F : Has K mg "_law_greater" s_law_greater) (T : Txt K mg) (WS : Su K mg) (FS : FnRK P w K mg base (L2.CX P w) 25 (He.ma K (suA K) "__init__") sKs (spSMade K)) (F_law_greatest : FnQ P w K mg base (L2.CX P w) 27 "_law_greatest" ["label", "c", "s"] (spSupL K 9)) :
    FnQ P w K mg base (L2.CX P w) 28 "_law_greater" ["label", "c", "s"] (spSupL K 5) := by
  refine F.q sc_law_greater (fun _ _ _ _ _ _ us hl => match us, hl with | [_, _, _], _ => rfl) (fun vs H Q E h => by obtain ⟨_, _, _, _, _, _, _, _, _, _, _, _, _, _, _, _, rfl, _⟩ := h; rfl) (fun cdv A outer s H vs Q E hr h => ?_)
  obtain ⟨v1, v2, v3, v4, v5, v6, d1, d2, d3, d4, d5, d6, c, sA, xs, ks, rfl, hc, hs, n1, n2, h1, h2, h3, h4, h5, h6, hk, O⟩ := h
  have gL : mg "len" = none := T.fr _ (by simp [frees])
  refine ⟨_, (pss_cons (ps_asg (pv 2) (pg_lst rfl (pgs_cons (pg_name (i := 3) sc_law_greater.nd rfl (.inl rfl)) (pgs_cons (pg_name (i := 4) sc_law_greater.nd rfl (.inl rfl)) (pgs_cons (pg_name (i := 5) sc_law_greater.nd rfl (.inl rfl)) (pgs_cons (pg_name (i := 6) sc_law_greater.nd rfl (.inl rfl)) (pgs_cons (pg_name (i := 7) sc_law_greater.nd rfl (.inl rfl)) pgs_nil)))))))
  (pss_cons (ps_set (i := 8) sc_law_greater.nd rfl (by first | exact .inl rfl | exact .inr rfl) (pe_callB call_len_seq (by rfl) gL boot_len (pa_cons (pv 1) pa_nil)))
  (pss_cons (ps_if (pt_cmpR op_gt (pv 8) pe_int (by first | exact nomark _ | rfl))
  (pss_one (ps_ret (pe_fS F_law_greatest hr (fun σ => passAt (takes_of rfl rfl rfl rfl) σ) (pa_cons (pv 0) (pa_cons (pv 1) (pa_cons (pv 2) pa_nil))))))
  pss_nil)
  (pss_cons (ps_if (pt_cmpR op_eq (pv 8) pe_int (by first | exact nomark _ | rfl))
  (pss_one (ps_ret (pe_makeRK WS.mkr FS (hr.mono (by decide)) rfl WS.gl (passes_call (takes_of rfl rfl rfl rfl) fun _ _ _ _ h => h) (pa_cons (pv 0) (pa_cons (pe_ix ix_list (pv 1) pe_int (fun _ _ => rfl)) (pa_cons (pe_ix ix_list (pv 1) pe_int (fun _ _ => rfl)) (pa_cons (pe_ix ix_list (pv 1) pe_int (fun _ _ => rfl)) (pa_cons (pe_ix ix_list (pv 1) pe_int (fun _ _ => rfl)) (pa_cons (pe_ix ix_list (pv 1) pe_int (fun _ _ => rfl)) pa_nil)))))) (pk_cons (pv 3) (pk_cons (pv 4) (pk_cons (pv 5) (pk_cons (pv 6) (pk_cons (pv 7) pk_nil))))))))
  pss_nil)
  (pss_cons (ps_if (pt_cmpR op_eq (pv 8) pe_int (by first | exact nomark _ | rfl))
  (pss_one (ps_ret (pe_makeRK WS.mkr FS (hr.mono (by decide)) rfl WS.gl (passes_call (takes_of rfl rfl rfl rfl) fun _ _ _ _ h => h) (pa_cons (pv 0) (pa_cons (pe_ix ix_list (pv 1) pe_int (fun _ _ => rfl)) (pa_cons (pe_ix ix_list (pv 1) pe_int (fun _ _ => rfl)) (pa_cons (pe_ix ix_list (pv 1) pe_int (fun _ _ => rfl)) (pa_cons (pe_ix ix_list (pv 1) pe_int (fun _ _ => rfl)) (pa_cons (pe_ix ix_list (pv 1) pe_int (fun _ _ => rfl)) (pa_cons (pe_ix ix_list (pv 1) pe_int (fun _ _ => rfl)) pa_nil))))))) (pk_cons (pv 3) (pk_cons (pv 4) (pk_cons (pv 5) (pk_cons (pv 6) (pk_cons (pv 7) pk_nil))))))))
  pss_nil)
  (pss_cons (ps_if (pt_cmpR op_eq (pv 8) pe_int (by first | exact nomark _ | rfl))
  (pss_one (ps_ret (pe_makeRK WS.mkr FS (hr.mono (by decide)) rfl WS.gl (passes_call (takes_of rfl rfl rfl rfl) fun _ _ _ _ h => h) (pa_cons (pv 0) (pa_cons (pe_ix ix_list (pv 1) pe_int (fun _ _ => rfl)) (pa_cons (pe_ix ix_list (pv 1) pe_int (fun _ _ => rfl)) (pa_cons (pe_ix ix_list (pv 1) pe_int (fun _ _ => rfl)) (pa_cons (pe_ix ix_list (pv 1) pe_int (fun _ _ => rfl)) (pa_cons (pe_ix ix_list (pv 1) pe_int (fun _ _ => rfl)) (pa_cons (pe_ix ix_list (pv 1) pe_int (fun _ _ => rfl)) (pa_cons (pe_ix ix_list (pv 1) pe_int (fun _ _ => rfl)) pa_nil)))))))) (pk_cons (pv 3) (pk_cons (pv 4) (pk_cons (pv 5) (pk_cons (pv 6) (pk_cons (pv 7) pk_nil))))))))
  pss_nil)
  (pss_one (ps_ret (pe_makeRK WS.mkr FS (hr.mono (by decide)) rfl WS.gl (passes_call (takes_of rfl rfl rfl rfl) fun _ _ _ _ h => h) (pa_cons (pv 0) (pa_cons (pe_ix ix_list (pv 1) pe_int (fun _ _ => rfl)) (pa_cons (pe_ix ix_list (pv 1) pe_int (fun _ _ => rfl)) (pa_cons (pe_ix ix_list (pv 1) pe_int (fun _ _ => rfl)) (pa_cons (pe_ix ix_list (pv 1) pe_int (fun _ _ => rfl)) (pa_cons (pe_ix ix_list (pv 1) pe_int (fun _ _ => rfl)) (pa_cons (pe_ix ix_list (pv 1) pe_int (fun _ _ => rfl)) (pa_cons (pe_ix ix_list (pv 1) pe_int (fun _ _ => rfl)) (pa_cons (pe_ix ix_list (pv 1) pe_int (fun _ _ => rfl)) pa_nil))))))))) (pk_cons (pv 3) (pk_cons (pv 4) (pk_cons (pv 5) (pk_cons (pv 6) (pk_cons (pv 7) pk_nil)))))))))))))), ?_⟩
  refine ⟨_, rfl, sA, _, rfl, SqL.of hs, rfl, _, _, rfl, _, _, rfl, _, _, rfl, _, _, rfl, _, _, rfl, rfl, _, rfl, c, xs, rfl, .inl (SqL.of hc), ?_⟩
  refine ⟨_, rfl, _, _, rfl, rfl, _, rfl, ?_⟩
  by_cases big : 8 < xs.length
  · exact if_yes (decide_eq_true (by omega)) ⟨_, rfl, _, rfl, _, rfl, v1, v2, v3, v4, v5, v6, d1, d2, d3, d4, d5, d6, c, sA, xs, ks, rfl, hc, hs, big, n2, h1, h2, h3, h4, h5, h6, hk, O⟩
  refine if_no (decide_eq_false (by omega)) ?_
  replace big := Nat.le_of_not_lt big
  match xs, n1, n2, hc, hk, big with
  | [x0, x1, x2, x3, x4], n1, n2, hc, hk, big =>
    exact ⟨_, rfl, rfl, _, rfl, if_yes (by show decide (V.int (5 : Int) = V.int (5 : Int)) = true; decide) ⟨_, rfl, _, rfl, c, _, _, _, rfl, rfl, SqL.of hc, atI_nat rfl, _, rfl, c, _, _, _, rfl, rfl, SqL.of hc, atI_nat rfl, _, rfl, c, _, _, _, rfl, rfl, SqL.of hc, atI_nat rfl, _, rfl, c, _, _, _, rfl, rfl, SqL.of hc, atI_nat rfl, _, rfl, c, _, _, _, rfl, rfl, SqL.of hc, atI_nat rfl, _, rfl, _, rfl, _, rfl, _, rfl, _, rfl, rfl, any_sup h1 h2 h3 h4 h5 h6 hk (by show 5 ≤ 13; decide) O⟩⟩
  | [x0, x1, x2, x3, x4, x5], n1, n2, hc, hk, big =>
    refine ⟨_, rfl, rfl, _, rfl, if_no (by show decide (V.int (6 : Int) = V.int (5 : Int)) = false; decide) ?_⟩
    exact ⟨_, rfl, rfl, _, rfl, if_yes (by show decide (V.int (6 : Int) = V.int (6 : Int)) = true; decide) ⟨_, rfl, _, rfl, c, _, _, _, rfl, rfl, SqL.of hc, atI_nat rfl, _, rfl, c, _, _, _, rfl, rfl, SqL.of hc, atI_nat rfl, _, rfl, c, _, _, _, rfl, rfl, SqL.of hc, atI_nat rfl, _, rfl, c, _, _, _, rfl, rfl, SqL.of hc, atI_nat rfl, _, rfl, c, _, _, _, rfl, rfl, SqL.of hc, atI_nat rfl, _, rfl, c, _, _, _, rfl, rfl, SqL.of hc, atI_nat rfl, _, rfl, _, rfl, _, rfl, _, rfl, _, rfl, rfl, any_sup h1 h2 h3 h4 h5 h6 hk (by show 6 ≤ 13; decide) O⟩⟩
  | [x0, x1, x2, x3, x4, x5, x6], n1, n2, hc, hk, big =>
    refine ⟨_, rfl, rfl, _, rfl, if_no (by show decide (V.int (7 : Int) = V.int (5 : Int)) = false; decide) ?_⟩
    refine ⟨_, rfl, rfl, _, rfl, if_no (by show decide (V.int (7 : Int) = V.int (6 : Int)) = false; decide) ?_⟩
    exact ⟨_, rfl, rfl, _, rfl, if_yes (by show decide (V.int (7 : Int) = V.int (7 : Int)) = true; decide) ⟨_, rfl, _, rfl, c, _, _, _, rfl, rfl, SqL.of hc, atI_nat rfl, _, rfl, c, _, _, _, rfl, rfl, SqL.of hc, atI_nat rfl, _, rfl, c, _, _, _, rfl, rfl, SqL.of hc, atI_nat rfl, _, rfl, c, _, _, _, rfl, rfl, SqL.of hc, atI_nat rfl, _, rfl, c, _, _, _, rfl, rfl, SqL.of hc, atI_nat rfl, _, rfl, c, _, _, _, rfl, rfl, SqL.of hc, atI_nat rfl, _, rfl, c, _, _, _, rfl, rfl, SqL.of hc, atI_nat rfl, _, rfl, _, rfl, _, rfl, _, rfl, _, rfl, rfl, any_sup h1 h2 h3 h4 h5 h6 hk (by show 7 ≤ 13; decide) O⟩⟩
  | [x0, x1, x2, x3, x4, x5, x6, x7], n1, n2, hc, hk, big =>
    refine ⟨_, rfl, rfl, _, rfl, if_no (by show decide (V.int (8 : Int) = V.int (5 : Int)) = false; decide) ?_⟩
    refine ⟨_, rfl, rfl, _, rfl, if_no (by show decide (V.int (8 : Int) = V.int (6 : Int)) = false; decide) ?_⟩
    refine ⟨_, rfl, rfl, _, rfl, if_no (by show decide (V.int (8 : Int) = V.int (7 : Int)) = false; decide) ?_⟩
    exact ⟨_, rfl, _, rfl, c, _, _, _, rfl, rfl, SqL.of hc, atI_nat rfl, _, rfl, c, _, _, _, rfl, rfl, SqL.of hc, atI_nat rfl, _, rfl, c, _, _, _, rfl, rfl, SqL.of hc, atI_nat rfl, _, rfl, c, _, _, _, rfl, rfl, SqL.of hc, atI_nat rfl, _, rfl, c, _, _, _, rfl, rfl, SqL.of hc, atI_nat rfl, _, rfl, c, _, _, _, rfl, rfl, SqL.of hc, atI_nat rfl, _, rfl, c, _, _, _, rfl, rfl, SqL.of hc, atI_nat rfl, _, rfl, c, _, _, _, rfl, rfl, SqL.of hc, atI_nat rfl, _, rfl, _, rfl, _, rfl, _, rfl, _, rfl, rfl, any_sup h1 h2 h3 h4 h5 h6 hk (by show 8 ≤ 13; decide) O⟩
theorem ok_law_sup (F : Has K mg "_law_sup" s_law_sup) (T : Txt K mg) (WS : Su K mg) (FS : FnRK P w K mg base (L2.CX P w) 25 (He.ma K (suA K) "__init__") sKs (spSMade K)) (F_law_greater : FnQ P w K mg base (L2.CX P w) 28 "_law_greater" ["label", "c", "s"] (spSupL K 5)) :
    FnQ P w K mg base (L2.CX P w) 29 "_law_sup" ["label", "c", "s"] (spSupL K 0) := by
  refine F.q sc_law_sup (fun _ _ _ _ _ _ us hl => match us, hl with | [_, _, _], _ => rfl) (fun vs H Q E h => by obtain ⟨_, _, _, _, _, _, _, _, _, _, _, _, _, _, _, _, rfl, _⟩ := h; rfl) (fun cdv A outer s H vs Q E hr h => ?_)
  obtain ⟨v1, v2, v3, v4, v5, v6, d1, d2, d3, d4, d5, d6, c, sA, xs, ks, rfl, hc, hs, n1, n2, h1, h2, h3, h4, h5, h6, hk, O⟩ := h
  have gL : mg "len" = none := T.fr _ (by simp [frees])
  refine ⟨_, (pss_cons (ps_asg (pv 2) (pg_lst rfl (pgs_cons (pg_name (i := 3) sc_law_sup.nd rfl (.inl rfl)) (pgs_cons (pg_name (i := 4) sc_law_sup.nd rfl (.inl rfl)) (pgs_cons (pg_name (i := 5) sc_law_sup.nd rfl (.inl rfl)) (pgs_cons (pg_name (i := 6) sc_law_sup.nd rfl (.inl rfl)) (pgs_cons (pg_name (i := 7) sc_law_sup.nd rfl (.inl rfl)) pgs_nil)))))))
  (pss_cons (ps_set (i := 8) sc_law_sup.nd rfl (by first | exact .inl rfl | exact .inr rfl) (pe_callB call_len_seq (by rfl) gL boot_len (pa_cons (pv 1) pa_nil)))
  (pss_cons (ps_if (pt_cmpR op_gt (pv 8) pe_int (by first | exact nomark _ | rfl))
  (pss_one (ps_ret (pe_fS F_law_greater hr (fun σ => passAt (takes_of rfl rfl rfl rfl) σ) (pa_cons (pv 0) (pa_cons (pv 1) (pa_cons (pv 2) pa_nil))))))
  pss_nil)
  (pss_cons (ps_if (pt_cmpR op_eq (pv 8) pe_int (by first | exact nomark _ | rfl))
  (pss_one (ps_ret (pe_makeRK WS.mkr FS (hr.mono (by decide)) rfl WS.gl (passes_call (takes_of rfl rfl rfl rfl) fun _ _ _ _ h => h) (pa_cons (pv 0) pa_nil) (pk_cons (pv 3) (pk_cons (pv 4) (pk_cons (pv 5) (pk_cons (pv 6) (pk_cons (pv 7) pk_nil))))))))
  pss_nil)
  (pss_cons (ps_if (pt_cmpR op_eq (pv 8) pe_int (by first | exact nomark _ | rfl))
  (pss_one (ps_ret (pe_makeRK WS.mkr FS (hr.mono (by decide)) rfl WS.gl (passes_call (takes_of rfl rfl rfl rfl) fun _ _ _ _ h => h) (pa_cons (pv 0) (pa_cons (pe_ix ix_list (pv 1) pe_int (fun _ _ => rfl)) pa_nil)) (pk_cons (pv 3) (pk_cons (pv 4) (pk_cons (pv 5) (pk_cons (pv 6) (pk_cons (pv 7) pk_nil))))))))
  pss_nil)
  (pss_cons (ps_if (pt_cmpR op_eq (pv 8) pe_int (by first | exact nomark _ | rfl))
  (pss_one (ps_ret (pe_makeRK WS.mkr FS (hr.mono (by decide)) rfl WS.gl (passes_call (takes_of rfl rfl rfl rfl) fun _ _ _ _ h => h) (pa_cons (pv 0) (pa_cons (pe_ix ix_list (pv 1) pe_int (fun _ _ => rfl)) (pa_cons (pe_ix ix_list (pv 1) pe_int (fun _ _ => rfl)) pa_nil))) (pk_cons (pv 3) (pk_cons (pv 4) (pk_cons (pv 5) (pk_cons (pv 6) (pk_cons (pv 7) pk_nil))))))))
  pss_nil)
  (pss_cons (ps_if (pt_cmpR op_eq (pv 8) pe_int (by first | exact nomark _ | rfl))
  (pss_one (ps_ret (pe_makeRK WS.mkr FS (hr.mono (by decide)) rfl WS.gl (passes_call (takes_of rfl rfl rfl rfl) fun _ _ _ _ h => h) (pa_cons (pv 0) (pa_cons (pe_ix ix_list (pv 1) pe_int (fun _ _ => rfl)) (pa_cons (pe_ix ix_list (pv 1) pe_int (fun _ _ => rfl)) (pa_cons (pe_ix ix_list (pv 1) pe_int (fun _ _ => rfl)) pa_nil)))) (pk_cons (pv 3) (pk_cons (pv 4) (pk_cons (pv 5) (pk_cons (pv 6) (pk_cons (pv 7) pk_nil))))))))
  pss_nil)
  (pss_one (ps_ret (pe_makeRK WS.mkr FS (hr.mono (by decide)) rfl WS.gl (passes_call (takes_of rfl rfl rfl rfl) fun _ _ _ _ h => h) (pa_cons (pv 0) (pa_cons (pe_ix ix_list (pv 1) pe_int (fun _ _ => rfl)) (pa_cons (pe_ix ix_list (pv 1) pe_int (fun _ _ => rfl)) (pa_cons (pe_ix ix_list (pv 1) pe_int (fun _ _ => rfl)) (pa_cons (pe_ix ix_list (pv 1) pe_int (fun _ _ => rfl)) pa_nil))))) (pk_cons (pv 3) (pk_cons (pv 4) (pk_cons (pv 5) (pk_cons (pv 6) (pk_cons (pv 7) pk_nil))))))))))))))), ?_⟩
  refine ⟨_, rfl, sA, _, rfl, SqL.of hs, rfl, _, _, rfl, _, _, rfl, _, _, rfl, _, _, rfl, _, _, rfl, rfl, _, rfl, c, xs, rfl, .inl (SqL.of hc), ?_⟩
  refine ⟨_, rfl, _, _, rfl, rfl, _, rfl, ?_⟩
  by_cases big : 4 < xs.length
  · exact if_yes (decide_eq_true (by omega)) ⟨_, rfl, _, rfl, _, rfl, v1, v2, v3, v4, v5, v6, d1, d2, d3, d4, d5, d6, c, sA, xs, ks, rfl, hc, hs, big, n2, h1, h2, h3, h4, h5, h6, hk, O⟩
  refine if_no (decide_eq_false (by omega)) ?_
  replace big := Nat.le_of_not_lt big
  match xs, n1, n2, hc, hk, big with
  | [], n1, n2, hc, hk, big =>
    exact ⟨_, rfl, rfl, _, rfl, if_yes (by show decide (V.int (0 : Int) = V.int (0 : Int)) = true; decide) ⟨_, rfl, _, rfl, _, rfl, _, rfl, _, rfl, _, rfl, rfl, any_sup h1 h2 h3 h4 h5 h6 hk (by show 0 ≤ 13; decide) O⟩⟩
  | [x0], n1, n2, hc, hk, big =>
    refine ⟨_, rfl, rfl, _, rfl, if_no (by show decide (V.int (1 : Int) = V.int (0 : Int)) = false; decide) ?_⟩
    exact ⟨_, rfl, rfl, _, rfl, if_yes (by show decide (V.int (1 : Int) = V.int (1 : Int)) = true; decide) ⟨_, rfl, _, rfl, c, _, _, _, rfl, rfl, SqL.of hc, atI_nat rfl, _, rfl, _, rfl, _, rfl, _, rfl, _, rfl, rfl, any_sup h1 h2 h3 h4 h5 h6 hk (by show 1 ≤ 13; decide) O⟩⟩
  | [x0, x1], n1, n2, hc, hk, big =>
    refine ⟨_, rfl, rfl, _, rfl, if_no (by show decide (V.int (2 : Int) = V.int (0 : Int)) = false; decide) ?_⟩
    refine ⟨_, rfl, rfl, _, rfl, if_no (by show decide (V.int (2 : Int) = V.int (1 : Int)) = false; decide) ?_⟩
    exact ⟨_, rfl, rfl, _, rfl, if_yes (by show decide (V.int (2 : Int) = V.int (2 : Int)) = true; decide) ⟨_, rfl, _, rfl, c, _, _, _, rfl, rfl, SqL.of hc, atI_nat rfl, _, rfl, c, _, _, _, rfl, rfl, SqL.of hc, atI_nat rfl, _, rfl, _, rfl, _, rfl, _, rfl, _, rfl, rfl, any_sup h1 h2 h3 h4 h5 h6 hk (by show 2 ≤ 13; decide) O⟩⟩
  | [x0, x1, x2], n1, n2, hc, hk, big =>
    refine ⟨_, rfl, rfl, _, rfl, if_no (by show decide (V.int (3 : Int) = V.int (0 : Int)) = false; decide) ?_⟩
    refine ⟨_, rfl, rfl, _, rfl, if_no (by show decide (V.int (3 : Int) = V.int (1 : Int)) = false; decide) ?_⟩
    refine ⟨_, rfl, rfl, _, rfl, if_no (by show decide (V.int (3 : Int) = V.int (2 : Int)) = false; decide) ?_⟩
    exact ⟨_, rfl, rfl, _, rfl, if_yes (by show decide (V.int (3 : Int) = V.int (3 : Int)) = true; decide) ⟨_, rfl, _, rfl, c, _, _, _, rfl, rfl, SqL.of hc, atI_nat rfl, _, rfl, c, _, _, _, rfl, rfl, SqL.of hc, atI_nat rfl, _, rfl, c, _, _, _, rfl, rfl, SqL.of hc, atI_nat rfl, _, rfl, _, rfl, _, rfl, _, rfl, _, rfl, rfl, any_sup h1 h2 h3 h4 h5 h6 hk (by show 3 ≤ 13; decide) O⟩⟩
  | [x0, x1, x2, x3], n1, n2, hc, hk, big =>
    refine ⟨_, rfl, rfl, _, rfl, if_no (by show decide (V.int (4 : Int) = V.int (0 : Int)) = false; decide) ?_⟩
    refine ⟨_, rfl, rfl, _, rfl, if_no (by show decide (V.int (4 : Int) = V.int (1 : Int)) = false; decide) ?_⟩
    refine ⟨_, rfl, rfl, _, rfl, if_no (by show decide (V.int (4 : Int) = V.int (2 : Int)) = false; decide) ?_⟩
    refine ⟨_, rfl, rfl, _, rfl, if_no (by show decide (V.int (4 : Int) = V.int (3 : Int)) = false; decide) ?_⟩
    exact ⟨_, rfl, _, rfl, c, _, _, _, rfl, rfl, SqL.of hc, atI_nat rfl, _, rfl, c, _, _, _, rfl, rfl, SqL.of hc, atI_nat rfl, _, rfl, c, _, _, _, rfl, rfl, SqL.of hc, atI_nat rfl, _, rfl, c, _, _, _, rfl, rfl, SqL.of hc, atI_nat rfl, _, rfl, _, rfl, _, rfl, _, rfl, _, rfl, rfl, any_sup h1 h2 h3 h4 h5 h6 hk (by show 4 ≤ 13; decide) O⟩
end
end K02
/-! _law_made, _law_broad -/
namespace K02
open PySem PySem.Spec PyProof.Rows L2
section
variable {P : Program} {w : World} {K : PySem.W.Frag} {mg : Str → Option Value} {base : Heap}
abbrev wKs : List Str := ["restart", "opening", "closing", "deadline", "refused", "script"]
/-- WorkerPlan(name, all settings by name) -/
theorem wk_bindA {dS : Addr} {fd : FuncData} (F : FunD K "__init__" "WorkerPlan.__init__" (defArgs s_WorkerPlan___init__) (defBody s_WorkerPlan___init__) (defScope s_WorkerPlan___init__) [] (wDef dS) (He.ma K (wkA K) "__init__") fd) :
    ∃ mv : List Value, KBn K fd wPs 2 wKs (fun us ws => us ++ mv ++ ws) (fun vs zs => vs ++ [] ++ zs) := by
  refine F.kbinds0 2 wKs [] (fun a b c => a ++ b ++ c) (by simp [wDef]) (by simp) (fun r1 r2 r3 => (r1.append r2).append r3) ?_
  intro D doc pm an cdv ct us mv ws l1 l2 l3
  match us, mv, ws, l1, l2, l3 with
  | [_, _], [], [_, _, _, _, _, _], _, _, _ => rfl
/-- what becomes of WorkerPlan(..) -/
structure OutW (K : PySem.W.Frag) (H : Hp) (ps : List (Str × Bool)) (Q : Addr → Hp → Prop) (E : XK) : Prop where
  ok : firstBad ps = none → ∀ x H', Same H H' → Q x H'
  set : ∀ y, firstBad ps = some y → ∀ e H', Same H H' → H e = none → H' e = some (.xd [("setting", .str y)]) → E (.ref (He.ga K "BadSetting")) (some e) H'
theorem any_wk {H : Hp} {v1 v2 v3 v4 v5 v6 v7 : V} {d1 d2 d3 d4 d5 d6 d7 : Dt} {Q : Addr → Hp → Prop} {E : XK} (h1 : Dd K H v1 d1) (h2 : Dd K H v2 d2) (h3 : Dd K H v3 d3) (h4 : Dd K H v4 d4) (h5 : Dd K H v5 d5) (h6 : Dd K H v6 d6) (h7 : Dd K H v7 d7) (O : OutW K H (wset d1 d2 d3 d4 d5 d6 d7) Q E) :
    ∀ x dx, H x = none → H dx = none → dx ≠ x → spWInit K [.ref x, v1, v2, v3, v4, v5, v6, v7] (upd (upd H dx (.own x)) x (.ins (wkA K) dx [])) (fun v H3 => v = .non ∧ Q x H3) E := by
  intro x dx nx nd ne
  have s0 : Same H (upd (upd H dx (.own x)) x (.ins (wkA K) dx [])) := (Same.new nd).trans (Same.new (by rw [upd_ne (Ne.symm ne)]; exact nx))
  exact ⟨x, dx, v1, v2, v3, v4, v5, v6, v7, d1, d2, d3, d4, d5, d6, d7, rfl, upd_same, h1.same s0, h2.same s0, h3.same s0, h4.same s0, h5.same s0, h6.same s0, h7.same s0, fun a H' s' => ⟨rfl, O.ok a x _ (same_putN (s0.trans s') nx)⟩, fun y a e H' s' n2 x2 => O.set y a e H' (s0.trans s') (none_back s0 n2) x2⟩
/-- the settings by their names -/
def val (es : List (Key × V)) (x : Str) (v : V) : Prop := valV es (.inr x) = some v
theorem val.get {H : Hp} {a : Addr} {es : List (Key × V)} {x : Str} {v : V} (h : val es x v) (e : H a = some (.dK es)) : DGet H a (.str x) (some v) := by
  have z := DGet.k (k := .inr x) e
  rw [h] at z; exact z
abbrev s_law_made : Stmt := (top 73)
def N_law_made : List Str := ["kind", "v", "c"]
theorem sc_law_made : FnScope N_law_made ["kind", "v", "c"] (defScope s_law_made) := ⟨rfl, rfl, rfl, by decide +kernel, rfl, by decide +kernel, by decide +kernel⟩
/-- a plan, or the error due; what is made is not looked at -/
def spMadeL (K : PySem.W.Frag) : Sp := fun vs H Q E => ∃ kind dv c es xs ks v1 v2 v5 d1 d2 d5, vs = [.str kind, .ref dv, .ref c] ∧ H dv = some (.dK es) ∧ H c = some (.lst xs) ∧ xs.length ≤ 13 ∧ KidAll K H xs ks ∧ val es "name" v1 ∧ val es "restart" v2 ∧ val es "deadline" v5 ∧ Dd K H v1 d1 ∧ Dd K H v2 d2 ∧ Dd K H v5 d5 ∧
  ((kind = "s" ∧ ∃ v3 v4 v6 d3 d4 d6, val es "strategy" v3 ∧ val es "most" v4 ∧ val es "span" v6 ∧ Dd K H v3 d3 ∧ Dd K H v4 d4 ∧ Dd K H v6 d6 ∧ Outs K H d1 d2 d3 d4 d6 d5 ks (fun x H' => Q (.ref x) H') E) ∨
   (kind = "w" ∧ ∃ v3 v4 v6 v7 d3 d4 d6 d7, val es "opening" v3 ∧ val es "closing" v4 ∧ val es "refused" v6 ∧ val es "script" v7 ∧ Dd K H v3 d3 ∧ Dd K H v4 d4 ∧ Dd K H v6 d6 ∧ Dd K H v7 d7 ∧ OutW K H (wset d1 d2 d3 d4 d5 d6 d7) (fun x H' => Q (.ref x) H') E))
theorem ok_made {fd : FuncData} {mv : List Value} (F : Has K mg "_law_made" s_law_made) (T : Txt K mg) (W : Wk K mg) (FW : FnOk P w K mg base (L2.CX P w) 11 (He.ma K (wkA K) "__init__") fd wPs (spWInit K)) (hbA : KBn K fd wPs 2 wKs (fun us ws => us ++ mv ++ ws) (fun vs zs => vs ++ [] ++ zs))
    (F_law_sup : FnQ P w K mg base (L2.CX P w) 29 "_law_sup" ["label", "c", "s"] (spSupL K 0)) : FnQ P w K mg base (L2.CX P w) 30 "_law_made" ["kind", "v", "c"] (spMadeL K) := by
  refine F.q sc_law_made (fun _ _ _ _ _ _ us hl => match us, hl with | [_, _, _], _ => rfl) (fun vs H Q E h => by obtain ⟨_, _, _, _, _, _, _, _, _, _, _, _, rfl, _⟩ := h; rfl) (fun cdv A outer s H vs Q E hr h => ?_)
  obtain ⟨kind, dv, c, es, xs, ks, v1, v2, v5, d1, d2, d5, rfl, hd, hc, n, hk, g1, g2, g5, h1, h2, h5, or⟩ := h
  refine ⟨_, (pss_cons (ps_if (pt_cmpR op_eq (pv 0) pe_str (by first | exact nomark _ | rfl))
  (pss_one (ps_ret (pe_fS F_law_sup hr (fun σ => passAt (takes_of rfl rfl rfl rfl) σ) (pa_cons (pe_dget (hu_of hr) (pv 1) pe_str (fun _ _ => rfl)) (pa_cons (pv 2) (pa_cons (pe_lstM (pa_cons (pe_dget (hu_of hr) (pv 1) pe_str (fun _ _ => rfl)) (pa_cons (pe_dget (hu_of hr) (pv 1) pe_str (fun _ _ => rfl)) (pa_cons (pe_dget (hu_of hr) (pv 1) pe_str (fun _ _ => rfl)) (pa_cons (pe_dget (hu_of hr) (pv 1) pe_str (fun _ _ => rfl)) (pa_cons (pe_dget (hu_of hr) (pv 1) pe_str (fun _ _ => rfl)) pa_nil)))))) pa_nil))))))
  pss_nil)
  (pss_one (ps_ret (pe_makeN W.mkr FW (hr.mono (by decide)) (by rfl) W.gl hbA (passes_call (takes_of rfl rfl rfl rfl) fun _ _ _ _ h => h) (pa_cons (pe_dget (hu_of hr) (pv 1) pe_str (fun _ _ => rfl)) pa_nil) (pk_cons (pe_dget (hu_of hr) (pv 1) pe_str (fun _ _ => rfl)) (pk_cons (pe_dget (hu_of hr) (pv 1) pe_str (fun _ _ => rfl)) (pk_cons (pe_dget (hu_of hr) (pv 1) pe_str (fun _ _ => rfl)) (pk_cons (pe_dget (hu_of hr) (pv 1) pe_str (fun _ _ => rfl)) (pk_cons (pe_dget (hu_of hr) (pv 1) pe_str (fun _ _ => rfl)) (pk_cons (pe_dget (hu_of hr) (pv 1) pe_str (fun _ _ => rfl)) pk_nil)))))))))), ?_⟩
  refine ⟨_, rfl, rfl, _, rfl, ?_⟩
  rcases or with ⟨rfl, v3, v4, v6, d3, d4, d6, g3, g4, g6, h3, h4, h6, O⟩ | ⟨rfl, v3, v4, v6, v7, d3, d4, d6, d7, g3, g4, g6, g7, h3, h4, h6, h7, O⟩
  · refine if_yes (by decide +kernel) ⟨_, rfl, dv, _, rfl, g1.get hd, _, rfl, _, rfl, dv, _, rfl, g2.get hd, _, rfl, dv, _, rfl, g3.get hd, _, rfl, dv, _, rfl, g4.get hd, _, rfl, dv, _, rfl, g6.get hd, _, rfl, dv, _, rfl, g5.get hd, (by show 5 ≤ sizeLine; decide), fun sA G s1 n1 e1 => ?_⟩
    exact ⟨v1, v2, v3, v4, v6, v5, d1, d2, d3, d4, d6, d5, c, sA, xs, ks, rfl, s1 _ _ hc, e1, Nat.zero_le _, n, h1.same s1, h2.same s1, h3.same s1, h4.same s1, h6.same s1, h5.same s1, hk.same s1, O.same s1⟩
  · exact if_no (by decide +kernel) ⟨_, rfl, dv, _, rfl, g1.get hd, _, rfl, dv, _, rfl, g2.get hd, _, rfl, dv, _, rfl, g3.get hd, _, rfl, dv, _, rfl, g4.get hd, _, rfl, dv, _, rfl, g5.get hd, _, rfl, dv, _, rfl, g6.get hd, _, rfl, dv, _, rfl, g7.get hd, rfl, rfl, any_wk h1 h2 h3 h4 h5 h6 h7 O⟩
end
end K02
/-! _law_broad -/
namespace K02
open PySem PySem.Spec PyProof.Rows L2
section
variable {P : Program} {w : World} {K : PySem.W.Frag} {mg : Str → Option Value} {base : Heap}
theorem kid_rep {H : Hp} {v : V} {k : Kid} (h : KidR K H v k) : ∀ n, KidAll K H (List.replicate n [v]).flatten (List.replicate n k)
  | 0 => .nil
  | n + 1 => by
    rw [List.replicate_succ, List.flatten_cons, List.replicate_succ]
    exact .cons h (kid_rep h n)
/-- nothing may go wrong -/
theorem outs_right {H : Hp} {d1 d2 d3 d4 d5 d6 : Dt} {ks : List Kid} {Q : Addr → Hp → Prop} {E : XK} (fb : firstBad (sset d1 d2 d3 d4 d5 d6) = none) (fk : firstKid 0 1 ks = none) (k : ∀ x H', Same H H' → (∀ ts, ks = ts.map Kid.pn → Pt K H' (.ref x) (.sup ts)) → Q x H') : Outs K H d1 d2 d3 d4 d5 d6 ks Q E :=
  ⟨fun _ _ => k, fun y e => (by rw [fb] at e; cases e), fun _ i e => (by rw [fk] at e; cases e)⟩
def group : Pn := .sup (List.replicate 10 .wrk)
def broad : Pn := .sup (List.replicate 9 group)
theorem broad_facts : group.lv = 2 ∧ group.size = 11 ∧ broad.lv = 3 ∧ broad.size = 100 ∧ firstKid 0 1 (List.replicate 10 (.pn .wrk)) = none ∧ firstKid 0 1 (List.replicate 9 (.pn group)) = none := by decide +kernel
abbrev s_law_broad : Stmt := (top 76)
def N_law_broad : List Str := ["row"]
theorem sc_law_broad : FnScope N_law_broad [] (defScope s_law_broad) := ⟨rfl, rfl, rfl, by decide +kernel, rfl, by decide +kernel, by decide +kernel⟩
def spBroad (K : PySem.W.Frag) : Sp := fun vs H Q _ => vs = [] ∧ ∀ v H', Same H H' → Pt K H' v broad → Q v H'
theorem ok_broad {fd : FuncData} {mv0 : List Value} {dS : Addr} (F : Has K mg "_law_broad" s_law_broad) (T : Txt K mg) (W : Wk K mg) (FW : FnOk P w K mg base (L2.CX P w) 11 (He.ma K (wkA K) "__init__") fd wPs (spWInit K)) (hb0 : KBn K fd wPs 2 [] (fun us ws => us ++ mv0 ++ ws) (fun vs zs => vs ++ [.str "permanent", .int 0, .int 0, .non, .int 0, .ref dS] ++ zs)) (hds : ∀ H, SqT K H dS [])
    (F_law_sup : FnQ P w K mg base (L2.CX P w) 29 "_law_sup" ["label", "c", "s"] (spSupL K 0)) : FnQ P w K mg base CX0 30 "_law_broad" [] (spBroad K) := by
  refine F.q sc_law_broad (fun _ _ _ _ _ _ us hl => match us, hl with | [], _ => rfl) (fun vs H Q E h => by obtain ⟨rfl, _⟩ := h; rfl) (fun cdv A outer s H vs Q E hr h => ?_)
  obtain ⟨rfl, k⟩ := h
  refine ⟨_, PSs.nox (pss_cons (ps_set (i := 0) sc_law_broad.nd rfl (by first | exact .inl rfl | exact .inr rfl) (pe_lstM (pa_cons pe_str (pa_cons pe_str (pa_cons pe_int (pa_cons pe_int (pa_cons pe_non pa_nil)))))))
  (pss_one (ps_ret (pe_f F_law_sup hr passNo (pa_cons pe_str (pa_cons (pe_op op_rep (pe_lstM (pa_cons (pe_f F_law_sup hr passNo (pa_cons pe_str (pa_cons (pe_op op_rep (pe_lstM (pa_cons (pe_makeN W.mkr FW (hr.mono (by decide)) rfl W.gl hb0 passNo (pa_cons pe_str pa_nil) pk_nil) pa_nil)) pe_int) (pa_cons (pv 0) pa_nil)))) pa_nil)) pe_int) (pa_cons (pv 0) pa_nil))))))), ?_⟩
  obtain ⟨b1, b2, b3, b4, b5, b6⟩ := broad_facts
  refine ⟨(by show 5 ≤ sizeLine; decide), fun sA H1 s1 n1 e1 => ?_⟩
  refine ⟨rfl, rfl, right_wk (d1 := .str "k") (d7 := .tup []) (.str "k") (by decide +kernel) (.tup (hds H1) .nil) (by decide +kernel) (by decide +kernel) fun x H2 s2 n2 hx => ?_⟩
  refine ⟨(by show 1 ≤ sizeLine; decide), fun l H3 s3 n3 e3 => ⟨l, 10, _, rfl, rfl, e3, by decide, by decide, (by show 1 * 10 ≤ sizeLine; decide), fun c n4 => ?_⟩⟩
  have s4 : Same H3 (upd H3 c (.lst (List.replicate (10 : Int).toNat [V.ref x]).flatten)) := Same.new n4
  generalize hG4 : upd H3 c (.lst (List.replicate (10 : Int).toNat [V.ref x]).flatten) = G4 at s4
  have e4 : G4 c = some (.lst (List.replicate 10 [V.ref x]).flatten) := by rw [← hG4]; exact upd_same
  have x4 := ((pt_of hx).same s3).same s4
  have r4 : G4 sA = some (.lst [.str "permanent", .str "one", .int 1, .int 1, .non]) := s4 _ _ (s3 _ _ (s2 _ _ e1))
  refine ⟨_, rfl, .str "k", _, _, _, _, _, .str "k", .str "permanent", .str "one", .int 1, .int 1, .non, c, sA, _, _, rfl, e4, r4, Nat.zero_le _, (by show 10 ≤ 13; decide), .str "k", .str _, .str _, .int _, .int _, .non, kid_rep (.pn x4 (by decide) (by decide)) 10, outs_right (by decide +kernel) b5 fun y H5 s5 hy => ?_⟩
  have hy : Pt K H5 (.ref y) group := hy (List.replicate 10 .wrk) rfl
  refine ⟨(by show 1 ≤ sizeLine; decide), fun l2 H6 s6 n6 e6 => ⟨l2, 9, _, rfl, rfl, e6, by decide, by decide, (by show 1 * 9 ≤ sizeLine; decide), fun c2 n7 => ?_⟩⟩
  have s7 : Same H6 (upd H6 c2 (.lst (List.replicate (9 : Int).toNat [V.ref y]).flatten)) := Same.new n7
  generalize hG7 : upd H6 c2 (.lst (List.replicate (9 : Int).toNat [V.ref y]).flatten) = G7 at s7
  have e7 : G7 c2 = some (.lst (List.replicate 9 [V.ref y]).flatten) := by rw [← hG7]; exact upd_same
  have S7 := s5.trans (s6.trans s7)
  refine ⟨_, rfl, .str "k", _, _, _, _, _, .str "k", .str "permanent", .str "one", .int 1, .int 1, .non, c2, sA, _, _, rfl, e7, S7 _ _ r4, Nat.zero_le _, (by show 9 ≤ 13; decide), .str "k", .str _, .str _, .int _, .int _, .non, kid_rep (.pn ((hy.same s6).same s7) (by rw [b1]; decide) (by rw [b2]; decide)) 9, outs_right (by decide +kernel) b6 fun z H8 s8 hz => ?_⟩
  exact k _ H8 (s1.trans (s2.trans (s3.trans (s4.trans (S7.trans s8))))) (hz (List.replicate 9 group) rfl)
end
end K02
/-! try .. except (A, B) as n: .. where the error is kept: it is tracked behind the suite -/
namespace L2
open PySem PySem.Spec PyProof.Rows
/-- an error that was caught: its class, its dict -/
def ExK (cls : Value) (d : Option Addr) (a : Addr) : HO := .ext fun h => ∃ oe vs, h.get? a = some oe ∧ Zc cls d oe ∧ oe.data = .fields vs
theorem exK_ok {P : Program} {w : World} {H : Hp} {h : Heap} {a : Addr} {cls : Value} {d : Option Addr} {oe : Obj} (at_ : h.get? a = some oe) (z : Zc cls d oe) (f : ∃ vs, oe.data = .fields vs) : ObjOk P w H h a (ExK cls d a) := by
  obtain ⟨vs, f⟩ := f
  exact ⟨⟨oe, vs, at_, z, f⟩, ⟨oe, at_⟩, fun _ _ ⟨o2, v2, e, z2, f2⟩ k => ⟨o2, v2, k _ e, z2, f2⟩⟩
theorem FlyingZ.more {B h h2 : Heap} {l : List Env} {a : Addr} {Z : Obj → Prop} (x : HandSPX.FlyingZ B l a Z h) (k : ∀ b o, h.get? b = some o → h2.get? b = some o) : HandSPX.FlyingZ B l a Z h2 := by
  obtain ⟨f1, f2, f3, oe, vs, T, oT, ts, e1, e2, e3, e4, e5, e6, e7, e8, e9⟩ := x
  exact ⟨fun b o e => k b o (f1 b o e), f2, f3.of_keeps fun b o e _ => ⟨o, k b o e, rfl⟩, oe, vs, T, oT, ts, k _ _ e1, e2, e3, e4, e5, e6, k _ _ e7, e8, e9⟩
section
variable {X : Cx} {pins : List (Addr × Obj)} {σ : St} {H : Hp} {s : Shared}
/-- an object that came in since the entry is tracked from now on -/
theorem Inv.track {a : Addr} {o : HO} (I : Inv X pins σ H s) (na : H a = none) (n0 : X.s_0.heap.get? a = none) (nL : a ≠ X.env.locals) (nC : ∀ x c, X.env.cells.lookup x = some c → c ≠ a) (nP : ∀ p ∈ X.pn ++ pins, p.1 ≠ a) (new : ObjOk X.prog X.w (upd H a o) s.heap a o) : Inv X pins σ (upd H a o) s := by
  have keep : ∀ {b : Addr} {u : HO}, H b = some u → upd H a o b = some u := fun {b u} e => by rw [upd_ne (ne_of_none e na)]; exact e
  refine ⟨I.ok, I.os, I.bare, ⟨I.base.keep, I.base.slot, fun b u e n x => ?_, I.base.there, fun b xs e => keep (I.base.tups b xs e), fun b ob u e => keep (I.base.frzs b ob u e), fun b ps e => ?_⟩, I.loc, I.cell, ?_, fun x c e => ?_, fun p hp => ?_, HOk.laidN I.hok (fun _ _ e => e) na new, I.len⟩
  · rw [upd_ne (fun z => by rw [z, n0] at e; cases e)]
    exact I.base.free b u e n x
  · obtain ⟨more, q⟩ := I.base.tbls b ps e
    exact ⟨more, keep q⟩
  · rw [upd_ne nL.symm]
    exact I.free
  · rw [upd_ne (nC x c e)]
    exact I.freeC x c e
  · obtain ⟨q1, q2, q3⟩ := I.pin p hp
    exact ⟨q1, by rw [upd_ne (nP p hp)]; exact q2, q3⟩
end
/-- what «except (c1, c2) as n» wishes, the error tracked behind the suite -/
def wKeep (K : PySem.W.Frag) (cs : List Value) (i : Nat) (ts : Addr → Value → Option Addr → TS) (Wout : WX) (D : Ends) : WX := fun cls d σ H =>
  ∃ b, PySem.W.exmAny K cls cs = some b ∧ (b = true → ∀ a, H a = none → ts a cls d { nx := fun σ' H' => D.nx (σ'.set i none) (upd H' a (ExK cls d a)), rt := fun v H' => D.rt v (upd H' a (ExK cls d a)), bk := fun σ' H' => D.bk (σ'.set i none) (upd H' a (ExK cls d a)), ct := fun σ' H' => D.ct (σ'.set i none) (upd H' a (ExK cls d a)) } (σ.set i (some (.ref a))) H) ∧
    (b = false → Wout cls d σ H)
/-- a test by clauses: t reads to something that matches by the classes cs -/
def TestBy (X : Cx) (t : Expr) (cs : List Value) : Prop := ∀ (a : Addr) (oe : Obj) (pn : List (Addr × Obj)) (σ : St) (H : Hp) (s : Shared) (cls : Value) (b : Bool) (R : Bool → Shared → Prop) (E : Value → Shared → Prop), Inv (X.suite a ((a, oe) :: pn)) [] σ H s → s.heap.get? a = some oe → oe.cls = cls →
  PySem.W.exmAny X.K cls cs = some b → (∀ s2, (∀ c o, s.heap.get? c = some o → s2.heap.get? c = some o) → s2.gens = s.gens → s2.os = s.os → R b s2) →
  wpAny (model X.prog X.w) (X.A.mark (some (.ref a))) (eval t X.env) (fun c s1 => wpAny (model X.prog X.w) (X.A.mark (some (.ref a))) (excMatches (.ref a) c) R E s1) E s
section
variable {X : Cx}
theorem test_pair {x1 x2 : Str} {p1 p2 tp : Pos} {k : Nat} {c1 c2 : Value} (h1 : Names X x1 c1) (h2 : Names X x2 c2) : TestBy X (.Tuple [.Name x1 p1, .Name x2 p2] k tp) [c1, c2] := by
  intro a oe pn σ H s cls b R E S at_ ec hb fin
  have one : ∀ {x : Str} {c : Value} {p : Pos} {Q : Value → Shared → Prop} {E : Value → Shared → Prop}, Names X x c → Q c s → wpAny (model X.prog X.w) (X.A.mark (some (.ref a))) (eval (.Name x p) X.env) Q E s := fun {x c p Q E} hc q => by
    obtain ⟨hg, hd, hm | ⟨hm, hv, hn⟩⟩ := hc
    · exact ld_glob (X := X.suite a ((a, oe) :: pn)) S hg hm q hd
    · exact ld_blt (X := X.suite a ((a, oe) :: pn)) S hg hm hv q hn hd
  refine wpAny_Tuple_spliced ?_
  refine Calls.spliced_cons (one h1 (Calls.spliced_cons (one h2 (Calls.spliced_nil ⟨(by show 2 ≤ sizeLine; decide), ?_⟩))))
  have up : ∀ c o, s.heap.get? c = some o → (s.heap.push { cls := .type "tuple", data := .seq [c1, c2].toArray }).get? c = some o := fun c o e => Heap.get?_push_of_some _ e
  have LT : PySem.W.Looks (model X.prog X.w) (s.heap.push { cls := .type "tuple", data := .seq [c1, c2].toArray }) (typeOf (.ref a)) cls := fun A Q E s k q => wpAny_typeOf_ref (k _ _ (up _ _ at_)) (by rw [ec]; exact q)
  have kin : X.K.In (s.heap.push { cls := .type "tuple", data := .seq [c1, c2].toArray }) := S.kIn.keeps up
  exact (PySem.W.exm_tup2 kin LT (Heap.get?_push_size _ rfl) hb).here (fin _ up rfl rfl)
theorem test_one {x : Str} {p : Pos} {c : Value} (h : Names X x c) (h1 : ∀ cls b, PySem.W.exmAny X.K cls [c] = some b → PySem.W.exmOne X.K cls c = some b) : TestBy X (.Name x p) [c] := by
  intro a oe pn σ H s cls b R E S at_ ec hb fin
  have LT : PySem.W.Looks (model X.prog X.w) s.heap (typeOf (.ref a)) cls := fun A Q E s k q => wpAny_typeOf_ref (k _ _ at_) (by rw [ec]; exact q)
  have q := (PySem.W.exm_one (M := model X.prog X.w) S.kIn LT (h1 cls b hb)).here (A := X.A.mark (some (.ref a))) (E := E) (fin s (fun _ _ e => e) rfl rfl)
  obtain ⟨hg, hd, hm | ⟨hm, hv, hn⟩⟩ := h
  · exact ld_glob (X := X.suite a ((a, oe) :: pn)) S hg hm q hd
  · exact ld_blt (X := X.suite a ((a, oe) :: pn)) S hg hm hv q hn hd
variable {n : Str} {t : Expr} {cs : List Value} {i : Nat} {body suite : List Stmt} {b₀ : Stmt} {pos pos2 : Pos} {tb : WX → TS} {ts : Addr → Value → Option Addr → TS} {Wout : WX}
theorem ps_try_keep (stk : X.stack = X.env :: X.outer) (frm : X.env.frame = some X.env.locals) (noex : X.ex = []) (hN : X.N.Nodup) (hi : X.N[i]? = some n) (loc : X.env.kindOf n = some .local) (ht : TestBy X t cs) (tk : Takes X Wout)
    (hb : ∀ (W : WX) (pn : List (Addr × Obj)) (xe : Value → Shared → Prop), Takes (X.tr pn xe) W → PassesOwn (model X.prog X.w) X.A X.env xe → PSs (X.tr pn xe) body (tb W))
    (hsu : ∀ (a : Addr) (oe : Obj) (cls : Value) (d : Option Addr) (pn : List (Addr × Obj)), Zc cls d oe → (∃ vs, oe.data = .fields vs) → PSs (X.suite a ((a, oe) :: pn)) (b₀ :: suite) (ts a cls d)) :
    PS X (.Try body [.ExceptHandler (some t) (some n) (b₀ :: suite) pos2] [] [] pos) (fun D σ H => tb (wKeep X.K cs i ts Wout D) D σ H) := by
  refine ⟨fun pins s σ H D I h => ?_⟩
  have ok := I.ok
  have frames : X.A.frames = some (X.env :: X.outer) := by rw [ok.frames, stk]
  have isLoc : Loc X.env.scope n := .inl loc
  refine wpAny_Try_except ?_
  refine wpAny_mono ((hb (wKeep X.K cs i ts Wout D) (X.pn ++ pins) (fun e s₁ => wpAny (model X.prog X.w) X.A (noteFrame e X.env) (fun _ s₂ => wpAny (model X.prog X.w) X.A (setFlight e none) (fun _ s₃ =>
    wpAny (model X.prog X.w) X.A (handleBy e X.env [.ExceptHandler (some t) (some n) (b₀ :: suite) pos2]) (SP X pins D) X.xe s₃) X.xe s₂) X.xe s₁) (fun u sE air => ?_) PassesOwn.looking).run [] s σ H D (I.toTry _) h) (fun f s1 q => ?_) (fun e s1 he => he)
  · obtain ⟨a, B, sI, pins', σ', H', cls, d, rfl, J', ground, up, sky, na, os, ag, b, hb1, yes, no⟩ := air
    have J : Inv X pins σ' H' sI := J'.ofTry ok
    have sky' : Sky B (X.env :: X.outer) a (Zc cls d) X.env.locals sE.heap := by rw [← stk]; exact sky
    show wpAny (model X.prog X.w) X.A (noteFrame (.ref a) X.env) _ _ _
    refine Sky.land Zc.steady frames frm sky' fun hF fl up2 => ?_
    have JF : Inv X pins σ' H' { sE with heap := hF } := J.landed ground fl.1 (up.trans up2) os ag
    obtain ⟨oF, vF, atF, zF, dF⟩ := fl.there
    have notFrame : ∀ {h : Heap} {o : Obj} {vs : Array Value}, h.FunFrames B (X.env :: X.outer) → h.get? a = some o → o.data = .fields vs → a ∉ frs (X.env :: X.outer) := fun {h o vs} ff e dd hm => by
      obtain ⟨_, o2, e2, nf⟩ := ff.mem hm
      rw [e] at e2
      cases e2
      exact nf _ dd
    have nfr := notFrame fl.2.2.1 atF dF
    have nL : a ≠ X.env.locals := fun z => nfr (List.mem_filterMap.mpr ⟨X.env, List.mem_cons_self, by rw [frm, z]⟩)
    have nF : a ∉ X.fs := fun hm => by
      obtain ⟨e, he, q⟩ := List.mem_filterMap.mp hm
      exact nfr (List.mem_filterMap.mpr ⟨e, List.mem_cons_of_mem _ he, q⟩)
    -- it came in since the entry
    have nI : sI.heap.get? a = none := by
      cases q : sI.heap.get? a with
      | none => rfl
      | some o =>
        have z := ground a o q (by rw [stk]; exact nfr)
        rw [fl.2.1] at z
        cases z
    have n0 : X.s_0.heap.get? a = none := by
      cases q : X.s_0.heap.get? a with
      | none => rfl
      | some o =>
        obtain ⟨o2, z⟩ := J.base.there a o q (by rw [noex]; exact fun z => nomatch z)
        rw [nI] at z
        cases z
    have nC : ∀ x c, X.env.cells.lookup x = some c → c ≠ a := fun x c e z => by
      obtain ⟨v, o, q, _⟩ := J.cell x c e
      rw [z, nI] at q
      cases q
    have nP : ∀ p ∈ X.pn ++ pins, p.1 ≠ a := fun p hp z => by
      have q := (J.pin p hp).1
      rw [z, nI] at q
      cases q
    have SF := JF.suite atF dF na nL nF
    refine wpAny_handleBy_cons (codeAny_handlers_test ?_) (by intro q; cases q)
    refine ht a oF (X.pn ++ pins) σ' H' { sE with heap := hF } cls b _ _ SF atF zF.1 hb1 fun sG keep gG oG => ?_
    have flG : HandSPX.FlyingZ B (X.env :: X.outer) a (Zc cls d) sG.heap := FlyingZ.more fl keep
    have upG : hF.UpToSlots sG.heap := (Heap.UpToSlots.of_keeps keep)
    have osG : sG.os = sI.os := oG.trans os
    have agG : AllBare sG.gens := by rw [gG]; exact ag
    obtain ⟨hG, gensG, drawG, tokG, oSG⟩ := sG
    cases b with
    | true =>
      refine codeAny_handlers_suite_as ?_
      refine HandSPX.lands_againZ flG fun h4 fl4 up4 => ?_
      have J4 : Inv X pins σ' H' { heap := h4, gens := gensG, drawn := drawG, toks := tokG, os := oSG } := J.landed ground fl4.1 (((up.trans up2).trans upG).trans up4) osG agG
      obtain ⟨oe4, vs4, he4, hz4, hd4⟩ := fl4.there
      have S4 := J4.suite he4 hd4 na nL nF
      refine store_ok (X := X.suite a ((a, oe4) :: (X.pn ++ pins))) (v := .ref a) S4 hN hi isLoc rfl (fun s5 S5 => ?_) (.inr loc)
      refine wpAny_mono ((hsu a oe4 cls d (X.pn ++ pins) hz4 ⟨_, hd4⟩).run [] s5 _ H' _ S5 (yes rfl a na)) (fun f s6 hsp => ?_) (fun _ _ z => False.elim z)
      have end_ : ∀ {σ6 : St} {H6 : Hp} {Q : Shared → Prop}, Inv (X.suite a ((a, oe4) :: (X.pn ++ pins))) [] σ6 H6 s6 → (∀ s7, Inv X pins (σ6.set i none) (upd H6 a (ExK cls d a)) s7 → Q s7) →
          wpAny (model X.prog X.w) X.A (do bindName X.env n .none; unbindBehindTheSuite X.env n pos2) (fun _ s7 => Q s7) X.xe s6 := fun {σ6 H6 Q} S6 hq => by
        obtain ⟨p1, p2, _⟩ := S6.pin (a, oe4) (List.mem_append_left _ List.mem_cons_self)
        exact gone_ok (Inv.track (S6.unsuite ok) p2 n0 nL nC nP (exK_ok p1 hz4 ⟨_, hd4⟩)) hN hi loc hq
      cases f with
      | next =>
        obtain ⟨σ6, H6, S6, q6⟩ := hsp
        exact end_ S6 fun s7 J7 => ⟨_, _, J7, q6⟩
      | brk =>
        obtain ⟨σ6, H6, S6, q6⟩ := hsp
        exact end_ S6 fun s7 J7 => ⟨_, _, J7, q6⟩
      | cont =>
        obtain ⟨σ6, H6, S6, q6⟩ := hsp
        exact end_ S6 fun s7 J7 => ⟨_, _, J7, q6⟩
      | ret u =>
        obtain ⟨v6, σ6, H6, S6, r6, q6⟩ := hsp
        exact end_ S6 fun s7 J7 => ⟨_, _, _, J7, r6, q6⟩
    | false =>
      show wpAny _ X.A (handleBy (.ref a) X.env []) _ _ _
      refine wpAny_handleBy_nil ?_
      obtain ⟨k1, k2, k3, oe, vs, T, oT, ts', he, hz, hd, h1, hr⟩ := id flG
      unfold PySem.passOn
      refine wpAny_bind (wpAny_field he hd h1 ?_)
      rw [if_neg (show ¬ ((Value.ref T == Value.none) = true) from by simp)]
      have fin : wpAny (model X.prog X.w) X.A (setFlight (.ref a) X.env.frame) (fun _ s4 => wpAny (model X.prog X.w) X.A (throw (.ref a) : Sem Flow) (SP X pins D) X.xe s4) X.xe { heap := hG, gens := gensG, drawn := drawG, toks := tokG, os := oSG } := by
        rw [frm]
        refine HandSPX.setFlight_upZ flG fun h4 hh4 up4 => wpAny_throw (tk _ _ ?_)
        exact ⟨a, B, sI, pins, σ', H', cls, d, rfl, J, ground, ((up.trans up2).trans upG).trans up4, .inr (.inr (by rw [stk]; exact hh4)), na, osG, agG, no rfl⟩
      first
        | exact wpAny_bind (wpAny_pure (wpAny_bind fin))
        | exact wpAny_bind fin
  · cases f with
    | next =>
      obtain ⟨σ', H', J', q⟩ := q
      exact wpAny_execs_nil ⟨σ', H', J'.ofTry ok, q⟩
    | brk =>
      obtain ⟨σ', H', J', q⟩ := q
      exact ⟨σ', H', J'.ofTry ok, q⟩
    | cont =>
      obtain ⟨σ', H', J', q⟩ := q
      exact ⟨σ', H', J'.ofTry ok, q⟩
    | ret u =>
      obtain ⟨v, σ', H', J', r, q⟩ := q
      exact ⟨v, σ', H', J'.ofTry ok, r, q⟩
end
end L2
/-! an error that was caught and kept: its field, isinstance -/
namespace L2
open PySem PySem.Spec PyProof.Rows
section
variable {X : Cx} {C : Addr} {f : Str} {newId : String} {bmB : List Value} {pins : List (Addr × Obj)} {σ : St} {H : Hp} {s : Shared}
/-- a kept error of the class at C at a, its dict at d -/
def Kept (H : Hp) (a C d : Addr) (fs : List (Str × V)) : Prop := H a = some (ExK (.ref C) (some d) a) ∧ H d = some (.xd fs)
theorem kept_at {a d : Addr} {fs : List (Str × V)} (I : Inv X pins σ H s) (h : Kept H a C d fs) : ∃ (oe : Obj) (od : Obj) (mA : Str → Option Value), PySem.W.InstAt s.heap a oe C (some od) ∧ (∀ g, PySem.W.lookIn g od = some (mA g)) ∧ ∀ g, RelO (fs.lookup g) (mA g) := by
  obtain ⟨ea, ed⟩ := h
  have za : ObjOk X.prog X.w H s.heap a (ExK (.ref C) (some d) a) := I.hok a _ ea
  obtain ⟨⟨oe, vs, ho, ⟨hc, hd⟩, hf⟩, _, _⟩ := za
  have zd : ObjOk X.prog X.w H s.heap d (.xd fs) := I.hok d _ ed
  obtain ⟨mA, ns, rel⟩ := zd
  obtain ⟨od, hod, look⟩ := lookIn_ns ns
  refine ⟨oe, od, mA, ⟨ho, hc, by unfold PySem.W.notCls; rw [hf], ?_⟩, look, rel⟩
  rw [hd]
  exact hod
/-- e.f -/
def tKfl (K : PySem.W.Frag) (newId : String) (bmB : List Value) (f : Str) (te : TE) : TE := fun σ H Q => te σ H fun v H1 => ∃ (a C d : Addr) (fs : List (Str × V)) (y : V), v = .ref a ∧ Kept H1 a C d fs ∧ fs.lookup f = some y ∧
  XCl K C newId bmB ∧ PySem.W.findIn K (.ref C) f = some none ∧ Q y H1
theorem pe_kfl {e : Expr} {te : TE} {apos : Pos} (he : PE X e te) (hb : attributeBase e f X.env (eval e X.env) = eval e X.env := by rfl) : PE X (.Attribute e f apos) (tKfl X.K newId bmB f te) := by
  refine ⟨fun pins s σ H Q I h => attr_of hb (thn (he.run pins s σ H _ I h) fun u s1 hh => ?_)⟩
  obtain ⟨v, H1, I1, rv, a, C, d, fs, y, rfl, kp, lf, T, nf, q⟩ := hh
  obtain rfl : u = Value.ref a := rv
  obtain ⟨oe, od, mA, J, look, rel⟩ := kept_at I1 kp
  obtain ⟨w0, hw, rw0⟩ := RelO.some_of (v := y) (o := mA f) (by rw [← lf]; exact rel f)
  exact PySem.PX.exc_get I1.kIn J T.ga T.gg T.xb (PySem.W.findObj_own T.hd nf rfl (by rw [look, hw])) (handed_of rw0) ⟨y, H1, I1.tok _, rw0, q⟩
/-- isinstance(e, c) -/
def rIsK (K : PySem.W.Frag) (newId : String) (bmB : List Value) : List V → Hp → VK → Prop := fun xs H Q => ∃ (a C d : Addr) (fs : List (Str × V)) (c : V) (u : Value) (b : Bool), xs = [.ref a, c] ∧ Kept H a C d fs ∧
  XCl K C newId bmB ∧ ClsV c u ∧ PySem.W.kitOne K (.ref C) u = some b ∧ Q (.bl b) H
theorem call_isK : CallR X (.builtin "isinstance") (rIsK X.K newId bmB) := by
  intro pins s σ H xs us Q I r h
  obtain ⟨a, C, d, fs, c, u, b, rfl, kp, T, kc, kt, q⟩ := h
  obtain ⟨u1, u2, rfl, r1, r2⟩ := vals2 r
  obtain rfl : u1 = Value.ref a := r1
  obtain rfl : u2 = u := kc.eq r2
  obtain ⟨oe, od, mA, J, look, rel⟩ := kept_at I kp
  have cl : (PySem.W.clsIn X.K C).isSome = true := T.ic
  exact PySem.W.kia_one (PySem.W.kitx_exc (od := some od) cl T.ga T.gg T.xb T.ca T.sg T.tk T.mo) I.kIn J kt (fun z => nomatch z) fun tk => ⟨.bl b, H, I.tok tk, rfl, q⟩
end
end L2
/-! list.count of any flat value; isinstance(e, (C1, C2, ..)) of a kept error -/
namespace L2
open PySem PySem.Spec PyProof.Rows
theorem cnt_eqU {x : V} : ∀ {xs : List V} {us : List Value}, Vals xs us → xs.all flatV = true → us.countP (eqU x) = xs.countP fun y => eqV y x
  | _, _, .nil, _ => rfl
  | y :: xs, u :: us, .cons r t, f => by
    rw [List.all_cons, Bool.and_eq_true] at f
    rw [List.countP_cons, List.countP_cons, eqU_of r f.1, cnt_eqU t f.2]
section
variable {X : Cx} {newId : String} {bmB : List Value}
def rCntF (K : PySem.W.Frag) : V → List V → Hp → VK → Prop := fun x xs H Q => ∃ (p : Addr) (ys : List V) (y : V), x = .ref p ∧ xs = [y] ∧ SqL K H p ys ∧ flatV y = true ∧ ys.all flatV = true ∧ Q (.int (ys.countP (fun z => eqV z y) : Nat)) H
theorem mt_fcount : MtR X "list.count" (rCntF X.K) := by
  intro pins s σ H x xs v us Q I rx rxs h
  obtain ⟨p, ys, y, rfl, rfl, hs, fy, fs, q⟩ := h
  cases rx
  obtain ⟨u, rfl, ru⟩ := rxs.one
  obtain ⟨its, rv, ⟨⟨cls, dd, data, sl⟩, n, ho, hc, hdn, hd⟩, few⟩ := I.list hs
  simp only at hc hd
  subst hc hd
  refine call_meets PySem.F.slot_list_count ⟨_, ho, rfl⟩ PySem.F.entry_list_count (PySem.F.args_list_count_2 _ _) (SeqAt.list_countAt p its.toArray n dd sl u (eqU y)) ⟨ho, fun w hw => mem_eqAt ru fy rv fs w (by simpa using hw), ?_⟩
  refine ⟨.int (ys.countP (fun z => eqV z y) : Nat), H, I.tok _, ⟨s.toks, ?_⟩, q⟩
  show Value.int ((its.toArray.toList.countP (eqU y) : Nat) : Int) s.toks = Value.int ((ys.countP (fun z => eqV z y) : Nat) : Int) s.toks
  rw [show its.toArray.toList.countP (eqU y) = its.countP (eqU y) by simp, cnt_eqU rv fs]
/-- isinstance(e, (c1, ..)): the tuple that was just laid -/
def rIsKT (K : PySem.W.Frag) (newId : String) (bmB : List Value) : List V → Hp → VK → Prop := fun xs H Q => ∃ (a C d tp : Addr) (fs : List (Str × V)) (cs : List V) (us : List Value) (b : Bool), xs = [.ref a, .ref tp] ∧ Kept H a C d fs ∧ XCl K C newId bmB ∧ H tp = some (.tup cs) ∧ Paired ClsV cs us ∧ PySem.W.kitAny K (.ref C) us = some b ∧ Q (.bl b) H
theorem call_isKT : CallR X (.builtin "isinstance") (rIsKT X.K newId bmB) := by
  intro pins s σ H xs us Q I r h
  obtain ⟨a, C, d, tp, fs, cs, ws, b, rfl, kp, T, hT, k, e, q⟩ := h
  obtain ⟨u1, u2, rfl, r1, r2⟩ := vals2 r
  obtain rfl : u1 = Value.ref a := r1
  cases (show u2 = Value.ref tp from r2)
  obtain ⟨oe, od, mA, J, look, rel⟩ := kept_at I kp
  have cl : (PySem.W.clsIn X.K C).isSome = true := T.ic
  obtain ⟨_, its, rv, o, h1, h2, n, h3⟩ := (show ObjOk X.prog X.w H s.heap tp (.tup cs) from I.hok tp _ hT)
  have e3 := ClsV.all k rv
  subst e3
  obtain ⟨oc, od2, dt, sl⟩ := o
  simp only at h2 h3
  subst h2 h3
  exact PySem.W.kia_tup (PySem.W.kitx_exc (od := some od) cl T.ga T.gg T.xb T.ca T.sg T.tk T.mo) I.kIn J h1 e (fun z => nomatch z) fun tk => ⟨.bl b, H, I.tok tk, rfl, q⟩
end
end L2
/-! _law_told: what a call lets out -/
namespace K02
open PySem PySem.Spec PyProof.Rows L2
section
variable {K : PySem.W.Frag} {mg : Str → Option Value} (T : Txt K mg)
include T
theorem Txt.c_BadEntry : ∃ u, mg "BadEntry" = some u ∧ RelV (.ref (He.ga K "BadEntry")) u := T.cc "BadEntry" (by simp [clss])
theorem Txt.c_BadInput : ∃ u, mg "BadInput" = some u ∧ RelV (.ref (He.ga K "BadInput")) u := T.cc "BadInput" (by simp [clss])
theorem Txt.c_BadReason : ∃ u, mg "BadReason" = some u ∧ RelV (.ref (He.ga K "BadReason")) u := T.cc "BadReason" (by simp [clss])
theorem Txt.c_BadRoot : ∃ u, mg "BadRoot" = some u ∧ RelV (.ref (He.ga K "BadRoot")) u := T.cc "BadRoot" (by simp [clss])
theorem Txt.c_BadText : ∃ u, mg "BadText" = some u ∧ RelV (.ref (He.ga K "BadText")) u := T.cc "BadText" (by simp [clss])
theorem Txt.c_BadTick : ∃ u, mg "BadTick" = some u ∧ RelV (.ref (He.ga K "BadTick")) u := T.cc "BadTick" (by simp [clss])
theorem Txt.c_BadValue : ∃ u, mg "BadValue" = some u ∧ RelV (.ref (He.ga K "BadValue")) u := T.cc "BadValue" (by simp [clss])
theorem Txt.c_BadWord : ∃ u, mg "BadWord" = some u ∧ RelV (.ref (He.ga K "BadWord")) u := T.cc "BadWord" (by simp [clss])
end
def kinds : List Str := ["BadSetting", "BadChild", "BadEntry", "BadInput", "BadReason", "BadRoot", "BadScript", "BadText", "BadTick", "BadValue", "BadWord"]
/-- how the errors match -/
structure ErrT (K : PySem.W.Frag) : Prop where
  x1 : PySem.W.exmOne K (.ref (He.ga K "BadSetting")) (.ref (He.ga K "PlanError")) = some true
  x2 : PySem.W.exmOne K (.ref (He.ga K "BadChild")) (.ref (He.ga K "PlanError")) = some true
  k1 : ∀ p ∈ kinds, PySem.W.kitOne K (.ref (He.ga K "BadSetting")) (.ref (He.ga K p)) = some (decide (p = "BadSetting"))
  k2 : ∀ p ∈ kinds, PySem.W.kitOne K (.ref (He.ga K "BadChild")) (.ref (He.ga K p)) = some (decide (p = "BadChild"))
  v1 : PySem.W.kitOne K (.ref (He.ga K "BadSetting")) (.type "ValueError") = some true
  v2 : PySem.W.kitOne K (.ref (He.ga K "BadChild")) (.type "ValueError") = some true
theorem exm_one {K : PySem.W.Frag} {c a : Value} {x : Bool} (h1 : PySem.W.exmOne K c a = some x) : PySem.W.exmAny K c [a] = some x := by
  unfold PySem.W.exmAny PySem.W.exmAny
  rw [h1]
  cases x <;> rfl
theorem one_exm {K : PySem.W.Frag} {c : Value} : ∀ cls b, PySem.W.exmAny K cls [c] = some b → PySem.W.exmOne K cls c = some b := fun cls b h => by
  unfold PySem.W.exmAny PySem.W.exmAny at h
  cases q : PySem.W.exmOne K cls c with
  | none => rw [q] at h; cases h
  | some x => rw [q] at h; cases x <;> exact h
theorem kit_three {K : PySem.W.Frag} {t a b c : Value} {x y z : Bool} (h1 : PySem.W.kitOne K t a = some x) (h2 : PySem.W.kitOne K t b = some y) (h3 : PySem.W.kitOne K t c = some z) : PySem.W.kitAny K t [a, b, c] = some (x || (y || (z || false))) := by
  unfold PySem.W.kitAny PySem.W.kitAny PySem.W.kitAny PySem.W.kitAny
  rw [h1, h2, h3]
  cases x <;> cases y <;> cases z <;> rfl
theorem three_of {σ : L2.St} (h : σ.length = 6) : ∃ a b c d e f, σ = [a, b, c, d, e, f] := by
  match σ, h with
  | [a, b, c, d, e, f], _ => exact ⟨a, b, c, d, e, f, rfl⟩
section
variable {P : Program} {w : World} {K : PySem.W.Frag} {mg : Str → Option Value} {base : Heap}
abbrev s_law_told : Stmt := (top 74)
def N_law_told : List Str := ["kind", "v", "c", "caught", "error", "some"]
theorem sc_law_told : FnScope N_law_told ["kind", "v", "c"] (defScope s_law_told) := ⟨rfl, rfl, rfl, by decide +kernel, rfl, by decide +kernel, by decide +kernel⟩
def dueW (ps : List (Str × Bool)) : Str × V := match firstBad ps with
  | some y => ("setting", .str y)
  | none => ("made", .non)
def dueS (ps : List (Str × Bool)) (ks : List Kid) : Str × V := match firstBad ps with
  | some y => ("setting", .str y)
  | none => match firstKid 0 1 ks with
    | some i => ("child", .int (i : Nat))
    | none => ("made", .non)
/-- the word and what goes with it, in a new pair -/
def spTold (K : PySem.W.Frag) : Sp := fun vs H Q _ => ∃ kind dv c es xs ks v1 v2 v5 d1 d2 d5, vs = [.str kind, .ref dv, .ref c] ∧ H dv = some (.dK es) ∧ H c = some (.lst xs) ∧ xs.length ≤ 13 ∧ KidAll K H xs ks ∧ val es "name" v1 ∧ val es "restart" v2 ∧ val es "deadline" v5 ∧ Dd K H v1 d1 ∧ Dd K H v2 d2 ∧ Dd K H v5 d5 ∧
  ∃ due : Str × V, ((kind = "s" ∧ ∃ v3 v4 v6 d3 d4 d6, val es "strategy" v3 ∧ val es "most" v4 ∧ val es "span" v6 ∧ Dd K H v3 d3 ∧ Dd K H v4 d4 ∧ Dd K H v6 d6 ∧ due = dueS (sset d1 d2 d3 d4 d6 d5) ks) ∨
   (kind = "w" ∧ ∃ v3 v4 v6 v7 d3 d4 d6 d7, val es "opening" v3 ∧ val es "closing" v4 ∧ val es "refused" v6 ∧ val es "script" v7 ∧ Dd K H v3 d3 ∧ Dd K H v4 d4 ∧ Dd K H v6 d6 ∧ Dd K H v7 d7 ∧ due = dueW (wset d1 d2 d3 d4 d5 d6 d7))) ∧
  ∀ t H', Same H H' → H' t = some (.tup [.str due.1, due.2]) → Q (.ref t) H'
/-- what the call lets out -/
def EMade (K : PySem.W.Frag) (H : Hp) (due : Str × V) : XK := fun cls d H' => Same H H' ∧ ∃ d0, d = some d0 ∧ ((cls = .ref (He.ga K "BadSetting") ∧ due.1 = "setting" ∧ H' d0 = some (.xd [("setting", due.2)])) ∨ (cls = .ref (He.ga K "BadChild") ∧ due.1 = "child" ∧ H' d0 = some (.xd [("index", due.2)])))
theorem made_or {H : Hp} {kind : Str} {es : List (Key × V)} {ks : List Kid} {d1 d2 d5 : Dt} {due : Str × V} {Q : Addr → Hp → Prop} {E : XK}
    (or : (kind = "s" ∧ ∃ v3 v4 v6 d3 d4 d6, val es "strategy" v3 ∧ val es "most" v4 ∧ val es "span" v6 ∧ Dd K H v3 d3 ∧ Dd K H v4 d4 ∧ Dd K H v6 d6 ∧ due = dueS (sset d1 d2 d3 d4 d6 d5) ks) ∨
      (kind = "w" ∧ ∃ v3 v4 v6 v7 d3 d4 d6 d7, val es "opening" v3 ∧ val es "closing" v4 ∧ val es "refused" v6 ∧ val es "script" v7 ∧ Dd K H v3 d3 ∧ Dd K H v4 d4 ∧ Dd K H v6 d6 ∧ Dd K H v7 d7 ∧ due = dueW (wset d1 d2 d3 d4 d5 d6 d7)))
    (hq : due = (("made" : Str), V.non) → ∀ x H', Same H H' → Q x H') (he : ∀ cls d H', EMade K H due cls d H' → E cls d H') :
    (kind = "s" ∧ ∃ v3 v4 v6 d3 d4 d6, val es "strategy" v3 ∧ val es "most" v4 ∧ val es "span" v6 ∧ Dd K H v3 d3 ∧ Dd K H v4 d4 ∧ Dd K H v6 d6 ∧ Outs K H d1 d2 d3 d4 d6 d5 ks Q E) ∨
      (kind = "w" ∧ ∃ v3 v4 v6 v7 d3 d4 d6 d7, val es "opening" v3 ∧ val es "closing" v4 ∧ val es "refused" v6 ∧ val es "script" v7 ∧ Dd K H v3 d3 ∧ Dd K H v4 d4 ∧ Dd K H v6 d6 ∧ Dd K H v7 d7 ∧ OutW K H (wset d1 d2 d3 d4 d5 d6 d7) Q E) := by
  rcases or with ⟨e, v3, v4, v6, d3, d4, d6, g3, g4, g6, h3, h4, h6, rfl⟩ | ⟨e, v3, v4, v6, v7, d3, d4, d6, d7, g3, g4, g6, g7, h3, h4, h6, h7, rfl⟩
  · refine .inl ⟨e, v3, v4, v6, d3, d4, d6, g3, g4, g6, h3, h4, h6, ⟨fun a b x H' s _ => hq ?_ x H' s, fun y a t H' s _ x => he _ _ _ ⟨s, t, rfl, .inl ⟨rfl, ?_⟩⟩, fun a i b t H' s _ x => he _ _ _ ⟨s, t, rfl, .inr ⟨rfl, ?_⟩⟩⟩⟩
    · unfold dueS
      rw [a, b]
    · unfold dueS
      rw [a]
      exact ⟨rfl, x⟩
    · unfold dueS
      rw [a, b]
      exact ⟨rfl, x⟩
  · refine .inr ⟨e, v3, v4, v6, v7, d3, d4, d6, d7, g3, g4, g6, g7, h3, h4, h6, h7, ⟨fun a x H' s => hq ?_ x H' s, fun y a t H' s _ x => he _ _ _ ⟨s, t, rfl, .inl ⟨rfl, ?_⟩⟩⟩⟩
    · unfold dueW
      rw [a]
    · unfold dueW
      rw [a]
      exact ⟨rfl, x⟩
theorem ok_told (F : Has K mg "_law_told" s_law_told) (T : Txt K mg) (TS : Err K mg "BadSetting" "setting") (TC : Err K mg "BadChild" "index") (M : ErrT K) (hgP : mg "PlanError" = some (.ref (He.ga K "PlanError"))) (F_law_made : FnQ P w K mg base (L2.CX P w) 30 "_law_made" ["kind", "v", "c"] (spMadeL K)) :
    FnQ P w K mg base CX0 31 "_law_told" ["kind", "v", "c"] (spTold K) := by
  refine F.q sc_law_told (fun _ _ _ _ _ _ us hl => match us, hl with | [_, _, _], _ => rfl) (fun vs H Q E h => by obtain ⟨_, _, _, _, _, _, _, _, _, _, _, _, rfl, _⟩ := h; rfl) (fun cdv A outer s H vs Q E hr h => ?_)
  obtain ⟨kind, dv, c, es, xs, ks, v1, v2, v5, d1, d2, d5, rfl, hd, hc, n, hk, g1, g2, g5, h1, h2, h5, due, or, k⟩ := h
  have gI : mg "isinstance" = none := T.fr _ (by simp [frees])
  refine ⟨_, PSs.nox (pss_cons (ps_set (i := 3) sc_law_told.nd rfl (by first | exact .inl rfl | exact .inr rfl) pe_non) (pss_cons
    (ps_try_keep (X := (cxOf CX0 P w K mg base N_law_told "_law_told" (defScope s_law_told) (He.ga K "_law_told") cdv A outer s H E).nox) (i := 4) (cs := [.ref (He.ga K "PlanError")])
      rfl rfl rfl sc_law_told.nd rfl rfl (test_one ⟨rfl, by decide, .inl hgP⟩ one_exm) LamX.takes0 (fun W pn xe tk _ => pss_one (ps_expr (pe_fS F_law_made hr (fun σ => passAt tk σ) (pa_cons (pv 0) (pa_cons (pv 1) (pa_cons (pv 2) pa_nil)))))) (fun a oe cls d pn _ _ => pss_one (ps_set (i := 3) sc_law_told.nd rfl (.inl rfl) (pv 4))))
    (pss_cons (ps_if (pt_cmpR op_isN (pv 3) pe_non (by first | exact nomark _ | rfl))
  (pss_one (ps_ret (pe_tupM (pa_cons pe_str (pa_cons pe_non pa_nil)))))
  pss_nil) (pss_cons (ps_set (i := 5) sc_law_told.nd rfl (by first | exact .inl rfl | exact .inr rfl) (pe_lstM (pa_cons (pe_callB (call_isK (newId := "ValueError.__new__") (bmB := veB)) (by rfl) gI boot_isinstance (pa_cons (pv 3) (pa_cons (C8.pe_gc (by rfl) T.c_BadSetting) pa_nil))) (pa_cons (pe_callB (call_isK (newId := "ValueError.__new__") (bmB := veB)) (by rfl) gI boot_isinstance (pa_cons (pv 3) (pa_cons (C8.pe_gc (by rfl) T.c_BadChild) pa_nil))) (pa_cons (pe_callB (call_isKT (newId := "ValueError.__new__") (bmB := veB)) (by rfl) gI boot_isinstance (pa_cons (pv 3) (pa_cons (pe_tupM (pa_cons (C8.pe_gc (by rfl) T.c_BadEntry) (pa_cons (C8.pe_gc (by rfl) T.c_BadInput) pa_nil))) pa_nil))) pa_nil))))) (pss_cons (ps_set (i := 5) sc_law_told.nd rfl (by first | exact .inl rfl | exact .inr rfl) (pe_op op_cat (pv 5) (pe_lstM (pa_cons (pe_callB (call_isKT (newId := "ValueError.__new__") (bmB := veB)) (by rfl) gI boot_isinstance (pa_cons (pv 3) (pa_cons (pe_tupM (pa_cons (C8.pe_gc (by rfl) T.c_BadReason) (pa_cons (C8.pe_gc (by rfl) T.c_BadRoot) (pa_cons (C8.pe_gc (by rfl) T.c_BadScript) pa_nil)))) pa_nil))) (pa_cons (pe_callB (call_isKT (newId := "ValueError.__new__") (bmB := veB)) (by rfl) gI boot_isinstance (pa_cons (pv 3) (pa_cons (pe_tupM (pa_cons (C8.pe_gc (by rfl) T.c_BadText) (pa_cons (C8.pe_gc (by rfl) T.c_BadTick) pa_nil))) pa_nil))) pa_nil))))) (pss_cons (ps_expr (pe_bm PySem.F.plainAttrs_list PySem.F.slot_list_append PySem.F.type_list_append mt_append (pv 5) (pa_cons (pe_callB (call_isKT (newId := "ValueError.__new__") (bmB := veB)) (by rfl) gI boot_isinstance (pa_cons (pv 3) (pa_cons (pe_tupM (pa_cons (C8.pe_gc (by rfl) T.c_BadValue) (pa_cons (C8.pe_gc (by rfl) T.c_BadWord) pa_nil))) pa_nil))) pa_nil))) (pss_cons (ps_if (pw_or (pt_cmpR op_ne (pe_bm PySem.F.plainAttrs_list PySem.F.slot_list_count PySem.F.type_list_count mt_fcount (pv 5) (pa_cons pe_bl pa_nil)) pe_int (by first | exact nomark _ | rfl)) (pw_or (pt_not (pt_val (pe_callB (call_isK (newId := "ValueError.__new__") (bmB := veB)) (by rfl) gI boot_isinstance (pa_cons (pv 3) (pa_cons (pe_bltn (v := .ty "ValueError") (by rfl) (T.fr "ValueError" (by simp [frees])) PyProof.Rows.Boot.«ValueError» rfl) pa_nil))))) (pw_or1 (pt_cmpR op_in_seq pe_bl (pe_slice sl_list (pv 5) (po_some pe_int) po_none) (by first | exact nomark _ | rfl))))).pt
  (pss_one (ps_ret (pe_tupM (pa_cons pe_str (pa_cons pe_non pa_nil)))))
  pss_nil) (pss_one (ps_ret (pe_ifExp (pt_val (pe_ix ix_list (pv 5) pe_int (fun _ _ => rfl))) (pe_tupM (pa_cons pe_str (pa_cons (pe_kfl (newId := "ValueError.__new__") (bmB := veB) (pv 3)) pa_nil))) (pe_tupM (pa_cons pe_str (pa_cons (pe_kfl (newId := "ValueError.__new__") (bmB := veB) (pv 3)) pa_nil))))))))))))), ?_⟩
  refine ⟨_, rfl, _, rfl, _, rfl, ?_⟩
  refine ⟨kind, dv, c, es, xs, ks, v1, v2, v5, d1, d2, d5, rfl, hd, hc, n, hk, g1, g2, g5, h1, h2, h5, ?_⟩
  refine made_or or (fun dz x H1 s1 => ?_) (fun cls d H' he => ?_)
  · exact ⟨_, rfl, rfl, _, rfl, if_yes (by rfl) ⟨(by show 2 ≤ sizeLine; decide), fun t G s2 _ e2 => k t G (s1.trans s2) (by rw [dz]; exact e2)⟩⟩
  obtain ⟨hs, d0, rfl, ⟨rfl, dn, hx⟩ | ⟨rfl, dn, hx⟩⟩ := he
  · refine ⟨true, exm_one M.x1, fun _ a na => ?_, fun z => nomatch z⟩
    have s2 : Same H' (upd H' a (ExK (.ref (He.ga K "BadSetting")) (some d0) a)) := Same.new na
    refine ⟨_, rfl, ?_⟩
    have SG := hs.trans s2
    have kp : Kept (upd H' a (ExK (.ref (He.ga K "BadSetting")) (some d0) a)) a (He.ga K "BadSetting") d0 [("setting", due.2)] := ⟨upd_same, s2 _ _ hx⟩
    have kpS : ∀ {G2 : Hp}, Same (upd H' a (ExK (.ref (He.ga K "BadSetting")) (some d0) a)) G2 → Kept G2 a (He.ga K "BadSetting") d0 [("setting", due.2)] := fun {G2} s => ⟨s _ _ kp.1, s _ _ kp.2⟩
    have kk : ∀ p, p ∈ kinds → PySem.W.kitOne K (.ref (He.ga K "BadSetting")) (.ref (He.ga K p)) = some (decide (p = "BadSetting")) := fun p hp => M.k1 p hp
    have in_ : ∀ {i : Nat} {p : Str}, kinds[i]? = some p → p ∈ kinds := fun z => List.mem_of_getElem? z
    have two : (2 : Nat) ≤ sizeLine := by decide
    have three : (3 : Nat) ≤ sizeLine := by decide
    refine ⟨_, rfl, rfl, _, rfl, if_no (by rfl) ?_⟩
    refine ⟨_, rfl, a, _, d0, _, _, _, _, rfl, kp, TS.cl, .own _, kk "BadSetting" (in_ (i := 0) rfl), _, rfl, a, _, d0, _, _, _, _, rfl, kp, TS.cl, .own _, kk "BadChild" (in_ (i := 1) rfl), ?_⟩
    refine ⟨_, rfl, two, fun t1 G1 s3 _ e3 => ⟨a, _, d0, t1, _, _, _, _, rfl, kpS s3, TS.cl, e3, .cons (.own _) (.cons (.own _) .nil), kit_two (kk "BadEntry" (in_ (i := 2) rfl)) (kk "BadInput" (in_ (i := 3) rfl)), three, fun l1 G2 s4 _ e4 => ?_⟩⟩
    have S4 := s3.trans s4
    refine ⟨_, rfl, _, rfl, three, fun t2 G3 s5 _ e5 => ⟨a, _, d0, t2, _, _, _, _, rfl, kpS (S4.trans s5), TS.cl, e5, .cons (.own _) (.cons (.own _) (.cons (.own _) .nil)), kit_three (kk "BadReason" (in_ (i := 4) rfl)) (kk "BadRoot" (in_ (i := 5) rfl)) (kk "BadScript" (in_ (i := 6) rfl)), ?_⟩⟩
    refine ⟨_, rfl, two, fun t3 G4 s6 _ e6 => ⟨a, _, d0, t3, _, _, _, _, rfl, kpS (S4.trans (s5.trans s6)), TS.cl, e6, .cons (.own _) (.cons (.own _) .nil), kit_two (kk "BadText" (in_ (i := 7) rfl)) (kk "BadTick" (in_ (i := 8) rfl)), two, fun l2 G5 s7 _ e7 => ?_⟩⟩
    have x5 : Same G2 G5 := s5.trans (s6.trans s7)
    refine ⟨l1, l2, _, _, rfl, rfl, x5 _ _ e4, e7, (by show 3 + 2 ≤ sizeLine; decide), fun l3 n8 => ?_⟩
    have S5 := S4.trans x5
    have h8 : H l3 = none := none_back (SG.trans S5) n8
    have s8 : ∀ u, Same G5 (upd G5 l3 u) := fun u => Same.new n8
    refine ⟨_, rfl, .inl ⟨rfl, _, SqL.of upd_same⟩, _, rfl, two, fun t4 G7 s9 _ e9 => ⟨a, _, d0, t4, _, _, _, _, rfl, kpS (S5.trans ((s8 _).trans s9)), TS.cl, e9, .cons (.own _) (.cons (.own _) .nil), kit_two (kk "BadValue" (in_ (i := 9) rfl)) (kk "BadWord" (in_ (i := 10) rfl)), l3, _, _, rfl, rfl, s9 _ _ upd_same, (by show 5 < sizeLine; decide), ?_⟩⟩
    generalize hG8 : upd G7 l3 _ = G8
    have e10 : G8 l3 = some (.lst [.bl true, .bl false, .bl false, .bl false, .bl false, .bl false]) := by rw [← hG8, upd_same]; exact congrArg (fun l => some (HO.lst l)) (by decide +kernel)
    have S10 : Same H G8 := by rw [← hG8]; exact same_putN ((SG.trans S5).trans ((s8 _).trans s9)) h8
    have kp10 : Kept G8 a (He.ga K "BadSetting") d0 [("setting", due.2)] := by
      have kp7 := kpS (S5.trans ((s8 _).trans s9))
      have at7 := s9 _ _ upd_same
      rw [← hG8]
      exact ⟨by rw [upd_ne (ne_of kp7.1 at7 fun z => nomatch z)]; exact kp7.1, by rw [upd_ne (ne_of kp7.2 at7 fun z => nomatch z)]; exact kp7.2⟩
    refine ⟨_, rfl, .inl ⟨rfl, _, SqL.of e10⟩, l3, _, _, rfl, rfl, SqL.of e10, rfl, by decide +kernel, ?_⟩
    refine ⟨rfl, _, rfl, if_no (by decide +kernel) ?_⟩
    refine ⟨_, rfl, a, _, d0, _, _, _, _, rfl, kp10, TS.cl, .ty _, M.v1, _, rfl, if_no (by decide +kernel) ?_⟩
    refine ⟨_, rfl, 2, rfl, l3, _, rfl, SqL.of e10, fun p11 n11 => ?_⟩
    have s11 : ∀ u, Same G8 (upd G8 p11 u) := fun u => Same.new n11
    refine ⟨p11, _, rfl, .inl (SqL.of upd_same), rfl, by decide +kernel, _, rfl, if_no (by decide +kernel) ?_⟩
    have kp11 : ∀ u, Kept (upd G8 p11 u) a (He.ga K "BadSetting") d0 [("setting", due.2)] := fun u => ⟨s11 u _ _ kp10.1, s11 u _ _ kp10.2⟩
    exact ⟨_, rfl, l3, _, _, _, rfl, rfl, SqL.of (s11 _ _ _ e10), atI_nat rfl, _, rfl, if_yes rfl ⟨_, rfl, a, _, d0, _, due.2, rfl, kp11 _, by kernel_rfl, TS.cl, TS.xi.nf, two, fun t G s12 _ e12 => k t G (S10.trans ((s11 _).trans s12)) (by rw [dn]; exact e12)⟩⟩
  · refine ⟨true, exm_one M.x2, fun _ a na => ?_, fun z => nomatch z⟩
    have s2 : Same H' (upd H' a (ExK (.ref (He.ga K "BadChild")) (some d0) a)) := Same.new na
    refine ⟨_, rfl, ?_⟩
    have SG := hs.trans s2
    have kp : Kept (upd H' a (ExK (.ref (He.ga K "BadChild")) (some d0) a)) a (He.ga K "BadChild") d0 [("index", due.2)] := ⟨upd_same, s2 _ _ hx⟩
    have kpS : ∀ {G2 : Hp}, Same (upd H' a (ExK (.ref (He.ga K "BadChild")) (some d0) a)) G2 → Kept G2 a (He.ga K "BadChild") d0 [("index", due.2)] := fun {G2} s => ⟨s _ _ kp.1, s _ _ kp.2⟩
    have kk : ∀ p, p ∈ kinds → PySem.W.kitOne K (.ref (He.ga K "BadChild")) (.ref (He.ga K p)) = some (decide (p = "BadChild")) := fun p hp => M.k2 p hp
    have in_ : ∀ {i : Nat} {p : Str}, kinds[i]? = some p → p ∈ kinds := fun z => List.mem_of_getElem? z
    have two : (2 : Nat) ≤ sizeLine := by decide
    have three : (3 : Nat) ≤ sizeLine := by decide
    refine ⟨_, rfl, rfl, _, rfl, if_no (by rfl) ?_⟩
    refine ⟨_, rfl, a, _, d0, _, _, _, _, rfl, kp, TC.cl, .own _, kk "BadSetting" (in_ (i := 0) rfl), _, rfl, a, _, d0, _, _, _, _, rfl, kp, TC.cl, .own _, kk "BadChild" (in_ (i := 1) rfl), ?_⟩
    refine ⟨_, rfl, two, fun t1 G1 s3 _ e3 => ⟨a, _, d0, t1, _, _, _, _, rfl, kpS s3, TC.cl, e3, .cons (.own _) (.cons (.own _) .nil), kit_two (kk "BadEntry" (in_ (i := 2) rfl)) (kk "BadInput" (in_ (i := 3) rfl)), three, fun l1 G2 s4 _ e4 => ?_⟩⟩
    have S4 := s3.trans s4
    refine ⟨_, rfl, _, rfl, three, fun t2 G3 s5 _ e5 => ⟨a, _, d0, t2, _, _, _, _, rfl, kpS (S4.trans s5), TC.cl, e5, .cons (.own _) (.cons (.own _) (.cons (.own _) .nil)), kit_three (kk "BadReason" (in_ (i := 4) rfl)) (kk "BadRoot" (in_ (i := 5) rfl)) (kk "BadScript" (in_ (i := 6) rfl)), ?_⟩⟩
    refine ⟨_, rfl, two, fun t3 G4 s6 _ e6 => ⟨a, _, d0, t3, _, _, _, _, rfl, kpS (S4.trans (s5.trans s6)), TC.cl, e6, .cons (.own _) (.cons (.own _) .nil), kit_two (kk "BadText" (in_ (i := 7) rfl)) (kk "BadTick" (in_ (i := 8) rfl)), two, fun l2 G5 s7 _ e7 => ?_⟩⟩
    have x5 : Same G2 G5 := s5.trans (s6.trans s7)
    refine ⟨l1, l2, _, _, rfl, rfl, x5 _ _ e4, e7, (by show 3 + 2 ≤ sizeLine; decide), fun l3 n8 => ?_⟩
    have S5 := S4.trans x5
    have h8 : H l3 = none := none_back (SG.trans S5) n8
    have s8 : ∀ u, Same G5 (upd G5 l3 u) := fun u => Same.new n8
    refine ⟨_, rfl, .inl ⟨rfl, _, SqL.of upd_same⟩, _, rfl, two, fun t4 G7 s9 _ e9 => ⟨a, _, d0, t4, _, _, _, _, rfl, kpS (S5.trans ((s8 _).trans s9)), TC.cl, e9, .cons (.own _) (.cons (.own _) .nil), kit_two (kk "BadValue" (in_ (i := 9) rfl)) (kk "BadWord" (in_ (i := 10) rfl)), l3, _, _, rfl, rfl, s9 _ _ upd_same, (by show 5 < sizeLine; decide), ?_⟩⟩
    generalize hG8 : upd G7 l3 _ = G8
    have e10 : G8 l3 = some (.lst [.bl false, .bl true, .bl false, .bl false, .bl false, .bl false]) := by rw [← hG8, upd_same]; exact congrArg (fun l => some (HO.lst l)) (by decide +kernel)
    have S10 : Same H G8 := by rw [← hG8]; exact same_putN ((SG.trans S5).trans ((s8 _).trans s9)) h8
    have kp10 : Kept G8 a (He.ga K "BadChild") d0 [("index", due.2)] := by
      have kp7 := kpS (S5.trans ((s8 _).trans s9))
      have at7 := s9 _ _ upd_same
      rw [← hG8]
      exact ⟨by rw [upd_ne (ne_of kp7.1 at7 fun z => nomatch z)]; exact kp7.1, by rw [upd_ne (ne_of kp7.2 at7 fun z => nomatch z)]; exact kp7.2⟩
    refine ⟨_, rfl, .inl ⟨rfl, _, SqL.of e10⟩, l3, _, _, rfl, rfl, SqL.of e10, rfl, by decide +kernel, ?_⟩
    refine ⟨rfl, _, rfl, if_no (by decide +kernel) ?_⟩
    refine ⟨_, rfl, a, _, d0, _, _, _, _, rfl, kp10, TC.cl, .ty _, M.v2, _, rfl, if_no (by decide +kernel) ?_⟩
    refine ⟨_, rfl, 2, rfl, l3, _, rfl, SqL.of e10, fun p11 n11 => ?_⟩
    have s11 : ∀ u, Same G8 (upd G8 p11 u) := fun u => Same.new n11
    refine ⟨p11, _, rfl, .inl (SqL.of upd_same), rfl, by decide +kernel, _, rfl, if_no (by decide +kernel) ?_⟩
    have kp11 : ∀ u, Kept (upd G8 p11 u) a (He.ga K "BadChild") d0 [("index", due.2)] := fun u => ⟨s11 u _ _ kp10.1, s11 u _ _ kp10.2⟩
    exact ⟨_, rfl, l3, _, _, _, rfl, rfl, SqL.of (s11 _ _ _ e10), atI_nat rfl, _, rfl, if_no rfl ⟨_, rfl, a, _, d0, _, due.2, rfl, kp11 _, by kernel_rfl, TC.cl, TC.xi.nf, two, fun t G s12 _ e12 => k t G (S10.trans ((s11 _).trans s12)) (by rw [dn]; exact e12)⟩⟩
end
end K02
/-! _law_good -/
namespace K02
open PySem PySem.Spec PyProof.Rows L2
def fieldsAll : List Str := ["name", "restart", "strategy", "script", "most", "span", "refused", "deadline", "opening", "closing"]
/-- what each setting asks -/
def askD (f : Str) (d : Dt) : Bool := if f = "name" then isPlace d else if f = "restart" then isOne restarts d else if f = "strategy" then isOne ["one", "rest", "all"] d else if f = "script" then scriptD d else if f = "most" then isBtw 0 20 d else if f = "span" then isBtw 1 1000000000 d else
  if f = "refused" then isBtw 0 100 d else if f = "deadline" then deadD d else isBtw 0 1000000000 d
def note8 : Dt := .tup [.tup [.str "first", .str "start", .int 1000, .tup (List.replicate 8 (.tup [.str "note", .str "x"]))]]
theorem note8_ok : askD "script" note8 = true ∧ askD "script" (.tup []) = true ∧ noLst note8 = true := by decide +kernel
section
variable {P : Program} {w : World} {K : PySem.W.Frag} {mg : Str → Option Value} {base : Heap}
abbrev s_law_good : Stmt := (top 69)
def N_law_good : List Str := ["m", "field"]
theorem sc_law_good : FnScope N_law_good ["m", "field"] (defScope s_law_good) := ⟨rfl, rfl, rfl, by decide +kernel, rfl, by decide +kernel, by decide +kernel⟩
def spGoodL (K : PySem.W.Frag) : Sp := fun vs H Q _ => ∃ (a c : Addr) (ns : List Int) (m : Int) (f : Str), vs = [.ref a, .str f] ∧ Src K H a c ns m ∧ m ≤ 900000 ∧ f ∈ fieldsAll ∧ ∀ v d H', Dd K H' v d → askD f d = true → noLst d = true → Src K H' a c ns (m + 1) → But a H H' → Q v H'
theorem ok_good (F : Has K mg "_law_good" s_law_good) (T : Txt K mg) (F_law_of : FnQ P w K mg base CX0 2 "_law_of" ["m", "items"] (spOf K)) : FnQ P w K mg base CX0 3 "_law_good" ["m", "field"] (spGoodL K) := by
  refine F.q sc_law_good (fun _ _ _ _ _ _ us hl => match us, hl with | [_, _], _ => rfl) (fun vs H Q E h => by obtain ⟨_, _, _, _, _, rfl, _⟩ := h; rfl) (fun cdv A outer s H vs Q E hr h => ?_)
  obtain ⟨a, c, ns, m, f, rfl, S, hm, hf, k⟩ := h
  refine ⟨_, PSs.nox (pss_cons (ps_if (pt_cmpR op_eq (pv 1) pe_str (by first | exact nomark _ | rfl))
  (pss_one (ps_ret (pe_f F_law_of hr pass0 (pa_cons (pv 0) (pa_cons (pe_lstM (pa_cons pe_str (pa_cons pe_str (pa_cons pe_str (pa_cons pe_str (pa_cons pe_str pa_nil)))))) pa_nil)))))
  pss_nil)
  (pss_cons (ps_if (pt_cmpR op_eq (pv 1) pe_str (by first | exact nomark _ | rfl))
  (pss_one (ps_ret (pe_f F_law_of hr pass0 (pa_cons (pv 0) (pa_cons (pe_lstM (pa_cons pe_str (pa_cons pe_str (pa_cons pe_str pa_nil)))) pa_nil)))))
  pss_nil)
  (pss_cons (ps_if (pt_cmpR op_eq (pv 1) pe_str (by first | exact nomark _ | rfl))
  (pss_one (ps_ret (pe_f F_law_of hr pass0 (pa_cons (pv 0) (pa_cons (pe_lstM (pa_cons pe_str (pa_cons pe_str (pa_cons pe_str pa_nil)))) pa_nil)))))
  pss_nil)
  (pss_cons (ps_if (pt_cmpR op_eq (pv 1) pe_str (by first | exact nomark _ | rfl))
  (pss_one (ps_ret (pe_f F_law_of hr pass0 (pa_cons (pv 0) (pa_cons (pe_lstM (pa_cons (pe_tupM pa_nil) (pa_cons (pe_tupM (pa_cons (pe_tupM (pa_cons pe_str (pa_cons pe_str (pa_cons pe_int (pa_cons (pe_op op_repT (pe_tupM (pa_cons (pe_tupM (pa_cons pe_str (pa_cons pe_str pa_nil))) pa_nil)) pe_int) pa_nil))))) pa_nil)) pa_nil))) pa_nil)))))
  pss_nil)
  (pss_cons (ps_if (pt_cmpR op_eq (pv 1) pe_str (by first | exact nomark _ | rfl))
  (pss_one (ps_ret (pe_f F_law_of hr pass0 (pa_cons (pv 0) (pa_cons (pe_lstM (pa_cons pe_int (pa_cons pe_int (pa_cons pe_int pa_nil)))) pa_nil)))))
  pss_nil)
  (pss_cons (ps_if (pt_cmpR op_eq (pv 1) pe_str (by first | exact nomark _ | rfl))
  (pss_one (ps_ret (pe_f F_law_of hr pass0 (pa_cons (pv 0) (pa_cons (pe_lstM (pa_cons pe_int (pa_cons (pe_op op_pow pe_int pe_int) (pa_cons pe_int pa_nil)))) pa_nil)))))
  pss_nil)
  (pss_cons (ps_if (pt_cmpR op_eq (pv 1) pe_str (by first | exact nomark _ | rfl))
  (pss_one (ps_ret (pe_f F_law_of hr pass0 (pa_cons (pv 0) (pa_cons (pe_lstM (pa_cons pe_int (pa_cons pe_int (pa_cons pe_int pa_nil)))) pa_nil)))))
  pss_nil)
  (pss_one (ps_ret (pe_f F_law_of hr pass0 (pa_cons (pv 0) (pa_cons (pe_lstM (pa_cons pe_int (pa_cons (pe_op op_pow pe_int pe_int) (pa_cons pe_int (pa_cons (pe_ifExp (pt_cmpR op_eq (pv 1) pe_str (by first | exact nomark _ | rfl)) pe_non pe_int) pa_nil))))) pa_nil)))))))))))), ?_⟩
  have pick : ∀ {xs : List V} {l : Addr} {G : Hp} {R : VK}, Same H G → G l = some (.lst xs) → 0 < xs.length → xs.length ≤ 1000 → (∀ v, v ∈ xs → ∀ H', But a H H' → But a G H' → Src K H' a c ns (m + 1) → R v H') → spOf K [.ref a, .ref l] G R E0 := fun {xs l G R} s e h0 h1 q =>
    ⟨a, c, l, ns, m, xs, rfl, S.same s, by omega, e, (S.same s).is.ne e (fun _ _ _ z => nomatch z), h0, h1, fun j v H' ej S' b => q v (List.mem_of_getElem? ej) H' (fun b2 o e2 n2 => b b2 o (s b2 o e2) n2) b S'⟩
  simp only [fieldsAll, List.mem_cons, List.not_mem_nil, or_false] at hf
  rcases hf with rfl | rfl | rfl | rfl | rfl | rfl | rfl | rfl | rfl | rfl
  · refine ⟨_, rfl, rfl, _, rfl, if_yes (by decide +kernel) ?_⟩
    refine ⟨_, rfl, (by show 5 ≤ sizeLine; decide), fun l G s1 _ e1 => pick s1 e1 (by show 0 < 5; decide) (by show 5 ≤ 1000; decide) fun v hv H' b1 b2 S' => ?_⟩
    simp only [List.mem_cons, List.not_mem_nil, or_false] at hv
    rcases hv with rfl | rfl | rfl | rfl | rfl
    · exact k _ (.str "a") H' (.str _) (by decide +kernel) rfl S' b1
    · exact k _ (.str "z_9") H' (.str _) (by decide +kernel) rfl S' b1
    · exact k _ (.str "abcdefghij_123456789") H' (.str _) (by decide +kernel) rfl S' b1
    · exact k _ (.str "owner") H' (.str _) (by decide +kernel) rfl S' b1
    · exact k _ (.str "own_") H' (.str _) (by decide +kernel) rfl S' b1
  · refine ⟨_, rfl, rfl, _, rfl, if_no (by decide +kernel) ?_⟩
    refine ⟨_, rfl, rfl, _, rfl, if_yes (by decide +kernel) ?_⟩
    refine ⟨_, rfl, (by show 3 ≤ sizeLine; decide), fun l G s1 _ e1 => pick s1 e1 (by show 0 < 3; decide) (by show 3 ≤ 1000; decide) fun v hv H' b1 b2 S' => ?_⟩
    simp only [List.mem_cons, List.not_mem_nil, or_false] at hv
    rcases hv with rfl | rfl | rfl
    · exact k _ (.str "permanent") H' (.str _) (by decide +kernel) rfl S' b1
    · exact k _ (.str "transient") H' (.str _) (by decide +kernel) rfl S' b1
    · exact k _ (.str "temporary") H' (.str _) (by decide +kernel) rfl S' b1
  · refine ⟨_, rfl, rfl, _, rfl, if_no (by decide +kernel) ?_⟩
    refine ⟨_, rfl, rfl, _, rfl, if_no (by decide +kernel) ?_⟩
    refine ⟨_, rfl, rfl, _, rfl, if_yes (by decide +kernel) ?_⟩
    refine ⟨_, rfl, (by show 3 ≤ sizeLine; decide), fun l G s1 _ e1 => pick s1 e1 (by show 0 < 3; decide) (by show 3 ≤ 1000; decide) fun v hv H' b1 b2 S' => ?_⟩
    simp only [List.mem_cons, List.not_mem_nil, or_false] at hv
    rcases hv with rfl | rfl | rfl
    · exact k _ (.str "one") H' (.str _) (by decide +kernel) rfl S' b1
    · exact k _ (.str "rest") H' (.str _) (by decide +kernel) rfl S' b1
    · exact k _ (.str "all") H' (.str _) (by decide +kernel) rfl S' b1
  · refine ⟨_, rfl, rfl, _, rfl, if_no (by decide +kernel) ?_⟩
    refine ⟨_, rfl, rfl, _, rfl, if_no (by decide +kernel) ?_⟩
    refine ⟨_, rfl, rfl, _, rfl, if_no (by decide +kernel) ?_⟩
    refine ⟨_, rfl, rfl, _, rfl, if_yes (by decide +kernel) ?_⟩
    refine ⟨_, rfl, (by show 0 ≤ sizeLine; decide), fun p0 G0 s0 n0 e0 => ⟨(by show 2 ≤ sizeLine; decide), fun q1 G1 s1 n1 e1 => ⟨(by show 1 ≤ sizeLine; decide), fun q2 G2 s2 n2 e2 => ⟨q2, 8, _, rfl, rfl, SqT.of e2, (by simp), by decide, by decide, (by show 1 ≤ 1000; decide), fun q3 n3 => ?_⟩⟩⟩⟩
    have s3 : ∀ u, Same G2 (upd G2 q3 u) := fun u => Same.new n3
    refine ⟨(by show 4 ≤ sizeLine; decide), fun q4 G4 s4 _ e4 => ⟨(by show 1 ≤ sizeLine; decide), fun q5 G5 s5 _ e5 => ⟨(by show 2 ≤ sizeLine; decide), fun l G6 s6 _ e6 => ?_⟩⟩⟩
    have x6 : Same G2 G6 := (s3 _).trans (s4.trans (s5.trans s6))
    have h1 : Dd K G6 (.ref q1) (.tup [.str "note", .str "x"]) := .tup (SqT.of (x6 _ _ (s2 _ _ e1))) (.cons (.str _) (.cons (.str _) .nil))
    have h3 : Dd K G6 (.ref q3) (.tup (List.replicate 8 (.tup [.str "note", .str "x"]))) := .tup (SqT.of ((s4.trans (s5.trans s6)) _ _ upd_same)) (.cons h1 (.cons h1 (.cons h1 (.cons h1 (.cons h1 (.cons h1 (.cons h1 (.cons h1 .nil))))))))
    have h5 : Dd K G6 (.ref q5) note8 := .tup (SqT.of (s6 _ _ e5)) (.cons (.tup (SqT.of ((s5.trans s6) _ _ e4)) (.cons (.str _) (.cons (.str _) (.cons (.int _) (.cons h3 .nil))))) .nil)
    have h0 : Dd K G6 (.ref p0) (.tup []) := .tup (SqT.of ((s1.trans (s2.trans x6)) _ _ e0)) .nil
    refine pick (s0.trans (s1.trans (s2.trans x6))) e6 (by show 0 < 2; decide) (by show 2 ≤ 1000; decide) fun v hv H' b1 b2 S' => ?_
    have S6 := (S.same (s0.trans (s1.trans (s2.trans x6)))).is
    simp only [List.mem_cons, List.not_mem_nil, or_false] at hv
    rcases hv with rfl | rfl
    · exact k _ (.tup []) H' (Dd_but b2 S6 h0) note8_ok.2.1 rfl S' b1
    · exact k _ note8 H' (Dd_but b2 S6 h5) note8_ok.1 note8_ok.2.2 S' b1
  · refine ⟨_, rfl, rfl, _, rfl, if_no (by decide +kernel) ?_⟩
    refine ⟨_, rfl, rfl, _, rfl, if_no (by decide +kernel) ?_⟩
    refine ⟨_, rfl, rfl, _, rfl, if_no (by decide +kernel) ?_⟩
    refine ⟨_, rfl, rfl, _, rfl, if_no (by decide +kernel) ?_⟩
    refine ⟨_, rfl, rfl, _, rfl, if_yes (by decide +kernel) ?_⟩
    refine ⟨_, rfl, (by show 3 ≤ sizeLine; decide), fun l G s1 _ e1 => pick s1 e1 (by show 0 < 3; decide) (by show 3 ≤ 1000; decide) fun v hv H' b1 b2 S' => ?_⟩
    simp only [List.mem_cons, List.not_mem_nil, or_false] at hv
    rcases hv with rfl | rfl | rfl
    · exact k _ (.int 0) H' (.int _) (by decide +kernel) rfl S' b1
    · exact k _ (.int 20) H' (.int _) (by decide +kernel) rfl S' b1
    · exact k _ (.int 7) H' (.int _) (by decide +kernel) rfl S' b1
  · refine ⟨_, rfl, rfl, _, rfl, if_no (by decide +kernel) ?_⟩
    refine ⟨_, rfl, rfl, _, rfl, if_no (by decide +kernel) ?_⟩
    refine ⟨_, rfl, rfl, _, rfl, if_no (by decide +kernel) ?_⟩
    refine ⟨_, rfl, rfl, _, rfl, if_no (by decide +kernel) ?_⟩
    refine ⟨_, rfl, rfl, _, rfl, if_no (by decide +kernel) ?_⟩
    refine ⟨_, rfl, rfl, _, rfl, if_yes (by decide +kernel) ?_⟩
    refine ⟨_, rfl, ?_⟩
    exact ⟨_, _, rfl, rfl, ⟨by decide, by decide, by decide⟩, (by show 3 ≤ sizeLine; decide), fun l G s1 _ e1 => pick s1 e1 (by show 0 < 3; decide) (by show 3 ≤ 1000; decide) fun v hv H' b1 b2 S' => by
      simp only [List.mem_cons, List.not_mem_nil, or_false] at hv
      rcases hv with rfl | rfl | rfl
      · exact k _ (.int 1) H' (.int _) (by decide +kernel) rfl S' b1
      · exact k _ (.int 1000000000) H' (.int _) (by decide +kernel) rfl S' b1
      · exact k _ (.int 12) H' (.int _) (by decide +kernel) rfl S' b1⟩
  · refine ⟨_, rfl, rfl, _, rfl, if_no (by decide +kernel) ?_⟩
    refine ⟨_, rfl, rfl, _, rfl, if_no (by decide +kernel) ?_⟩
    refine ⟨_, rfl, rfl, _, rfl, if_no (by decide +kernel) ?_⟩
    refine ⟨_, rfl, rfl, _, rfl, if_no (by decide +kernel) ?_⟩
    refine ⟨_, rfl, rfl, _, rfl, if_no (by decide +kernel) ?_⟩
    refine ⟨_, rfl, rfl, _, rfl, if_no (by decide +kernel) ?_⟩
    refine ⟨_, rfl, rfl, _, rfl, if_yes (by decide +kernel) ?_⟩
    refine ⟨_, rfl, (by show 3 ≤ sizeLine; decide), fun l G s1 _ e1 => pick s1 e1 (by show 0 < 3; decide) (by show 3 ≤ 1000; decide) fun v hv H' b1 b2 S' => ?_⟩
    simp only [List.mem_cons, List.not_mem_nil, or_false] at hv
    rcases hv with rfl | rfl | rfl
    · exact k _ (.int 0) H' (.int _) (by decide +kernel) rfl S' b1
    · exact k _ (.int 100) H' (.int _) (by decide +kernel) rfl S' b1
    · exact k _ (.int 3) H' (.int _) (by decide +kernel) rfl S' b1
  · refine ⟨_, rfl, rfl, _, rfl, if_no (by decide +kernel) ?_⟩
    refine ⟨_, rfl, rfl, _, rfl, if_no (by decide +kernel) ?_⟩
    refine ⟨_, rfl, rfl, _, rfl, if_no (by decide +kernel) ?_⟩
    refine ⟨_, rfl, rfl, _, rfl, if_no (by decide +kernel) ?_⟩
    refine ⟨_, rfl, rfl, _, rfl, if_no (by decide +kernel) ?_⟩
    refine ⟨_, rfl, rfl, _, rfl, if_no (by decide +kernel) ?_⟩
    refine ⟨_, rfl, rfl, _, rfl, if_no (by decide +kernel) ?_⟩
    refine ⟨_, rfl, _, _, rfl, rfl, ⟨by decide, by decide, by decide⟩, _, rfl, rfl, _, rfl, if_yes (by decide +kernel) ⟨(by show 4 ≤ sizeLine; decide), fun l G s1 _ e1 => pick s1 e1 (by show 0 < 4; decide) (by show 4 ≤ 1000; decide) fun v hv H' b1 b2 S' => ?_⟩⟩
    simp only [List.mem_cons, List.not_mem_nil, or_false] at hv
    rcases hv with rfl | rfl | rfl | rfl
    · exact k _ (.int 0) H' (.int _) (by decide +kernel) rfl S' b1
    · exact k _ (.int 1000000000) H' (.int _) (by decide +kernel) rfl S' b1
    · exact k _ (.int 44) H' (.int _) (by decide +kernel) rfl S' b1
    · exact k _ (.non) H' .non (by decide +kernel) rfl S' b1
  · refine ⟨_, rfl, rfl, _, rfl, if_no (by decide +kernel) ?_⟩
    refine ⟨_, rfl, rfl, _, rfl, if_no (by decide +kernel) ?_⟩
    refine ⟨_, rfl, rfl, _, rfl, if_no (by decide +kernel) ?_⟩
    refine ⟨_, rfl, rfl, _, rfl, if_no (by decide +kernel) ?_⟩
    refine ⟨_, rfl, rfl, _, rfl, if_no (by decide +kernel) ?_⟩
    refine ⟨_, rfl, rfl, _, rfl, if_no (by decide +kernel) ?_⟩
    refine ⟨_, rfl, rfl, _, rfl, if_no (by decide +kernel) ?_⟩
    refine ⟨_, rfl, _, _, rfl, rfl, ⟨by decide, by decide, by decide⟩, _, rfl, rfl, _, rfl, if_no (by decide +kernel) ⟨(by show 4 ≤ sizeLine; decide), fun l G s1 _ e1 => pick s1 e1 (by show 0 < 4; decide) (by show 4 ≤ 1000; decide) fun v hv H' b1 b2 S' => ?_⟩⟩
    simp only [List.mem_cons, List.not_mem_nil, or_false] at hv
    rcases hv with rfl | rfl | rfl | rfl
    · exact k _ (.int 0) H' (.int _) (by decide +kernel) rfl S' b1
    · exact k _ (.int 1000000000) H' (.int _) (by decide +kernel) rfl S' b1
    · exact k _ (.int 44) H' (.int _) (by decide +kernel) rfl S' b1
    · exact k _ (.int 1) H' (.int _) (by decide +kernel) rfl S' b1
  · refine ⟨_, rfl, rfl, _, rfl, if_no (by decide +kernel) ?_⟩
    refine ⟨_, rfl, rfl, _, rfl, if_no (by decide +kernel) ?_⟩
    refine ⟨_, rfl, rfl, _, rfl, if_no (by decide +kernel) ?_⟩
    refine ⟨_, rfl, rfl, _, rfl, if_no (by decide +kernel) ?_⟩
    refine ⟨_, rfl, rfl, _, rfl, if_no (by decide +kernel) ?_⟩
    refine ⟨_, rfl, rfl, _, rfl, if_no (by decide +kernel) ?_⟩
    refine ⟨_, rfl, rfl, _, rfl, if_no (by decide +kernel) ?_⟩
    refine ⟨_, rfl, _, _, rfl, rfl, ⟨by decide, by decide, by decide⟩, _, rfl, rfl, _, rfl, if_no (by decide +kernel) ⟨(by show 4 ≤ sizeLine; decide), fun l G s1 _ e1 => pick s1 e1 (by show 0 < 4; decide) (by show 4 ≤ 1000; decide) fun v hv H' b1 b2 S' => ?_⟩⟩
    simp only [List.mem_cons, List.not_mem_nil, or_false] at hv
    rcases hv with rfl | rfl | rfl | rfl
    · exact k _ (.int 0) H' (.int _) (by decide +kernel) rfl S' b1
    · exact k _ (.int 1000000000) H' (.int _) (by decide +kernel) rfl S' b1
    · exact k _ (.int 44) H' (.int _) (by decide +kernel) rfl S' b1
    · exact k _ (.int 1) H' (.int _) (by decide +kernel) rfl S' b1
end
end K02
/-! _law_odd -/
namespace K02
open PySem PySem.Spec PyProof.Rows L2
def J9 (_ : L2.St) (_ : Hp) : Prop := True
theorem keeps9 : Keeps J9 := fun _ _ _ _ _ => trivial
theorem md_dic {X : Cx} {J : L2.St → Hp → Prop} {p : Pos} : MkD X J (.Dict [] [] p) .dic := by
  refine ⟨_, pe_dnewK, fun σ H Q l st j k p0 n0 => k _ _ (Same.new n0) (.dic (by rw [hide_at (st.ne n0)]; exact upd_same))⟩
/-- f() -/
theorem pe_f0 {X : Cx} {CX : CXT} {j k : Nat} {sp : Sp} {E : XK} {x : Str} {p pos : Pos} (F : FnQ X.prog X.w X.K X.mg X.base CX j x [] sp) (hr : Room k X.A) (hx : Passes CX X E) (hg : Gl X x := by rfl) (hj : j ≤ k := by decide) (hdb : (x == ("__debug__" : Str)) = false := by decide) : PE X (.Call (.Name x p) [] [] pos) (tCall sp [] E tNil) := by
  obtain ⟨fd, G, b, _⟩ := F.fn
  exact pe_call0 G (hr.mono hj) hg F.gl F.kp b .nil hx hdb
/-- a new list whose items have nothing to do with the object at l -/
def tMkLH (K : PySem.W.Frag) (J : L2.St → Hp → Prop) (ds : List Dt) : TE := fun σ H Q => ∃ l, Stands l H ∧ J σ (hide l H) ∧ ∀ a xs H', Same H H' → H a = none → H' a = some (.lst xs) → DdAll K (hide l H') xs ds → Q (.ref a) H'
theorem pe_mkLH {X : Cx} {J : L2.St → Hp → Prop} {es : List Expr} {ds : List Dt} {p : Pos} (m : MkDA X J es ds) (few : ds.length ≤ sizeLine := by decide) : PE X (.List es p) (tMkLH X.K J ds) := by
  obtain ⟨ta, pa, k⟩ := m
  refine ⟨fun pins s σ H Q I ⟨l, st, j, h⟩ => (pe_lstM pa).run pins s σ H Q I (k σ H _ l st j fun vs H1 s1 d1 => ⟨by rw [d1.len]; exact few, fun p H2 s2 n2 e2 => ?_⟩)⟩
  exact h p vs H2 (s1.trans s2) (none_back s1 n2) e2 (d1.same (hide_same s2))
section
variable {P : Program} {w : World} {K : PySem.W.Frag} {mg : Str → Option Value} {base : Heap}
/-- what can't be this setting, in a new list -/
abbrev OddQ (K : PySem.W.Frag) (f : Str) (H : Hp) (Q : VK) : Prop := ∀ l H' xs ds, Same H H' → H l = none → LstAt K H' l xs ds → (∀ d ∈ ds, askD f d = false) → 0 < ds.length → ds.length ≤ 100 → Q (.ref l) H'
def spScripts (K : PySem.W.Frag) : Sp := fun vs H Q _ => vs = [] ∧ OddQ K "script" H Q
/-- what can't be this setting, in a new list, with nothing in it of the object at l0 -/
def spOdd (K : PySem.W.Frag) : Sp := fun vs H Q _ => ∃ f l0, vs = [.str f] ∧ f ∈ fieldsAll ∧ Stands l0 H ∧ (l0 = none ∨ f = "name") ∧ ∀ l H' xs ds, Same H H' → H l = none → H' l = some (.lst xs) → DdAll K (hide l0 H') xs ds → (∀ d ∈ ds, askD f d = false) → 0 < ds.length → ds.length ≤ 100 → Q (.ref l) H'
abbrev s_law_odd : Stmt := (top 68)
def N_law_odd : List Str := ["field", "some"]
theorem sc_law_odd : FnScope N_law_odd ["field"] (defScope s_law_odd) := ⟨rfl, rfl, rfl, by decide +kernel, rfl, by decide +kernel, by decide +kernel⟩
theorem ok_odd (F : Has K mg "_law_odd" s_law_odd) (T : Txt K mg) (F_law_scripts : FnQ P w K mg base CX0 13 "_law_scripts" [] (spScripts K)) : FnQ P w K mg base CX0 14 "_law_odd" ["field"] (spOdd K) := by
  refine F.q sc_law_odd (fun _ _ _ _ _ _ us hl => match us, hl with | [_], _ => rfl) (fun vs H Q E h => by obtain ⟨_, _, rfl, _⟩ := h; rfl) (fun cdv A outer s H vs Q E hr h => ?_)
  obtain ⟨f, l0, rfl, hf, st, ln, k0⟩ := h
  have k : f ≠ "name" → OddQ K f H Q := fun nf l H' xs ds s n L a p q => k0 l H' xs ds s n L.1 (by rw [ln.elim id (fun z => absurd z nf), hide_none]; exact L.all) a p q
  have KJ : Keeps J9 := keeps9
  refine ⟨_, PSs.nox (pss_cons (ps_if (pt_cmpR op_eq (pv 0) pe_str (by first | exact nomark _ | rfl))
  (pss_cons (ps_set (i := 1) sc_law_odd.nd rfl (by first | exact .inl rfl | exact .inr rfl) (pe_mkLH (J := J9) (mdA_cons KJ md_non (mdA_cons KJ md_int (mdA_cons KJ md_bl (mdA_cons KJ (md_str) (mdA_cons KJ (md_str) (mdA_cons KJ (md_str) (mdA_cons KJ (md_str) (mdA_cons KJ (md_str) (mdA_cons KJ (md_str) (mdA_cons KJ (md_str) (mdA_cons KJ (md_txt (x := Txt.mul "a" 21) (pe_op op_repS pe_str pe_int) (fun σ H Q q => ⟨_, _, rfl, rfl, ⟨by decide, fun _ _ => by decide, fun _ _ => by decide +kernel⟩, q⟩) (by decide +kernel)) (mdA_cons KJ (md_str) (mdA_cons KJ (md_str) (mdA_cons KJ (md_str) (mdA_cons KJ (md_lst (mdA_cons KJ (md_str) mdA_nil)) mdA_nil)))))))))))))))))
  (pss_one (ps_ret (pe_op op_cat (pv 1) (pe_mkLH (J := J9) (mdA_cons KJ (md_tup (mdA_cons KJ (md_str) mdA_nil)) (mdA_cons KJ (md_str) (mdA_cons KJ md_dic (mdA_cons KJ (md_str) mdA_nil)))))))))
  pss_nil)
  (pss_cons (ps_if (pt_cmpR op_eq (pv 0) pe_str (by first | exact nomark _ | rfl))
  (pss_one (ps_ret (pe_mkL (J := J9) (mdA_cons KJ (md_str) (mdA_cons KJ (md_str) (mdA_cons KJ md_non (mdA_cons KJ md_bl (mdA_cons KJ md_int (mdA_cons KJ (md_lst (mdA_cons KJ (md_str) mdA_nil)) (mdA_cons KJ (md_str) (mdA_cons KJ (md_str) (mdA_cons KJ (md_tup (mdA_cons KJ (md_str) mdA_nil)) (mdA_cons KJ md_dic mdA_nil)))))))))))))
  pss_nil)
  (pss_cons (ps_if (pt_cmpR op_eq (pv 0) pe_str (by first | exact nomark _ | rfl))
  (pss_one (ps_ret (pe_mkL (J := J9) (mdA_cons KJ (md_str) (mdA_cons KJ (md_str) (mdA_cons KJ md_non (mdA_cons KJ md_bl (mdA_cons KJ md_int (mdA_cons KJ (md_lst (mdA_cons KJ (md_str) mdA_nil)) (mdA_cons KJ (md_str) (mdA_cons KJ (md_tup (mdA_cons KJ (md_str) mdA_nil)) (mdA_cons KJ (md_str) mdA_nil))))))))))))
  pss_nil)
  (pss_cons (ps_if (pt_cmpR op_eq (pv 0) pe_str (by first | exact nomark _ | rfl))
  (pss_one (ps_ret (pe_f0 F_law_scripts hr pass0)))
  pss_nil)
  (pss_cons (ps_if (pt_cmpR op_eq (pv 0) pe_str (by first | exact nomark _ | rfl))
  (pss_one (ps_ret (pe_mkL (J := J9) (mdA_cons KJ (md_num (i := 0 - 1) (pe_op op_sub pe_int pe_int) (fun σ H Q q => ⟨_, _, rfl, rfl, q⟩)) (mdA_cons KJ md_int (mdA_cons KJ md_bl (mdA_cons KJ md_bl (mdA_cons KJ md_non (mdA_cons KJ (md_str) (mdA_cons KJ (md_lst (mdA_cons KJ md_int mdA_nil)) (mdA_cons KJ (md_num (i := 10 ^ (20 : Int).toNat) (pe_op op_pow pe_int pe_int) (fun σ H Q q => ⟨_, _, rfl, rfl, ⟨by decide, by decide, by decide⟩, q⟩)) mdA_nil)))))))))))
  pss_nil)
  (pss_cons (ps_if (pt_cmpR op_eq (pv 0) pe_str (by first | exact nomark _ | rfl))
  (pss_one (ps_ret (pe_mkL (J := J9) (mdA_cons KJ md_int (mdA_cons KJ (md_num (i := 0 - 1) (pe_op op_sub pe_int pe_int) (fun σ H Q q => ⟨_, _, rfl, rfl, q⟩)) (mdA_cons KJ (md_num (i := 10 ^ (9 : Int).toNat + 1) (pe_op op_add (pe_op op_pow pe_int pe_int) pe_int) (fun σ H Q q => ⟨_, _, rfl, rfl, ⟨by decide, by decide, by decide⟩, _, _, rfl, rfl, q⟩)) (mdA_cons KJ md_bl (mdA_cons KJ md_bl (mdA_cons KJ md_non (mdA_cons KJ (md_str) (mdA_cons KJ (md_num (i := 10 ^ (20 : Int).toNat) (pe_op op_pow pe_int pe_int) (fun σ H Q q => ⟨_, _, rfl, rfl, ⟨by decide, by decide, by decide⟩, q⟩)) (mdA_cons KJ (md_tup mdA_nil) mdA_nil))))))))))))
  pss_nil)
  (pss_cons (ps_if (pt_cmpR op_eq (pv 0) pe_str (by first | exact nomark _ | rfl))
  (pss_one (ps_ret (pe_mkL (J := J9) (mdA_cons KJ (md_num (i := 0 - 1) (pe_op op_sub pe_int pe_int) (fun σ H Q q => ⟨_, _, rfl, rfl, q⟩)) (mdA_cons KJ md_int (mdA_cons KJ md_bl (mdA_cons KJ md_bl (mdA_cons KJ md_non (mdA_cons KJ (md_str) (mdA_cons KJ (md_lst (mdA_cons KJ md_int mdA_nil)) (mdA_cons KJ (md_num (i := 10 ^ (20 : Int).toNat) (pe_op op_pow pe_int pe_int) (fun σ H Q q => ⟨_, _, rfl, rfl, ⟨by decide, by decide, by decide⟩, q⟩)) mdA_nil)))))))))))
  pss_nil)
  (pss_cons (ps_set (i := 1) sc_law_odd.nd rfl (by first | exact .inl rfl | exact .inr rfl) (pe_mkL (J := J9) (mdA_cons KJ (md_num (i := 0 - 1) (pe_op op_sub pe_int pe_int) (fun σ H Q q => ⟨_, _, rfl, rfl, q⟩)) (mdA_cons KJ (md_num (i := 10 ^ (9 : Int).toNat + 1) (pe_op op_add (pe_op op_pow pe_int pe_int) pe_int) (fun σ H Q q => ⟨_, _, rfl, rfl, ⟨by decide, by decide, by decide⟩, _, _, rfl, rfl, q⟩)) (mdA_cons KJ md_bl (mdA_cons KJ md_bl (mdA_cons KJ (md_str) (mdA_cons KJ (md_lst (mdA_cons KJ md_int mdA_nil)) (mdA_cons KJ (md_tup mdA_nil) (mdA_cons KJ (md_num (i := 10 ^ (20 : Int).toNat) (pe_op op_pow pe_int pe_int) (fun σ H Q q => ⟨_, _, rfl, rfl, ⟨by decide, by decide, by decide⟩, q⟩)) (mdA_cons KJ (md_str) (mdA_cons KJ md_dic mdA_nil))))))))))))
  (pss_one (ps_ret (pe_ifExp (pt_cmpR op_eq (pv 0) pe_str (by first | exact nomark _ | rfl)) (pv 1) (pe_op op_cat (pv 1) (pe_mkL (J := J9) (mdA_cons KJ md_non mdA_nil)))))))))))))), ?_⟩
  simp only [fieldsAll, List.mem_cons, List.not_mem_nil, or_false] at hf
  rcases hf with rfl | rfl | rfl | rfl | rfl | rfl | rfl | rfl | rfl | rfl
  · refine ⟨_, rfl, rfl, _, rfl, if_yes (by decide +kernel) ?_⟩
    refine ⟨l0, st, trivial, fun l1 x1 G1 s1 n1 e1 D1 => ⟨_, rfl, l0, st.same s1, trivial, fun l2 x2 G2 s2 n2 e2 D2 => ?_⟩⟩
    exact ⟨l1, l2, x1, x2, rfl, rfl, s2 _ _ e1, e2, (by rw [D1.len, D2.len]; show 15 + 4 ≤ sizeLine; decide), fun l np => k0 l _ _ _ (s1.trans (s2.trans (Same.new np))) (none_back (s1.trans s2) np) upd_same ((D1.same (hide_same (s2.trans (Same.new np)))).app (D2.same (hide_same (Same.new np)))) (by decide +kernel) (by show 0 < 19; decide) (by show 19 ≤ 100; decide)⟩
  · have k := k (by decide +kernel)
    refine ⟨_, rfl, rfl, _, rfl, if_no (by decide +kernel) ?_⟩
    refine ⟨_, rfl, rfl, _, rfl, if_yes (by decide +kernel) ?_⟩
    exact ⟨trivial, fun l xs G s1 n1 L1 => k l G xs _ s1 n1 L1 (by decide +kernel) (by show 0 < 10; decide) (by show 10 ≤ 100; decide)⟩
  · have k := k (by decide +kernel)
    refine ⟨_, rfl, rfl, _, rfl, if_no (by decide +kernel) ?_⟩
    refine ⟨_, rfl, rfl, _, rfl, if_no (by decide +kernel) ?_⟩
    refine ⟨_, rfl, rfl, _, rfl, if_yes (by decide +kernel) ?_⟩
    exact ⟨trivial, fun l xs G s1 n1 L1 => k l G xs _ s1 n1 L1 (by decide +kernel) (by show 0 < 9; decide) (by show 9 ≤ 100; decide)⟩
  · have k := k (by decide +kernel)
    refine ⟨_, rfl, rfl, _, rfl, if_no (by decide +kernel) ?_⟩
    refine ⟨_, rfl, rfl, _, rfl, if_no (by decide +kernel) ?_⟩
    refine ⟨_, rfl, rfl, _, rfl, if_no (by decide +kernel) ?_⟩
    refine ⟨_, rfl, rfl, _, rfl, if_yes (by decide +kernel) ?_⟩
    exact ⟨rfl, k⟩
  · have k := k (by decide +kernel)
    refine ⟨_, rfl, rfl, _, rfl, if_no (by decide +kernel) ?_⟩
    refine ⟨_, rfl, rfl, _, rfl, if_no (by decide +kernel) ?_⟩
    refine ⟨_, rfl, rfl, _, rfl, if_no (by decide +kernel) ?_⟩
    refine ⟨_, rfl, rfl, _, rfl, if_no (by decide +kernel) ?_⟩
    refine ⟨_, rfl, rfl, _, rfl, if_yes (by decide +kernel) ?_⟩
    exact ⟨trivial, fun l xs G s1 n1 L1 => k l G xs _ s1 n1 L1 (by decide +kernel) (by show 0 < 8; decide) (by show 8 ≤ 100; decide)⟩
  · have k := k (by decide +kernel)
    refine ⟨_, rfl, rfl, _, rfl, if_no (by decide +kernel) ?_⟩
    refine ⟨_, rfl, rfl, _, rfl, if_no (by decide +kernel) ?_⟩
    refine ⟨_, rfl, rfl, _, rfl, if_no (by decide +kernel) ?_⟩
    refine ⟨_, rfl, rfl, _, rfl, if_no (by decide +kernel) ?_⟩
    refine ⟨_, rfl, rfl, _, rfl, if_no (by decide +kernel) ?_⟩
    refine ⟨_, rfl, rfl, _, rfl, if_yes (by decide +kernel) ?_⟩
    exact ⟨trivial, fun l xs G s1 n1 L1 => k l G xs _ s1 n1 L1 (by decide +kernel) (by show 0 < 9; decide) (by show 9 ≤ 100; decide)⟩
  · have k := k (by decide +kernel)
    refine ⟨_, rfl, rfl, _, rfl, if_no (by decide +kernel) ?_⟩
    refine ⟨_, rfl, rfl, _, rfl, if_no (by decide +kernel) ?_⟩
    refine ⟨_, rfl, rfl, _, rfl, if_no (by decide +kernel) ?_⟩
    refine ⟨_, rfl, rfl, _, rfl, if_no (by decide +kernel) ?_⟩
    refine ⟨_, rfl, rfl, _, rfl, if_no (by decide +kernel) ?_⟩
    refine ⟨_, rfl, rfl, _, rfl, if_no (by decide +kernel) ?_⟩
    refine ⟨_, rfl, rfl, _, rfl, if_yes (by decide +kernel) ?_⟩
    exact ⟨trivial, fun l xs G s1 n1 L1 => k l G xs _ s1 n1 L1 (by decide +kernel) (by show 0 < 8; decide) (by show 8 ≤ 100; decide)⟩
  · have k := k (by decide +kernel)
    refine ⟨_, rfl, rfl, _, rfl, if_no (by decide +kernel) ?_⟩
    refine ⟨_, rfl, rfl, _, rfl, if_no (by decide +kernel) ?_⟩
    refine ⟨_, rfl, rfl, _, rfl, if_no (by decide +kernel) ?_⟩
    refine ⟨_, rfl, rfl, _, rfl, if_no (by decide +kernel) ?_⟩
    refine ⟨_, rfl, rfl, _, rfl, if_no (by decide +kernel) ?_⟩
    refine ⟨_, rfl, rfl, _, rfl, if_no (by decide +kernel) ?_⟩
    refine ⟨_, rfl, rfl, _, rfl, if_no (by decide +kernel) ?_⟩
    refine ⟨trivial, fun l xs G s1 n1 L1 => ⟨_, rfl, rfl, _, rfl, if_yes (by decide +kernel) ⟨_, rfl, k l G xs _ s1 n1 L1 (by decide +kernel) (by show 0 < 10; decide) (by show 10 ≤ 100; decide)⟩⟩⟩
  · have k := k (by decide +kernel)
    refine ⟨_, rfl, rfl, _, rfl, if_no (by decide +kernel) ?_⟩
    refine ⟨_, rfl, rfl, _, rfl, if_no (by decide +kernel) ?_⟩
    refine ⟨_, rfl, rfl, _, rfl, if_no (by decide +kernel) ?_⟩
    refine ⟨_, rfl, rfl, _, rfl, if_no (by decide +kernel) ?_⟩
    refine ⟨_, rfl, rfl, _, rfl, if_no (by decide +kernel) ?_⟩
    refine ⟨_, rfl, rfl, _, rfl, if_no (by decide +kernel) ?_⟩
    refine ⟨_, rfl, rfl, _, rfl, if_no (by decide +kernel) ?_⟩
    refine ⟨trivial, fun l1 x1 G1 s1 n1 L1 => ⟨_, rfl, rfl, _, rfl, if_no (by decide +kernel) ⟨_, rfl, trivial, fun l2 x2 G2 s2 n2 L2 => cat_at (L1.same s2) L2 (by show 10 + 1 ≤ sizeLine; decide) fun l G s3 n3 L3 => k l G _ _ (s1.trans (s2.trans s3)) (none_back (s1.trans s2) n3) L3 (by decide +kernel) (by show 0 < 11; decide) (by show 11 ≤ 100; decide)⟩⟩⟩
  · have k := k (by decide +kernel)
    refine ⟨_, rfl, rfl, _, rfl, if_no (by decide +kernel) ?_⟩
    refine ⟨_, rfl, rfl, _, rfl, if_no (by decide +kernel) ?_⟩
    refine ⟨_, rfl, rfl, _, rfl, if_no (by decide +kernel) ?_⟩
    refine ⟨_, rfl, rfl, _, rfl, if_no (by decide +kernel) ?_⟩
    refine ⟨_, rfl, rfl, _, rfl, if_no (by decide +kernel) ?_⟩
    refine ⟨_, rfl, rfl, _, rfl, if_no (by decide +kernel) ?_⟩
    refine ⟨_, rfl, rfl, _, rfl, if_no (by decide +kernel) ?_⟩
    refine ⟨trivial, fun l1 x1 G1 s1 n1 L1 => ⟨_, rfl, rfl, _, rfl, if_no (by decide +kernel) ⟨_, rfl, trivial, fun l2 x2 G2 s2 n2 L2 => cat_at (L1.same s2) L2 (by show 10 + 1 ≤ sizeLine; decide) fun l G s3 n3 L3 => k l G _ _ (s1.trans (s2.trans s3)) (none_back (s1.trans s2) n3) L3 (by decide +kernel) (by show 0 < 11; decide) (by show 11 ≤ 100; decide)⟩⟩⟩
end
end K02
/-! children in a list that grows; _law_children's displays -/
namespace K02
open PySem PySem.Spec PyProof.Rows L2
section
variable {X : Cx} {J : L2.St → Hp → Prop}
/-- WorkerPlan(name) in a display -/
theorem md_wk0 {x : Str} {mv : List Value} {dS : Addr} {fd : FuncData} {p pos q : Pos} {j : Nat} (W : Wk X.K X.mg) (FW : FnOk X.prog X.w X.K X.mg X.base (L2.CX X.prog X.w) 11 (He.ma X.K (wkA X.K) "__init__") fd wPs (spWInit X.K)) (hr : Room 12 X.A)
    (hb : KBn X.K fd wPs 2 [] (fun us ws => us ++ mv ++ ws) (fun vs zs => vs ++ [.str "permanent", .int 0, .int 0, .non, .int 0, .ref dS] ++ zs)) (hd : ∀ H, SqT X.K H dS []) (hg : Gl X "WorkerPlan") (p1 : isPlace (.str x) = true) (lx : x.length ≤ 1000) :
    MkD X J (.Call (.Name "WorkerPlan" p) [.Constant (.str x) j q] [] pos) (.wrk (.tup [])) := by
  refine ⟨_, pe_makeN W.mkr FW hr hg W.gl hb passNo (pa_cons pe_str pa_nil) pk_nil, fun σ H Q l st jj k => ⟨rfl, rfl, fun a dx na nd ne => ?_⟩⟩
  have s0 : Same H (upd (upd H dx (.own a)) a (.ins (wkA X.K) dx [])) := (Same.new nd).trans (Same.new (by rw [upd_ne (Ne.symm ne)]; exact na))
  refine ⟨a, dx, .str x, _, _, _, _, _, _, .str x, .str "permanent", .int 0, .int 0, .non, .int 0, .tup [], rfl, upd_same, .str x lx, .str _, .int _, .int _, .non, .int _, .tup (hd _) .nil, fun _ H' s' => ⟨rfl, ?_⟩, fun y e => ?_⟩
  · have s2 := same_putN (l := a) (o := .ins (wkA X.K) dx (wflds (.str x) (.str "permanent") (.int 0) (.int 0) .non (.int 0) (.ref dS))) (s0.trans s') na
    exact k _ _ s2 (.wrk (by rw [hide_at (st.ne na)]; exact upd_same) (by kernel_rfl) (.tup (hd _) .nil) (by decide))
  · rw [wset_ok p1 (by decide +kernel)] at e
    cases e
end
section
variable {K : PySem.W.Frag}
/-- a child that has nothing to do with the list at c -/
inductive KidC (K : PySem.W.Frag) (H : Hp) (c : Addr) : V → Kid → Prop
  | odd {v : V} {d : Dt} : Dd K (hide (some c) H) v d → kd d < 7 → KidC K H c v (.odd d)
  | pn {v : V} {t : Pn} : Pt K H v t → t.lv ≤ 20 → t.size ≤ 100000 → KidC K H c v (.pn t)
theorem KidC.kid {H : Hp} {c : Addr} {v : V} {k : Kid} (h : KidC K H c v k) : KidR K H v k := by
  cases h with
  | odd h l => exact .odd (h.same (hide_sub _ _)) l
  | pn h l z => exact .pn h l z
theorem KidC.same {H H' : Hp} {c : Addr} {v : V} {k : Kid} (s : Same H H') (h : KidC K H c v k) : KidC K H' c v k := by
  cases h with
  | odd h l => exact .odd (h.same (hide_same s)) l
  | pn h l z => exact .pn (h.same s) l z
theorem hide_but {H H' : Hp} {a c : Addr} (s : But a H H') : But a (hide (some c) H) (hide (some c) H') := fun b o e n => by
  unfold hide at e ⊢
  split at e
  · cases e
  · rename_i q
    rw [if_neg q]
    exact s b o e n
theorem KidC.but {H H' : Hp} {a c : Addr} {v : V} {k : Kid} (s : But a H H') (S : IsSrc H a) (ac : a ≠ c) (h : KidC K H c v k) : KidC K H' c v k := by
  cases h with
  | odd h l =>
    refine .odd (Dd_but (hide_but s) ?_ h) l
    obtain ⟨c0, n0, r0, e⟩ := S
    exact ⟨c0, n0, r0, by rw [hide_at (fun z => ac (Option.some.inj z).symm)]; exact e⟩
  | pn h l z => exact .pn (Pt_but s S.noPart h) l z
/-- the list at c changes -/
theorem KidC.put {H H' : Hp} {c : Addr} {ys : List V} {v : V} {k : Kid} (s : But c H H') (S : H c = some (.lst ys)) (h : KidC K H c v k) : KidC K H' c v k := by
  cases h with
  | @odd d h l =>
    refine .odd (h.same fun b o e => ?_) l
    unfold hide at e ⊢
    split at e
    · cases e
    · rename_i q
      rw [if_neg q]
      exact s b o e fun z => q (by rw [z])
  | pn h l z => exact .pn (Pt_but s (.inr ⟨ys, S⟩) h) l z
/-- all in a list -/
def AllC (K : PySem.W.Frag) (H : Hp) (c : Addr) (xs : List V) (ks : List Kid) : Prop := xs.length = ks.length ∧ ∀ (i : Nat) v, xs[i]? = some v → ∃ k, ks[i]? = some k ∧ KidC K H c v k
theorem AllC.kids {H : Hp} {c : Addr} : ∀ {xs : List V} {ks : List Kid}, AllC K H c xs ks → KidAll K H xs ks
  | [], [], _ => .nil
  | v :: xs, k :: ks, h => by
    obtain ⟨k', e, hk⟩ := h.2 0 v rfl
    cases e
    exact .cons hk.kid (AllC.kids ⟨by simpa using h.1, fun i v e => by simpa using h.2 (i + 1) v (by simpa using e)⟩)
  | [], _ :: _, h => by cases h.1
  | _ :: _, [], h => by cases h.1
theorem AllC.map {H H' : Hp} {c : Addr} {xs : List V} {ks : List Kid} (f : ∀ {v k}, KidC K H c v k → KidC K H' c v k) (h : AllC K H c xs ks) : AllC K H' c xs ks := ⟨h.1, fun i v e => let ⟨k, e2, hk⟩ := h.2 i v e; ⟨k, e2, f hk⟩⟩
theorem AllC.snoc {H : Hp} {c : Addr} {xs : List V} {ks : List Kid} {v : V} {k : Kid} (h : AllC K H c xs ks) (hv : KidC K H c v k) : AllC K H c (xs ++ [v]) (ks ++ [k]) := by
  refine ⟨by simp [h.1], fun i u e => ?_⟩
  by_cases l : i < xs.length
  · rw [List.getElem?_append_left l] at e
    obtain ⟨k', e2, hk⟩ := h.2 i u e
    exact ⟨k', by rw [List.getElem?_append_left (by rw [← h.1]; exact l)]; exact e2, hk⟩
  · rw [List.getElem?_append_right (Nat.le_of_not_lt l)] at e
    have iz : i - xs.length = 0 := by
      cases q : i - xs.length with
      | zero => rfl
      | succ n => rw [q] at e; simp at e
    rw [iz] at e
    simp at e
    subst e
    refine ⟨k, ?_, hv⟩
    have : i = ks.length := by have := h.1; omega
    rw [this]
    simp
end
def kidSize : Kid → Nat
  | .pn t => t.size | .odd _ => 0
/-- the first that can't be, with what comes behind -/
theorem firstKid_snoc {r : List Kid} {k : Kid} : ∀ {i m : Nat}, firstKid i m r = none → firstKid i m (r ++ [k]) = firstKid (i + r.length) (m + (r.map kidSize).sum) [k] := by
  induction r with
  | nil => intro i m _; simp
  | cons a r ih =>
    intro i m h
    rw [List.cons_append]
    cases a with
    | odd d =>
      rw [firstKid] at h
      split at h <;> cases h
    | pn t =>
      rw [firstKid_pn] at h ⊢
      split at h
      · cases h
      · rename_i c1
        split at h
        · cases h
        · rename_i c2
          split at h
          · cases h
          · rename_i c3
            rw [if_neg c1, if_neg c2, if_neg c3, ih h]
            simp only [List.length_cons, List.map_cons, List.sum_cons, kidSize]
            congr 1 <;> omega
theorem firstKid_stays {r : List Kid} {k : Kid} {j : Nat} : ∀ {i m : Nat}, firstKid i m r = some j → firstKid i m (r ++ [k]) = some j := by
  induction r with
  | nil => intro i m h; rw [firstKid] at h; cases h
  | cons a r ih =>
    intro i m h
    rw [List.cons_append]
    cases a with
    | odd d =>
      rw [firstKid] at h ⊢
      exact h
    | pn t =>
      rw [firstKid_pn] at h ⊢
      split at h
      · rename_i c1; rw [if_pos c1]; exact h
      · rename_i c1
        rw [if_neg c1]
        split at h
        · rename_i c2; rw [if_pos c2]; exact h
        · rename_i c2
          rw [if_neg c2]
          split at h
          · rename_i c3; rw [if_pos c3]; exact h
          · rename_i c3; rw [if_neg c3]; exact ih h
end K02
/-! _law_scripts -/
namespace K02
open PySem PySem.Spec PyProof.Rows L2
section
variable {X : Cx} {J : L2.St → Hp → Prop}
theorem md_wk {e7 : Expr} {d7 : Dt} {x : Str} {mv : List Value} {fd : FuncData} {p pos q kq : Pos} {j : Nat} (W : Wk X.K X.mg) (FW : FnOk X.prog X.w X.K X.mg X.base (L2.CX X.prog X.w) 11 (He.ma X.K (wkA X.K) "__init__") fd wPs (spWInit X.K)) (hr : Room 12 X.A)
    (hb : KBn X.K fd wPs 2 ["script"] (fun us ws => us ++ mv ++ ws) (fun vs zs => vs ++ [.str "permanent", .int 0, .int 0, .non, .int 0] ++ zs)) (hg : Gl X "WorkerPlan") (p1 : isPlace (.str x) = true) (lx : x.length ≤ 1000) (h7 : MkD X J e7 d7) (p7 : scriptD d7 = true) (o7 : okSc d7 = true) :
    MkD X J (.Call (.Name "WorkerPlan" p) [.Constant (.str x) j q] [⟨some "script", e7, kq⟩] pos) (.wrk d7) := by
  obtain ⟨te, pe, k7⟩ := h7
  refine ⟨_, pe_makeN W.mkr FW hr hg W.gl hb passNo (pa_cons pe_str pa_nil) (pk_cons pe pk_nil), fun σ H Q l st jj k => ?_⟩
  refine k7 σ H _ l st jj fun v7 H1 s1 d1 => ⟨rfl, rfl, fun a dx na nd ne => ?_⟩
  have s0 : Same H1 (upd (upd H1 dx (.own a)) a (.ins (wkA X.K) dx [])) := (Same.new nd).trans (Same.new (by rw [upd_ne (Ne.symm ne)]; exact na))
  refine ⟨a, dx, .str x, _, _, _, _, _, v7, .str x, .str "permanent", .int 0, .int 0, .non, .int 0, d7, rfl, upd_same, .str x lx, .str _, .int _, .int _, .non, .int _, (d1.same (hide_sub l H1)).same s0, fun _ H' s' => ⟨rfl, ?_⟩, fun y e => ?_⟩
  · have s2 : Same H1 (upd H' a (.ins (wkA X.K) dx (wflds (.str x) (.str "permanent") (.int 0) (.int 0) .non (.int 0) v7))) := fun b o e => by
      rw [upd_ne (ne_of_none e na)]
      exact s' _ _ (s0 _ _ e)
    exact k _ _ (s1.trans s2) (.wrk (by rw [hide_at ((st.same s1).ne na)]; exact upd_same) (by kernel_rfl) (d1.same (hide_same s2)) o7)
  · rw [wset_ok p1 p7] at e
    cases e
end
def wName (i : Nat) : Str := "w" ++ PySem.Str.ofString (toString (0 + (i : Int)))
def fullRow (i : Nat) : Dt := .tup [.str "first", .str (wName i), .int 1, .tup []]
def fulls : List Dt := (List.range 31).map fullRow
theorem full_ok : ∀ i : Nat, i < 31 → ("w" : Str).length + (PySem.Str.ofString (toString (0 + (i : Int)))).length ≤ 1000 ∧ (wName i).length ≤ 1000 := by decide +kernel
theorem full_at {i : Nat} {d : Dt} (h : fulls[i]? = some d) : i < 31 ∧ d = fullRow i := by
  unfold fulls at h
  rw [List.getElem?_map] at h
  obtain ⟨j, ej, rfl⟩ := Option.map_eq_some_iff.mp h
  obtain ⟨hj, e⟩ := List.getElem?_eq_some_iff.mp ej
  rw [List.length_range] at hj
  rw [List.getElem_range] at e
  exact ⟨hj, by rw [e]⟩
theorem but_updL {H : Hp} {D : Addr} {o : HO} : But D H (upd H D o) := fun x u e ne => by
  rw [upd_ne ne]
  exact e
theorem ddAll_of {K : PySem.W.Frag} {H : Hp} : ∀ {xs : List V} {ds : List Dt}, xs.length = ds.length → (∀ (i : Nat) v d, xs[i]? = some v → ds[i]? = some d → Dd K H v d) → DdAll K H xs ds
  | [], [], _, _ => .nil
  | x :: xs, d :: ds, hl, h => .cons (h 0 x d rfl rfl) (ddAll_of (by simpa using hl) fun i v e a b => h (i + 1) v e (by simpa using a) (by simpa using b))
  | [], _ :: _, hl, _ => by cases hl
  | _ :: _, [], hl, _ => by cases hl
def rowG : Dt := .tup [.str "first", .str "go", .int 1, .tup []]
def innerD : Dt := .wrk (.tup [rowG])
def addsD : Dt := .wrk (.tup [.tup [.str "first", .str "go", .int 1, .tup [.tup [.str "add", .str "own", innerD]]]])
section
variable {P : Program} {w : World} {K : PySem.W.Frag} {mg : Str → Option Value} {base : Heap}
def JI (K : PySem.W.Frag) (σ : L2.St) (H : Hp) : Prop := ∃ v, σ[1]? = some (some v) ∧ Dd K H v innerD
theorem keepsI : Keeps (JI K) := fun σ H H' s ⟨v, e, h⟩ => ⟨v, e, h.same s⟩
def JR (K : PySem.W.Frag) (σ : L2.St) (H : Hp) : Prop := (∃ v, σ[0]? = some (some v) ∧ Dd K H v rowG) ∧ ∃ v, σ[3]? = some (some v) ∧ Dd K H v (.tup fulls)
theorem keepsR : Keeps (JR K) := fun σ H H' s ⟨⟨v, e, h⟩, u, f, g⟩ => ⟨⟨v, e, h.same s⟩, u, f, g.same s⟩
def JA (K : PySem.W.Frag) (σ : L2.St) (H : Hp) : Prop := ∃ v, σ[2]? = some (some v) ∧ Dd K H v addsD
theorem keepsA : Keeps (JA K) := fun σ H H' s ⟨v, e, h⟩ => ⟨v, e, h.same s⟩
theorem cut_to (xs : List V) (j : Nat) (h : j ≤ xs.length) : cutV xs none (some (j : Int)) = xs.take j := by
  unfold cutV
  rw [HT.sIx_none, HT.sIx_nat, List.drop_zero, Nat.min_eq_left h, Nat.sub_zero]
/-- a list of n values that are no scripts -/
def Bads (K : PySem.W.Frag) (H : Hp) (a : Addr) (n : Nat) : Prop := ∃ xs ds, LstAt K H a xs ds ∧ ds.length = n ∧ ∀ d ∈ ds, scriptD d = false
theorem Bads.same {H H' : Hp} {a : Addr} {n : Nat} (h : Bads K H a n) (s : Same H H') : Bads K H' a n := by
  obtain ⟨xs, ds, L, l, b⟩ := h
  exact ⟨xs, ds, L.same s, l, b⟩
abbrev s_law_scripts : Stmt := (top 67)
def N_law_scripts : List Str := ["row", "inner", "adds", "rows", "some", "one", "deed", "k"]
theorem sc_law_scripts : FnScope N_law_scripts [] (defScope s_law_scripts) := ⟨rfl, rfl, rfl, by decide +kernel, rfl, by decide +kernel, by decide +kernel⟩
theorem ok_scripts {fd : FuncData} {mv : List Value} (F : Has K mg "_law_scripts" s_law_scripts) (T : Txt K mg) (W : Wk K mg) (FW : FnOk P w K mg base (L2.CX P w) 11 (He.ma K (wkA K) "__init__") fd wPs (spWInit K))
    (hb : KBn K fd wPs 2 ["script"] (fun us ws => us ++ mv ++ ws) (fun vs zs => vs ++ [.str "permanent", .int 0, .int 0, .non, .int 0] ++ zs)) : FnQ P w K mg base CX0 13 "_law_scripts" [] (spScripts K) := by
  refine F.q sc_law_scripts (fun _ _ _ _ _ _ us hl => match us, hl with | [], _ => rfl) (fun vs H Q E h => by obtain ⟨rfl, _⟩ := h; rfl) (fun cdv A outer s H vs Q E hr h => ?_)
  obtain ⟨rfl, k⟩ := h
  have KJ : Keeps J9 := keeps9
  refine ⟨_, PSs.nox (pss_cons (ps_swap (is := [0, 1]) rfl sc_law_scripts.nd (pe_tupM (pa_cons (pe_mk (J := J9) (md_tup (mdA_cons KJ (md_str) (mdA_cons KJ (md_str) (mdA_cons KJ md_int (mdA_cons KJ (md_tup mdA_nil) mdA_nil)))))) (pa_cons (pe_mk (J := J9) (md_wk W FW (hr.mono (by decide)) hb (by rfl) (by decide +kernel) (by decide) (md_tup (mdA_cons KJ (md_tup (mdA_cons KJ (md_str) (mdA_cons KJ (md_str) (mdA_cons KJ md_int (mdA_cons KJ (md_tup mdA_nil) mdA_nil))))) mdA_nil)) (by decide +kernel) (by decide +kernel))) pa_nil))) (.cons rfl (.inl rfl) (.inr rfl) (.cons rfl (.inl rfl) (.inr rfl) .nil)))
  (pss_cons (ps_set (i := 2) sc_law_scripts.nd rfl (by first | exact .inl rfl | exact .inr rfl) (pe_mk (J := JI K) (md_wk W FW (hr.mono (by decide)) hb (by rfl) (by decide +kernel) (by decide) (md_tup (mdA_cons (keepsI (K := K)) (md_tup (mdA_cons (keepsI (K := K)) (md_str) (mdA_cons (keepsI (K := K)) (md_str) (mdA_cons (keepsI (K := K)) md_int (mdA_cons (keepsI (K := K)) (md_tup (mdA_cons (keepsI (K := K)) (md_tup (mdA_cons (keepsI (K := K)) (md_str) (mdA_cons (keepsI (K := K)) (md_str) (mdA_cons (keepsI (K := K)) (md_var (i := 1) (pv 1) (fun σ H Q v e q => ⟨v, e, q⟩) (fun σ H h => h)) mdA_nil)))) mdA_nil)) mdA_nil))))) mdA_nil)) (by decide +kernel) (by decide +kernel))))
  (pss_cons (ps_set (i := 3) sc_law_scripts.nd rfl (by first | exact .inl rfl | exact .inr rfl) (pe_callTy call_tuple_of (by rfl) (T.fr "tuple" (by simp [frees])) PyProof.Rows.boot_tuple (pa_cons (pe_lc (own := [("k", 7)]) (tt := tYes) rfl sc_law_scripts.nd (pi_range1 (by rfl) (T.fr "range" (by simp [frees])) (pa_cons pe_int pa_nil)) (blkOk_by (N := N_law_scripts) (sc := defScope s_law_scripts) (by decide +kernel)) (fun _ _ _ _ _ => (pg_name (i := 7) sc_law_scripts.nd rfl (by first | exact .inl rfl | exact .inr rfl))) (fun _ _ _ _ _ => pts_nil) (fun _ _ _ _ _ => (pe_tupM (pa_cons pe_str (pa_cons (pe_op op_add_str pe_str (pe_callTy call_str_int (by rfl) (T.fr "str" (by simp [frees])) PyProof.Rows.boot_str (pa_cons (pv 7) pa_nil))) (pa_cons pe_int (pa_cons (pe_tupM pa_nil) pa_nil))))))) pa_nil)))
  (pss_cons (ps_set (i := 4) sc_law_scripts.nd rfl (by first | exact .inl rfl | exact .inr rfl) (pe_mkL (J := JR K) (mdA_cons (keepsR (K := K)) md_non (mdA_cons (keepsR (K := K)) (md_lst mdA_nil) (mdA_cons (keepsR (K := K)) (md_str) (mdA_cons (keepsR (K := K)) (md_str) (mdA_cons (keepsR (K := K)) md_int (mdA_cons (keepsR (K := K)) md_bl (mdA_cons (keepsR (K := K)) md_dic (mdA_cons (keepsR (K := K)) (md_tup (mdA_cons (keepsR (K := K)) md_int mdA_nil)) (mdA_cons (keepsR (K := K)) (md_tup (mdA_cons (keepsR (K := K)) (md_str) mdA_nil)) (mdA_cons (keepsR (K := K)) (md_tup (mdA_cons (keepsR (K := K)) (md_lst (mdA_cons (keepsR (K := K)) (md_str) (mdA_cons (keepsR (K := K)) (md_str) (mdA_cons (keepsR (K := K)) md_int (mdA_cons (keepsR (K := K)) (md_tup mdA_nil) mdA_nil))))) mdA_nil)) (mdA_cons (keepsR (K := K)) (md_tup (mdA_cons (keepsR (K := K)) (md_var (i := 0) (pv 0) (fun σ H Q v e q => ⟨v, e, q⟩) (fun σ H h => h.1)) (mdA_cons (keepsR (K := K)) (md_var (i := 0) (pv 0) (fun σ H Q v e q => ⟨v, e, q⟩) (fun σ H h => h.1)) mdA_nil))) (mdA_cons (keepsR (K := K)) (md_var (i := 3) (pv 3) (fun σ H Q v e q => ⟨v, e, q⟩) (fun σ H h => h.2)) (mdA_cons (keepsR (K := K)) (md_lst (mdA_cons (keepsR (K := K)) (md_var (i := 0) (pv 0) (fun σ H Q v e q => ⟨v, e, q⟩) (fun σ H h => h.1)) mdA_nil)) mdA_nil)))))))))))))))
  (pss_cons (ps_for PassesOwn.never rfl (pi_list (pe_mkLH (J := J9) (mdA_cons KJ (md_tup (mdA_cons KJ (md_str) (mdA_cons KJ (md_str) (mdA_cons KJ md_int (mdA_cons KJ (md_tup mdA_nil) mdA_nil))))) (mdA_cons KJ (md_tup (mdA_cons KJ (md_str) (mdA_cons KJ (md_str) (mdA_cons KJ md_int (mdA_cons KJ (md_tup mdA_nil) mdA_nil))))) (mdA_cons KJ (md_tup (mdA_cons KJ (md_str) (mdA_cons KJ (md_str) (mdA_cons KJ md_bl (mdA_cons KJ (md_tup mdA_nil) mdA_nil))))) (mdA_cons KJ (md_tup (mdA_cons KJ (md_str) (mdA_cons KJ (md_str) (mdA_cons KJ md_int (mdA_cons KJ (md_tup mdA_nil) mdA_nil))))) mdA_nil)))))) (pg_name (i := 5) sc_law_scripts.nd rfl (by first | exact .inl rfl | exact .inr rfl))
  (pss_one (ps_expr (pe_bm PySem.F.plainAttrs_list PySem.F.slot_list_append PySem.F.type_list_append mt_append (pv 4) (pa_cons (pe_tupM (pa_cons (pe_op op_catA (pe_slice sl_tup (pv 0) po_none (po_some pe_int)) (pe_tupM (pa_cons pe_str (pa_cons pe_int (pa_cons (pe_tupM pa_nil) pa_nil))))) (pa_cons (pv 5) pa_nil))) pa_nil)))))
  (pss_cons (ps_for PassesOwn.never rfl (pi_list (pe_mkLH (J := J9) (mdA_cons KJ (md_tup (mdA_cons KJ (md_str) (mdA_cons KJ (md_str) (mdA_cons KJ md_int (mdA_cons KJ (md_tup mdA_nil) mdA_nil))))) (mdA_cons KJ (md_tup (mdA_cons KJ (md_str) (mdA_cons KJ (md_str) (mdA_cons KJ md_int (mdA_cons KJ (md_lst mdA_nil) mdA_nil))))) (mdA_cons KJ (md_tup (mdA_cons KJ (md_str) (mdA_cons KJ (md_str) (mdA_cons KJ md_int mdA_nil)))) (mdA_cons KJ (md_tup (mdA_cons KJ (md_str) (mdA_cons KJ (md_str) (mdA_cons KJ md_int (mdA_cons KJ (md_tup mdA_nil) (mdA_cons KJ (md_tup mdA_nil) mdA_nil)))))) mdA_nil)))))) (pg_name (i := 5) sc_law_scripts.nd rfl (by first | exact .inl rfl | exact .inr rfl))
  (pss_one (ps_expr (pe_bm PySem.F.plainAttrs_list PySem.F.slot_list_append PySem.F.type_list_append mt_append (pv 4) (pa_cons (pe_tupM (pa_cons (pv 5) pa_nil)) pa_nil)))))
  (pss_cons (ps_for PassesOwn.never rfl (pi_list (pe_mkLH (J := JA K) (mdA_cons (keepsA (K := K)) (md_tup (mdA_cons (keepsA (K := K)) (md_str) (mdA_cons (keepsA (K := K)) (md_str) mdA_nil))) (mdA_cons (keepsA (K := K)) (md_tup (mdA_cons (keepsA (K := K)) (md_str) mdA_nil)) (mdA_cons (keepsA (K := K)) (md_tup (mdA_cons (keepsA (K := K)) (md_str) (mdA_cons (keepsA (K := K)) (md_str) mdA_nil))) (mdA_cons (keepsA (K := K)) (md_lst (mdA_cons (keepsA (K := K)) (md_str) (mdA_cons (keepsA (K := K)) (md_str) mdA_nil))) (mdA_cons (keepsA (K := K)) (md_tup (mdA_cons (keepsA (K := K)) (md_str) (mdA_cons (keepsA (K := K)) (md_str) (mdA_cons (keepsA (K := K)) (md_var (i := 2) (pv 2) (fun σ H Q v e q => ⟨v, e, q⟩) (fun σ H h => h)) mdA_nil)))) (mdA_cons (keepsA (K := K)) (md_str) mdA_nil)))))))) (pg_name (i := 6) sc_law_scripts.nd rfl (by first | exact .inl rfl | exact .inr rfl))
  (pss_one (ps_expr (pe_bm PySem.F.plainAttrs_list PySem.F.slot_list_append PySem.F.type_list_append mt_append (pv 4) (pa_cons (pe_tupM (pa_cons (pe_tupM (pa_cons pe_str (pa_cons pe_str (pa_cons pe_int (pa_cons (pe_tupM (pa_cons (pe_tupM (pa_cons pe_str (pa_cons pe_str pa_nil))) (pa_cons (pv 6) pa_nil))) pa_nil))))) pa_nil)) pa_nil)))))
  (pss_cons (ps_expr (pe_bm PySem.F.plainAttrs_list PySem.F.slot_list_append PySem.F.type_list_append mt_append (pv 4) (pa_cons (pe_tupM (pa_cons (pe_tupM (pa_cons pe_str (pa_cons pe_str (pa_cons pe_int (pa_cons (pe_op op_repT (pe_tupM (pa_cons (pe_tupM (pa_cons pe_str (pa_cons pe_str pa_nil))) pa_nil)) pe_int) pa_nil))))) pa_nil)) pa_nil)))
  (pss_one (ps_ret (pv 4))))))))))), ?_⟩
  refine ⟨none, (fun _ e => nomatch e), trivial, fun v0 H0 s0 d0 => ⟨none, (fun _ e => nomatch e), trivial, fun v1 H1 s1 d1 => ⟨(by show 2 ≤ sizeLine; decide), fun tp H2 s2 n2 e2 => ⟨tp, _, rfl, SqT.of e2, rfl, ?_⟩⟩⟩⟩
  rw [hide_none] at d0 d1
  have d1' := d1.same s2
  refine ⟨none, (fun _ e => nomatch e), ⟨v1, rfl, by rw [hide_none]; exact d1'⟩, fun v2 H3 s3 d2 => ?_⟩
  rw [hide_none] at d2
  refine ⟨31, rfl, by decide, by decide, comp_any walk_range (P := fun i v G => Dd K G v (fullRow i)) (by show 31 < sizeLine; decide) (fun _ _ => trivial) (fun i G x G' y b o e => ?_) (fun i v G1 G2 g h => h.same g) (fun i v G1 D xs ys _ e h => Dd_butL but_updL e h rfl) (fun i x G1 G2 R hi g1 yy kk => ?_) fun pf H4 w s4 _ e4 len4 val4 => ?_⟩
  · obtain ⟨rfl, rfl⟩ := y
    exact e
  · obtain ⟨rfl, rfl⟩ := yy
    have hi : i < 31 := hi
    have lg : (0 + (i : Int)).natAbs.log2 < 1920 := by
      have e : (0 + (i : Int)).natAbs = i := by omega
      rw [e]
      exact Nat.lt_of_le_of_lt (Nat.log2_le_self _) (by omega)
    refine ⟨rfl, _, rfl, _, rfl, lg, _, _, rfl, rfl, Nat.le_trans (full_ok i hi).1 (by decide), (by show 0 ≤ sizeLine; decide), fun q1 G3 g3 _ e3 => ⟨(by show 4 ≤ sizeLine; decide), fun q2 G4 g4 _ e4 => kk _ G4 (g3.trans g4) ?_⟩⟩
    exact .tup (SqT.of e4) (.cons (.str "first") (.cons (.str _ (full_ok i hi).2) (.cons (.int 1) (.cons (.tup (SqT.of (g4 _ _ e3)) .nil) .nil))))
  have hf4 : DdAll K H4 w fulls := ddAll_of (by rw [len4]; rfl) fun i v d e1 e2 => by
    obtain ⟨_, rfl⟩ := full_at e2
    exact val4 i v e1
  refine ⟨pf, w, rfl, .inl ⟨SqL.of e4, fun t5 n5 => ?_⟩⟩
  have s5 : ∀ u, Same H4 (upd H4 t5 u) := fun u => Same.new n5
  generalize hH5 : upd H4 t5 (.tup w) = H5
  have e5 : H5 t5 = some (.tup w) := by rw [← hH5]; exact upd_same
  have t45 : Same H4 H5 := by rw [← hH5]; exact s5 _
  have r5 : Dd K H5 v0 rowG := d0.same (s1.trans (s2.trans (s3.trans (s4.trans t45))))
  have a5 : Dd K H5 v2 addsD := d2.same (s4.trans t45)
  have f5 : Dd K H5 (.ref t5) (.tup fulls) := .tup (SqT.of e5) (hf4.same t45)
  have S5 : Same H H5 := s0.trans (s1.trans (s2.trans (s3.trans (s4.trans t45))))
  refine ⟨⟨⟨v0, rfl, r5⟩, _, rfl, f5⟩, fun l x6 H6 s6 n6 L6 => ?_⟩
  have hid : ∀ {G : Hp}, Same H5 G → Same H5 (hide (some l) G) := fun g => hide_new g n6
  have B6 : Bads K H6 l 13 := ⟨_, _, L6, rfl, by decide +kernel⟩
  clear L6
  obtain ⟨ra, z0, rfl, rq, rz⟩ : ∃ ra z0, v0 = .ref ra ∧ SqT K H5 ra [.str "first", .str "go", .int 1, z0] ∧ Dd K H5 z0 (.tup []) := by
    cases r5 with
    | tup q al =>
      obtain ⟨b1, b2, b3, b4, rfl, h1, h2, h3, h4⟩ := al.four
      cases h1; cases h2; cases h3
      exact ⟨_, _, rfl, q, h4⟩
  have cut1 : cutV [V.str "first", .str "go", .int 1, z0] none (some 1) = [.str "first"] := cut_to _ 1 (by show 1 ≤ 4; decide)
  have nl : ∀ {G : Hp} {p : Addr} {xs : List V}, G l = some (.lst xs) → G p = none → some l ≠ some p := fun {G p xs} e n z => by
    cases z
    rw [e] at n; cases n
  refine ⟨some l, (by obtain ⟨_, _, L, _⟩ := B6; exact L.stands), trivial, fun lo ys H7 s7 n7 eo ho => ⟨lo, rfl, ⟨_, SqL.of eo⟩, for_it walk_list (fun i σ G => ∃ v5, σ = [some (.ref ra), some v1, some v2, some (.ref t5), some (.ref l), v5, none, none] ∧ Same H5 G ∧ G lo = some (.lst ys) ∧
    DdAll K (hide (some l) G) ys [.tup [.str "first", .str "go", .int 0, .tup []], .tup [.str "first", .str "go", .int 1001, .tup []], .tup [.str "first", .str "go", .bl true, .tup []], .tup [.str "First", .str "go", .int 1, .tup []]] ∧ Bads K G l (13 + i)) ⟨none, rfl, s6.trans s7, eo, ho, B6.same s7⟩ (fun i σ G _ h => by obtain ⟨_, _, _, e, _⟩ := h; exact SqL.of e) ?_ ?_⟩⟩
  · rintro i x σ G2 G1 hi ⟨v5, rfl, g1, eo, ho, B⟩ ⟨rfl, ex⟩
    obtain ⟨d, ed, hd⟩ := ho.get ex
    obtain ⟨xs, ds, L, ld, lb⟩ := B
    have ly : ys.length = 4 := ho.len
    refine ⟨_, rfl, .inl ⟨rfl, _, SqL.of L.1⟩, _, rfl, 1, rfl, ra, _, rfl, g1.sqT rq, (by show ¬ (HT.sIx 4 0 none = 0 ∧ HT.sIx 4 4 (some 1) = 4); decide), fun u1 m1 => ?_⟩
    rw [cut1]
    have y1 : ∀ u, Same G1 (upd G1 u1 u) := fun u => Same.new m1
    refine ⟨(by show 0 ≤ sizeLine; decide), fun u2 G3 t3 m3 f3 => ⟨(by show 3 ≤ sizeLine; decide), fun u3 G4 t4 m4 f4 => ⟨u1, u3, _, _, rfl, rfl, SqT.of ((t3.trans t4) _ _ upd_same), SqT.of f4, (by show 1 + 3 ≤ sizeLine; decide), (fun e => by cases e), (fun _ e => by cases e), fun _ _ u4 m5 => ?_⟩⟩⟩
    have y5 : ∀ u, Same G4 (upd G4 u4 u) := fun u => Same.new m5
    refine ⟨_, rfl, (by show 2 ≤ sizeLine; decide), fun u6 G6 t6 m6 f6 => ?_⟩
    have T16 : Same G1 G6 := (y1 _).trans (t3.trans (t4.trans ((y5 _).trans t6)))
    have lG : ∀ {G : Hp}, Same G1 G → G l = some (.lst xs) := fun s => s _ _ L.1
    have hway : Dd K (hide (some l) G6) (.ref u4) (.tup [.str "first", .str "way", .int 1, .tup []]) := by
      refine .tup (SqT.of (by rw [hide_at (nl (lG ((y1 _).trans (t3.trans t4))) m5)]; exact t6 _ _ upd_same)) (.cons (.str _) (.cons (.str _) (.cons (.int _) (.cons (.tup (SqT.of (by rw [hide_at (nl (lG (y1 _)) m3)]; exact (t4.trans ((y5 _).trans t6)) _ _ f3)) .nil) .nil))))
    have hnew : Dd K (hide (some l) G6) (.ref u6) (.tup [.tup [.str "first", .str "way", .int 1, .tup []], d]) := .tup (SqT.of (by rw [hide_at (nl (lG ((y1 _).trans (t3.trans (t4.trans (y5 _))))) m6)]; exact f6)) (.cons hway (.cons (hd.same (hide_same T16)) .nil))
    have L6 := (L.same T16).put hnew
    have bd : scriptD (.tup [.tup [.str "first", .str "way", .int 1, .tup []], d]) = false := by
      have z := List.mem_of_getElem? ed
      simp only [List.mem_cons, List.not_mem_nil, or_false] at z
      rcases z with rfl | rfl | rfl | rfl <;> decide +kernel
    have lx : xs.length = ds.length := L.2.len
    have lolo : lo ≠ l := fun z => by rw [z] at n7; obtain ⟨_, _, L0, _⟩ := B6; rw [L0.1] at n7; cases n7
    refine ⟨l, xs, _, rfl, rfl, lG T16, Nat.lt_of_le_of_lt (show xs.length ≤ 100 by omega) (by decide), ?_⟩
    refine ⟨_, rfl, same_putN (g1.trans T16) n6, by rw [upd_ne lolo]; exact T16 _ _ eo, ?_, _, _, L6, by rw [List.length_append, ld]; rfl, fun e he => ?_⟩
    · refine (ho.same (hide_same T16)).same fun b o e => ?_
      unfold hide at e ⊢
      split at e
      · cases e
      · rename_i q
        rw [if_neg q, upd_ne (fun z => q (by rw [z]))]
        exact e
    · rcases List.mem_append.mp he with he | he
      · exact lb e he
      · rw [List.mem_singleton.mp he]; exact bd
  · rintro σ G ⟨v5, rfl, g0, _, ho0, B0⟩
    rw [show ys.length = 4 from ho0.len] at B0
    refine ⟨some l, (by obtain ⟨_, _, L, _⟩ := B0; exact L.stands), trivial, fun lo ys H8 s8 n8 eo ho => ⟨lo, rfl, ⟨_, SqL.of eo⟩, for_it walk_list (fun i σ G => ∃ v5, σ = [some (.ref ra), some v1, some v2, some (.ref t5), some (.ref l), v5, none, none] ∧ Same H5 G ∧ G lo = some (.lst ys) ∧
      DdAll K (hide (some l) G) ys [.tup [.str "first", .str "", .int 1, .tup []], .tup [.str "first", .str "go", .int 1, .lst []], .tup [.str "first", .str "go", .int 1], .tup [.str "first", .str "go", .int 1, .tup [], .tup []]] ∧ Bads K G l (17 + i)) ⟨_, rfl, g0.trans s8, eo, ho, B0.same s8⟩ (fun i σ G _ h => by obtain ⟨_, _, _, e, _⟩ := h; exact SqL.of e) ?_ ?_⟩⟩
    · rintro i x σ G2 G1 hi ⟨v5, rfl, g1, eo, ho, B⟩ ⟨rfl, ex⟩
      obtain ⟨d, ed, hd⟩ := ho.get ex
      obtain ⟨xs, ds, L, ld, lb⟩ := B
      have ly : ys.length = 4 := ho.len
      refine ⟨_, rfl, .inl ⟨rfl, _, SqL.of L.1⟩, _, rfl, (by show 1 ≤ sizeLine; decide), fun u6 G6 T16 m6 f6 => ?_⟩
      have hnew : Dd K (hide (some l) G6) (.ref u6) (.tup [d]) := .tup (SqT.of (by rw [hide_at (nl L.1 m6)]; exact f6)) (.cons (hd.same (hide_same T16)) .nil)
      have L6 := (L.same T16).put hnew
      have bd : scriptD (.tup [d]) = false := by
        have z := List.mem_of_getElem? ed
        simp only [List.mem_cons, List.not_mem_nil, or_false] at z
        rcases z with rfl | rfl | rfl | rfl <;> decide +kernel
      have lx : xs.length = ds.length := L.2.len
      have lolo : lo ≠ l := fun z => by rw [z] at n8; obtain ⟨_, _, L0, _⟩ := B0; rw [L0.1] at n8; cases n8
      refine ⟨l, xs, _, rfl, rfl, T16 _ _ L.1, Nat.lt_of_le_of_lt (show xs.length ≤ 100 by omega) (by decide), ?_⟩
      refine ⟨_, rfl, same_putN (g1.trans T16) n6, by rw [upd_ne lolo]; exact T16 _ _ eo, ?_, _, _, L6, by rw [List.length_append, ld]; rfl, fun e he => ?_⟩
      · refine (ho.same (hide_same T16)).same fun b o e => ?_
        unfold hide at e ⊢
        split at e
        · cases e
        · rename_i q
          rw [if_neg q, upd_ne (fun z => q (by rw [z]))]
          exact e
      · rcases List.mem_append.mp he with he | he
        · exact lb e he
        · rw [List.mem_singleton.mp he]; exact bd
    rintro σ G ⟨v5, rfl, g0, _, ho0, B0⟩
    rw [show ys.length = 4 from ho0.len] at B0
    have a0 := a5.same (hid g0)
    refine ⟨some l, (by obtain ⟨_, _, L, _⟩ := B0; exact L.stands), ⟨v2, rfl, a0⟩, fun lo ys H9 s9 n9 eo ho => ⟨lo, rfl, ⟨_, SqL.of eo⟩, for_it walk_list (fun i σ G => ∃ v6, σ = [some (.ref ra), some v1, some v2, some (.ref t5), some (.ref l), v5, v6, none] ∧ Same H5 G ∧ G lo = some (.lst ys) ∧
      DdAll K (hide (some l) G) ys [.tup [.str "say", .str "x"], .tup [.str "note"], .tup [.str "note", .str "X"], .lst [.str "note", .str "x"], .tup [.str "add", .str "own", addsD], .str "note"] ∧ Bads K G l (21 + i)) ⟨none, rfl, g0.trans s9, eo, ho, B0.same s9⟩ (fun i σ G _ h => by obtain ⟨_, _, _, e, _⟩ := h; exact SqL.of e) ?_ ?_⟩⟩
    · rintro i x σ G2 G1 hi ⟨v6, rfl, g1, eo, ho, B⟩ ⟨rfl, ex⟩
      obtain ⟨d, ed, hd⟩ := ho.get ex
      obtain ⟨xs, ds, L, ld, lb⟩ := B
      have ly : ys.length = 6 := ho.len
      refine ⟨_, rfl, .inl ⟨rfl, _, SqL.of L.1⟩, (by show 2 ≤ sizeLine; decide), fun u1 G3 t3 m3 f3 => ⟨_, rfl, (by show 2 ≤ sizeLine; decide), fun u2 G4 t4 m4 f4 => ⟨(by show 4 ≤ sizeLine; decide), fun u3 G5 t5' m5 f5' => ⟨(by show 1 ≤ sizeLine; decide), fun u6 G6 t6 m6 f6 => ?_⟩⟩⟩⟩
      have T16 : Same G1 G6 := t3.trans (t4.trans (t5'.trans t6))
      have in1 : Dd K (hide (some l) G6) (.ref u1) (.tup [.str "note", .str "x"]) := .tup (SqT.of (by rw [hide_at (nl L.1 m3)]; exact (t4.trans (t5'.trans t6)) _ _ f3)) (.cons (.str _) (.cons (.str _) .nil))
      have in2 : Dd K (hide (some l) G6) (.ref u2) (.tup [.tup [.str "note", .str "x"], d]) := .tup (SqT.of (by rw [hide_at (nl (t3 _ _ L.1) m4)]; exact (t5'.trans t6) _ _ f4)) (.cons in1 (.cons (hd.same (hide_same T16)) .nil))
      have in3 : Dd K (hide (some l) G6) (.ref u3) (.tup [.str "first", .str "go", .int 1, .tup [.tup [.str "note", .str "x"], d]]) := .tup (SqT.of (by rw [hide_at (nl ((t3.trans t4) _ _ L.1) m5)]; exact t6 _ _ f5')) (.cons (.str _) (.cons (.str _) (.cons (.int _) (.cons in2 .nil))))
      have hnew : Dd K (hide (some l) G6) (.ref u6) (.tup [.tup [.str "first", .str "go", .int 1, .tup [.tup [.str "note", .str "x"], d]]]) := .tup (SqT.of (by rw [hide_at (nl ((t3.trans (t4.trans t5')) _ _ L.1) m6)]; exact f6)) (.cons in3 .nil)
      have L6 := (L.same T16).put hnew
      have bd : scriptD (.tup [.tup [.str "first", .str "go", .int 1, .tup [.tup [.str "note", .str "x"], d]]]) = false := by
        have z := List.mem_of_getElem? ed
        simp only [List.mem_cons, List.not_mem_nil, or_false] at z
        rcases z with rfl | rfl | rfl | rfl | rfl | rfl <;> decide +kernel
      have lx : xs.length = ds.length := L.2.len
      have lolo : lo ≠ l := fun z => by rw [z] at n9; obtain ⟨_, _, L0, _⟩ := B0; rw [L0.1] at n9; cases n9
      refine ⟨l, xs, _, rfl, rfl, T16 _ _ L.1, Nat.lt_of_le_of_lt (show xs.length ≤ 100 by omega) (by decide), ?_⟩
      refine ⟨_, rfl, same_putN (g1.trans T16) n6, by rw [upd_ne lolo]; exact T16 _ _ eo, ?_, _, _, L6, by rw [List.length_append, ld]; rfl, fun e he => ?_⟩
      · refine (ho.same (hide_same T16)).same fun b o e => ?_
        unfold hide at e ⊢
        split at e
        · cases e
        · rename_i q
          rw [if_neg q, upd_ne (fun z => q (by rw [z]))]
          exact e
      · rcases List.mem_append.mp he with he | he
        · exact lb e he
        · rw [List.mem_singleton.mp he]; exact bd
    rintro σ G1 ⟨v6, rfl, g1, _, ho0, B⟩
    rw [show ys.length = 6 from ho0.len] at B
    obtain ⟨xs, ds, L, ld, lb⟩ := B
    refine ⟨_, rfl, .inl ⟨rfl, _, SqL.of L.1⟩, (by show 2 ≤ sizeLine; decide), fun u1 G3 t3 m3 f3 => ⟨(by show 1 ≤ sizeLine; decide), fun u2 G4 t4 m4 f4 => ⟨u2, 9, _, rfl, rfl, SqT.of f4, (by simp), by decide, by decide, (by show 1 ≤ 1000; decide), fun u3 m5 => ?_⟩⟩⟩
    have y5 : ∀ u, Same G4 (upd G4 u3 u) := fun u => Same.new m5
    refine ⟨(by show 4 ≤ sizeLine; decide), fun u4 G5 t5' m6 f5' => ⟨(by show 1 ≤ sizeLine; decide), fun u6 G6 t6 m7 f6 => ?_⟩⟩
    have T4 := t3.trans t4
    have T16 : Same G1 G6 := T4.trans ((y5 _).trans (t5'.trans t6))
    have in1 : Dd K (hide (some l) G6) (.ref u1) (.tup [.str "note", .str "x"]) := .tup (SqT.of (by rw [hide_at (nl L.1 m3)]; exact (t4.trans ((y5 _).trans (t5'.trans t6))) _ _ f3)) (.cons (.str _) (.cons (.str _) .nil))
    have in2 : Dd K (hide (some l) G6) (.ref u3) (.tup (List.replicate 9 (.tup [.str "note", .str "x"]))) := .tup (SqT.of (by rw [hide_at (nl (T4 _ _ L.1) m5)]; exact (t5'.trans t6) _ _ upd_same)) (.cons in1 (.cons in1 (.cons in1 (.cons in1 (.cons in1 (.cons in1 (.cons in1 (.cons in1 (.cons in1 .nil)))))))))
    have in3 : Dd K (hide (some l) G6) (.ref u4) (.tup [.str "first", .str "go", .int 1, .tup (List.replicate 9 (.tup [.str "note", .str "x"]))]) := .tup (SqT.of (by rw [hide_at (nl ((T4.trans (y5 _)) _ _ L.1) m6)]; exact t6 _ _ f5')) (.cons (.str _) (.cons (.str _) (.cons (.int _) (.cons in2 .nil))))
    have hnew : Dd K (hide (some l) G6) (.ref u6) (.tup [.tup [.str "first", .str "go", .int 1, .tup (List.replicate 9 (.tup [.str "note", .str "x"]))]]) := .tup (SqT.of (by rw [hide_at (nl ((T4.trans ((y5 _).trans t5')) _ _ L.1) m7)]; exact f6)) (.cons in3 .nil)
    have L6 := (L.same T16).put hnew
    have bd : scriptD (.tup [.tup [.str "first", .str "go", .int 1, .tup (List.replicate 9 (.tup [.str "note", .str "x"]))]]) = false := by decide +kernel
    have lx : xs.length = ds.length := L.2.len
    refine ⟨l, xs, _, rfl, rfl, T16 _ _ L.1, Nat.lt_of_le_of_lt (show xs.length ≤ 100 by omega) (by decide), ?_⟩
    refine ⟨_, rfl, k l _ _ _ (S5.trans (same_putN (g1.trans T16) n6)) (none_back S5 n6) L6 (fun e he => ?_) (by rw [List.length_append]; simp) (by rw [List.length_append, ld]; simp)⟩
    show scriptD e = false
    rcases List.mem_append.mp he with he | he
    · exact lb e he
    · rw [List.mem_singleton.mp he]; exact bd
end
end K02
/-! lambdas: the tables of code objects, told by the head; data behind a lambda -/
namespace He
open PySem PySem.Spec PyProof.Rows L2
/-- a def's code object, its table -/
def codeOf (K : PySem.W.Frag) (x : Str) : Value := match K.lookup (ga K x) with
  | some ⟨_, _, .func fd, _⟩ => fd.code
  | _ => .none
def codeAd (K : PySem.W.Frag) (x : Str) : Addr := match codeOf K x with
  | .ref c => c
  | _ => 0
def tabAd (K : PySem.W.Frag) (x : Str) : Addr := match K.lookup (codeAd K x) with
  | some ⟨_, _, .fields vs, _⟩ => (match vs.getD 11 .none with
    | .ref P => P
    | _ => 0)
  | _ => 0
def isTab : Option Obj → Bool
  | some ⟨.none, none, .fields vs, sl⟩ => vs.isEmpty && sl.isEmpty
  | _ => false
def lamB (g : Addr → Option Obj) (K : PySem.W.Frag) (x : Str) : Bool := decide (codeOf K x = .ref (codeAd K x)) && (isTab (g (tabAd K x)) && (decide (codeAd K x ≠ tabAd K x) && ((K.lookup (tabAd K x)).isNone && (match K.lookup (codeAd K x) with
  | some ⟨.type c, _, .fields vs, _⟩ => decide (c = "code") && (decide (vs[11]? = some (.ref (tabAd K x))) && (decide (vs.getD 11 .none = .ref (tabAd K x)) && ((match vs.getD 18 .none with | .str _ _ => true | _ => false) && ((match vs.getD 7 .none with | .int _ _ => true | _ => false) &&
    ((match vs.getD 9 .none with | .bool _ => true | _ => false) && (match vs.getD 10 .none with | .int _ _ => true | _ => false))))))
  | _ => false))))
structure LamAt (h : Heap) (K : PySem.W.Frag) (x : Str) : Prop where
  cd : codeOf K x = .ref (codeAd K x)
  hd : PySem.W.CodeHd h (codeAd K x) (tabAd K x)
  tb : h.get? (tabAd K x) = some { cls := .none, data := .fields #[] }
  no : K.lookup (tabAd K x) = none
theorem isTab_ok {o : Option Obj} (h : isTab o = true) : o = some { cls := .none, data := .fields #[] } := by
  unfold isTab at h
  split at h
  · rename_i vs sl
    simp only [Bool.and_eq_true, Array.isEmpty_iff] at h
    obtain ⟨rfl, rfl⟩ := h
    rfl
  · cases h
theorem lamB_ok {h : Heap} {K : PySem.W.Frag} {x : Str} (kin : K.In h) (z : lamB h.get? K x = true) : LamAt h K x := by
  unfold lamB at z
  simp only [Bool.and_eq_true, decide_eq_true_eq, Option.isNone_iff_eq_none] at z
  obtain ⟨z1, z2, z3, z4, z5⟩ := z
  refine ⟨z1, ?_, isTab_ok z2, z4⟩
  split at z5
  · rename_i c dd vs sl e
    simp only [Bool.and_eq_true, decide_eq_true_eq] at z5
    obtain ⟨a1, a2, a3, a4, a5, a6, a7⟩ := z5
    subst a1
    split at a4
    · rename_i f1 t1 q1
      split at a5
      · rename_i f2 t2 q2
        split at a6
        · rename_i f3 q3
          split at a7
          · rename_i f4 t4 q4
            exact ⟨_, vs, f1, t1, f2, t2, f3, f4, t4, kin _ _ e, rfl, rfl, a2, a3, q1, q2, q3, q4, z3⟩
          · cases a7
        · cases a6
      · cases a5
    · cases a4
  · cases z5
theorem LamAt.keeps {h h' : Heap} {K : PySem.W.Frag} {x : Str} (a : LamAt h K x) (k : ∀ b o, h.get? b = some o → h'.get? b = some o) : LamAt h' K x := ⟨a.cd, a.hd.keeps k, k _ _ a.tb, a.no⟩
/-- what is looked at, without the tables of code objects -/
def asZ (g : Addr → Option Obj) (n : Nat) (ex : List (PySem.W.Frag → Addr)) : List Addr := (asY g n ex).filter fun a => !isTab (g a)
def obsL (g : Addr → Option Obj) (n : Nat) (ex : List (PySem.W.Frag → Addr)) (fa : List Fx) (fn : List DefD) (ts : List Tab) (xs : List Str) : AlT × Bool := (obsXT fa fn ts (frG g (asZ g n ex)), xs.all fun x => lamB g (frG g (asZ g n ex)) x)
def hookL (n : Nat) (ex : List (PySem.W.Frag → Addr)) (fa : List Fx) (fn : List DefD) (ts : List Tab) (xs : List Str) : PySem.W.Hook where
  α := AlT × Bool
  obs := fun s => obsL s.heap.get? n ex fa fn ts xs
  val := fun w => (valT fn ts w, true)
  says := fun w h => ∃ K : PySem.W.Frag, K.In h ∧ SaysXT fa fn ts w K ∧ ∀ x ∈ xs, LamAt h K x
  of := fun w s e => ⟨frG s.heap.get? (asZ s.heap.get? n ex), frG_in, show _ = _ from congrArg Prod.fst e, fun x hx => lamB_ok frG_in (List.all_eq_true.mp (congrArg Prod.snd e) x hx)⟩
  keeps := fun _ _ _ ⟨K, hK, c, l⟩ k => ⟨K, PySem.W.Frag.In.keeps hK k, c, fun x hx => (l x hx).keeps k⟩
theorem obsL_eq {n : Nat} {ex : List (PySem.W.Frag → Addr)} {fa : List Fx} {fn : List DefD} {ts : List Tab} {xs : List Str} {g : Addr → Option Obj} {s : Shared} (h : ∀ a, g a = s.heap.get? a) : obsL g n ex fa fn ts xs = (hookL n ex fa fn ts xs).obs s := by
  obtain rfl : g = s.heap.get? := funext h
  rfl
end He
namespace L2
open PySem PySem.Spec PyProof.Rows
section
variable {P : Program} {w : World} {K : PySem.W.Frag} {mg : Str → Option Value} {base : Heap} {CX : CXT} {k : Nat} {x : Str} {ps : List Str} {sp : Sp} {st : Stmt} {N : List Str}
/-- a def's promise, its code object known -/
theorem Has.qc (Hs : Has K mg x st) (S : FnScope N ps (defScope st)) (B : BindOk x st ps) (len : ∀ vs H Q E, sp vs H Q E → vs.length = ps.length)
    (hb : ∀ (A : Around) (outer : List Env) (s : Shared) (H : Hp) (vs : List V) (Q : VK) (E : XK), Room k (A.deeper (envOfC x (defScope st) s.heap.objs.size (He.ga K x) (He.codeOf K x))) → sp vs H Q E →
      ∃ t, PSs (cxOf CX P w K mg base N x (defScope st) (He.ga K x) (He.codeOf K x) A outer s H E) (defBody st) t ∧ t { nx := fun _ H' => Q .non H', rt := Q } (start N vs) H) : FnQ P w K mg base CX (k + 1) x ps sp := by
  obtain ⟨fd, F⟩ := Hs.df
  refine ⟨Hs.gl, F.kp, fd, ?_, F.bindsN B, lookD F⟩
  obtain ⟨oc, od, dV, kV, doc, pm, an, cdv, ct, osl, rfl, lk, hcd, _, _⟩ := F.ex
  have e : He.codeOf K x = cdv := by
    unfold He.codeOf
    rw [lk]
  rw [e] at hb
  exact fn_of lk hcd S len fun A outer s H vs Q E hr hsp => hb A outer s H vs Q E hr hsp
end
/-- data behind a lambda -/
abbrev ExtN := LamX.ExtN
theorem ExtN.sqL {K : PySem.W.Frag} {H H' : Hp} {a : Addr} {xs : List V} (e : LamX.ExtN H H') (h : SqL K H a xs) : SqL K H' a xs := by
  rcases h with (h | ⟨o, h⟩) | h
  · exact .inl (.inl (e _ _ h fun _ z => nomatch z))
  · exact .inl (.inr ⟨o, e _ _ h fun _ z => nomatch z⟩)
  · exact .inr h
theorem ExtN.sqT {K : PySem.W.Frag} {H H' : Hp} {a : Addr} {xs : List V} (e : LamX.ExtN H H') (h : SqT K H a xs) : SqT K H' a xs := by
  rcases h with (h | ⟨o, h⟩) | h
  · exact .inl (.inl (e _ _ h fun _ z => nomatch z))
  · exact .inl (.inr ⟨o, e _ _ h fun _ z => nomatch z⟩)
  · exact .inr h
mutual
theorem Dd.ext {K : PySem.W.Frag} {H H' : Hp} (s : LamX.ExtN H H') : ∀ {v : V} {d : Dt}, Dd K H v d → Dd K H' v d
  | _, _, .non => .non
  | _, _, .bl b => .bl b
  | _, _, .int i => .int i
  | _, _, .str x h => .str x h
  | _, _, .lst h t => .lst (ExtN.sqL s h) (DdAll.ext s t)
  | _, _, .tup h t => .tup (ExtN.sqT s h) (DdAll.ext s t)
  | _, _, .dic h => .dic (s _ _ h fun _ z => nomatch z)
  | _, _, .wrk h l t o => .wrk (s _ _ h fun _ z => nomatch z) l (Dd.ext s t) o
  | _, _, .sup h => .sup (s _ _ h fun _ z => nomatch z)
theorem DdAll.ext {K : PySem.W.Frag} {H H' : Hp} (s : LamX.ExtN H H') : ∀ {vs : List V} {ds : List Dt}, DdAll K H vs ds → DdAll K H' vs ds
  | _, _, .nil => .nil
  | _, _, .cons h t => .cons (Dd.ext s h) (DdAll.ext s t)
end
end L2
/-! a law's own call, with tables of code objects; a list != [] -/
namespace L2
open PySem PySem.Spec PyProof.Rows
/-- l != [] -/
def rNeNil : R2 := fun x y H Q => ∃ l b xs, x = .ref l ∧ y = .ref b ∧ H l = some (.lst xs) ∧ H b = some (.lst []) ∧ Q (.bl (!xs.isEmpty)) H
theorem op_neNil {X : Cx} (hu : X.A.units + 64 < cLine) : OpR X (compareOp .NotEq) rNeNil := by
  intro pins s σ H x y v u Q I rx ry h
  obtain ⟨l, b, xs, rfl, rfl, e1, e2, q⟩ := h
  obtain rfl : v = Value.ref l := rx
  obtain rfl : u = Value.ref b := ry
  obtain ⟨_, its, n, rv, l0, z1⟩ := I.lstM e1
  obtain ⟨_, its2, n2, rv2, l02, z2⟩ := I.lstM e2
  have l1 : its.length = xs.length := l0.symm
  have h2 : its2 = [] := by
    exact List.length_eq_zero_iff.mp l02.symm
  subst h2
  cases xs with
  | nil =>
    have h3 : its = [] := List.length_eq_zero_iff.mp l1
    subst h3
    have z := SeqAt.RcNeAt.lists (A := X.A) (s := s) (l := l) (b := b) (items := [].toArray) (items2 := [].toArray) (e := fun _ => true) ⟨_, z1, rfl, _, rfl⟩ ⟨_, z2, rfl, _, rfl⟩ rfl (by omega) (fun j h _ => absurd h (by simp))
    exact z X.prog X.w X.xe _ ⟨.bl false, H, I, rfl, q⟩
  | cons a r =>
    have ne : (its.toArray.size != ([] : List Value).toArray.size) = true := by
      rw [List.size_toArray, l1]
      rfl
    exact (SeqAt.RcNeAt.lists_lengths (A := X.A) (s := s) (l := l) (b := b) (items := its.toArray) (items2 := ([] : List Value).toArray) ⟨_, z1, rfl, _, rfl⟩ ⟨_, z2, rfl, _, rfl⟩ ne (by omega)) X.prog X.w X.xe _ ⟨.bl true, H, I, rfl, q⟩
abbrev tabNil : Obj := { cls := .none, data := .fields #[] }
/-- the law's own call -/
theorem lawT {P : Program} {w : World} {K : PySem.W.Frag} {mg mb : Str → Option Value} {CX : CXT} {k : Nat} {fa a : Addr} {cs : List (Addr × Addr)} {fd : FuncData} {x : Str} {sp : Sp} {s₁ : Shared} {vs : List Value} {ns : List Int}
    (kin : K.In s₁.heap) (gl : s₁.heap.Ns mainGlobals mg) (bl : s₁.heap.Ns builtinsNs mb) (bb : ∀ y : Str, y ≠ "__name__" → mb y = bootBuiltins y) (nl : s₁.heap.NoLimit) (gn : s₁.gens = #[])
    (tb : ∀ p ∈ cs, s₁.heap.get? p.2 = some tabNil) (nk : ∀ p ∈ cs, K.lookup p.2 = none) (cdh : ∀ p ∈ cs, PySem.W.CodeHd s₁.heap p.1 p.2)
    (bmn : ∃ (bm : Addr) (ob : Obj), mg "__builtins__" = some (.ref bm) ∧ bm ≠ builtinsNs ∧ s₁.heap.get? bm = some ob ∧ ob.cls = .type "module" ∧ ob.dict = some builtinsNs ∧ ob.data = .plain)
    (hs : s₁.heap.get? a = some { cls := .type "list", data := .seq vs.toArray }) (hi : IntsAre vs ns) (hl : ns.length ≤ sizeLine) (hr : Room k callerA)
    (F : ∀ base : Heap, K.In base → base.Ns mainGlobals mg → (∀ p ∈ cs, LamX.TabB base mg p.1 p.2) → FnOk P w K mg base CX k fa fd [x] sp) (bnd : ∀ (s : Shared) (u : Value), BindsTo s fd ⟨[u], []⟩ [(x, u)])
    (pr : ∀ H : Hp, (∀ p ∈ cs, H p.2 = some (.tbl #[])) → ScrL K H a (ns.map V.int) → sp [.ref a] H (fun v _ => v = .bl true) fun _ _ _ => False) (no : ∀ H e s', CX [] H s₁ (fun _ _ _ => False) e s' → False) :
    codeAny (model P w) callerA (.call (.ref fa) ⟨[.ref a], []⟩) (fun r s' => r = .ok (.ret (.bool true)) ∧ OldK s₁.heap s'.heap ∧ s'.os = s₁.os ∧ AllBare s'.gens) s₁ := by
  have onT : ∀ {b : Addr}, b ∈ cs.map (·.2) → s₁.heap.get? b = some tabNil ∧ K.lookup b = none := fun {b} hb => by
    obtain ⟨p, hp, rfl⟩ := List.mem_map.mp hb
    exact ⟨tb p hp, nk p hp⟩
  have inT : ∀ p ∈ cs, p.2 ∈ cs.map (·.2) := fun p hp => List.mem_map_of_mem hp
  have offT : a ∉ cs.map (·.2) := fun z => by
    have q := (onT z).1
    rw [hs] at q
    exact nomatch (show Data.seq vs.toArray _ = Data.fields #[] from congrArg Obj.data (Option.some.inj q))
  have lenV := hi.length
  have main : ∀ H : Hp, (∀ b u, H b = some u → (b ∈ cs.map (·.2) ∧ u = .tbl #[]) ∨ (b = a ∧ K.lookup a = none ∧ u = .frz { cls := .type "list", data := .seq vs.toArray } (.lst (ns.map V.int)))) → (∀ p ∈ cs, H p.2 = some (.tbl #[])) → ScrL K H a (ns.map V.int) →
      codeAny (model P w) callerA (.call (.ref fa) ⟨[.ref a], []⟩) (fun r s' => r = .ok (.ret (.bool true)) ∧ OldK s₁.heap s'.heap ∧ s'.os = s₁.os ∧ AllBare s'.gens) s₁ := by
    intro H what onH sc
    have ok : HOk P w H s₁.heap := fun b u z => by
      rcases what b u z with ⟨hb, rfl⟩ | ⟨rfl, _, rfl⟩
      · exact (onT hb).1
      · exact ⟨hs, by rw [List.length_map]; exact hl, vs, _, vals_ints hi, hs⟩
    have toB : ∀ {b : Addr} {o : Obj}, s₁.heap.get? b = some o → H b = none → (hidT s₁.heap H).get? b = some o := fun z n => hidT_get z n
    have plain : ∀ {b : Addr} {o : Obj}, s₁.heap.get? b = some o → (∀ us n, o.data ≠ .seq us n) → o.data ≠ .fields #[] → H b = none := fun {b o} z n1 n2 => by
      cases q : H b with
      | none => rfl
      | some u =>
        rcases what b u q with ⟨hb, _⟩ | ⟨rfl, _, _⟩
        · rw [(onT hb).1] at z
          cases z
          exact absurd rfl n2
        · rw [hs] at z
          cases z
          exact absurd rfl (n1 _ _)
    have dictFree : ∀ {b : Addr} {o : Obj} {es : Array DictEntry} {ep : Nat}, s₁.heap.get? b = some o → o.data = .dict es ep → H b = none := fun {b o es ep} z dz => plain z (fun us n q => nomatch (show Data.dict es ep = Data.seq us n from dz.symm.trans q)) fun q => nomatch (show Data.dict es ep = Data.fields #[] from dz.symm.trans q)
    have toNs : ∀ {b : Addr} {m : Str → Option Value}, s₁.heap.Ns b m → (hidT s₁.heap H).Ns b m := fun ⟨o, es, ep, z, dz, r⟩ => ⟨o, es, ep, toB z (dictFree z dz), dz, r⟩
    have kinB : K.In (hidT s₁.heap H) := fun b o z => toB (kin b o z) (by
      cases q : H b with
      | none => rfl
      | some u =>
        rcases what b u q with ⟨hb, _⟩ | ⟨rfl, n, _⟩
        · rw [(onT hb).2] at z; cases z
        · rw [n] at z; cases z)
    have M : Mod K mg (hidT s₁.heap H) := ⟨kinB, toNs gl, ⟨mb, toNs bl, bb⟩, nl.elim fun mc z => ⟨mc, toNs z.1, z.2⟩⟩
    have TB : ∀ p ∈ cs, LamX.TabB (hidT s₁.heap H) mg p.1 p.2 := fun p hp => by
      have atP := tb p hp
      have noG : mainGlobals ≠ p.2 := fun z => by
        obtain ⟨o, es, ep, e, dz, _⟩ := gl
        rw [z, atP] at e
        cases e
        exact nomatch (show Data.fields #[] = Data.dict es ep from dz)
      refine ⟨?_, ?_, noG⟩
      · obtain ⟨o, us, f1, t1, f2, t2, f3, f4, t4, e, r1, r2, r3, rest⟩ := cdh p hp
        refine ⟨o, us, f1, t1, f2, t2, f3, f4, t4, toB e (plain e (fun _ _ q => nomatch r2.symm.trans q) fun q => ?_), r1, r2, r3, rest⟩
        have z : us = #[] := by
          have y := r2.symm.trans q
          injection y
        subst z
        exact nomatch r3
      · obtain ⟨bm, ob, b1, b2, b3, b4, b5, b6⟩ := bmn
        refine ⟨bm, ob, b1, b2, fun z => ?_, fun z => ?_, toB b3 (plain b3 (fun _ _ q => nomatch b6.symm.trans q) fun q => nomatch b6.symm.trans q), b4, b5, b6⟩
        · obtain ⟨o, es, ep, e, dz, _⟩ := gl
          rw [← z, b3] at e
          cases e
          exact nomatch (show Data.plain = Data.dict es ep from b6.symm.trans dz)
        · rw [z, atP] at b3
          cases b3
          cases b6
    have E0' : Env0 P w K mg (hidT s₁.heap H) callerA [] s₁ H := ⟨rfl, M, fun b o z => of_hidT z, Nat.le_of_eq (hidT_size _ _), trivial, fun b z => absurd (show b ∈ ([] : List Addr) from z) (by simp), ok, .of_eq gn⟩
    refine codeAny_mono ((F _ kinB (toNs gl) TB).run callerA [] s₁ H ⟨[.ref a], []⟩ [.ref a] [.ref a] _ _ hr E0' (bnd s₁ (.ref a)) (.cons rfl .nil) (pr H onH sc)) fun r s' z => ?_
    cases r with
    | error y => exact (no H y s' z).elim
    | ok fl =>
    cases fl with
    | next => exact z.elim
    | brk => exact z.elim
    | cont => exact z.elim
    | ret u =>
      obtain ⟨v, H', os, bare, un, ok', rv, q⟩ := z
      obtain rfl : v = .bl true := q
      obtain rfl : u = Value.bool true := rv
      have grow : ∀ {b : Addr}, b ∈ cs.map (·.2) → ∃ more : Array Value, s'.heap.get? b = some { cls := .none, data := .fields more } := fun {b} hb => by
        obtain ⟨p, hp, rfl⟩ := List.mem_map.mp hb
        obtain ⟨more, z⟩ := un.tbls p.2 #[] (onH p hp)
        exact ⟨_, ok' p.2 _ z⟩
      have stay : ∀ {b : Addr} {o : Obj}, b ∉ cs.map (·.2) → s₁.heap.get? b = some o → s'.heap.get? b = some o := fun {b o} hb z => by
        cases q : H b with
        | none => exact un.keep b o z q (fun y => absurd (show b ∈ ([] : List Addr) from y) (by simp)) (by simp)
        | some u =>
          rcases what b u q with ⟨hb2, _⟩ | ⟨rfl, _, rfl⟩
          · exact absurd hb2 hb
          · obtain ⟨e2, _⟩ := ok' b _ (un.frzs b _ _ q)
            rw [hs] at z
            cases z
            exact e2
      refine ⟨rfl, ⟨fun b o z => ?_, fun b o z => ?_⟩, os, bare⟩
      · by_cases hb : b ∈ cs.map (·.2)
        · obtain ⟨p, hp, rfl⟩ := List.mem_map.mp hb
          obtain ⟨more, y⟩ := grow hb
          rw [tb p hp] at z
          cases z
          exact .inr (.inl ⟨((cdh p hp).tab (tb p hp)).isCodeTable, rfl, #[], more, rfl, by rw [Array.empty_append]; exact y⟩)
        · exact .inl (stay hb z)
      · by_cases hb : b ∈ cs.map (·.2)
        · exact (grow hb).elim fun more y => ⟨_, y⟩
        · exact ⟨o, stay hb z⟩
  by_cases kc : K.lookup a = none
  · refine main (fun b => if b = a then some (.frz { cls := .type "list", data := .seq vs.toArray } (.lst (ns.map V.int))) else if b ∈ cs.map (·.2) then some (.tbl #[]) else none) (fun b u z => ?_) (fun p hp => ?_) (.inl ⟨_, if_pos rfl⟩)
    · by_cases e : b = a
      · have y := (if_pos e).symm.trans z
        exact .inr ⟨e, kc, (Option.some.inj y).symm⟩
      · have y := (if_neg e).symm.trans z
        by_cases e2 : b ∈ cs.map (·.2)
        · rw [if_pos e2] at y
          exact .inl ⟨e2, (Option.some.inj y).symm⟩
        · rw [if_neg e2] at y
          cases y
    · exact (if_neg fun z : p.2 = a => offT (by rw [← z]; exact inT p hp)).trans (if_pos (inT p hp))
  · obtain ⟨o, ko⟩ := Option.ne_none_iff_exists'.mp kc
    have z := kin a o ko
    rw [hs] at z
    cases z
    refine main (fun b => if b ∈ cs.map (·.2) then some (.tbl #[]) else none) (fun b u z => ?_) (fun p hp => if_pos (inT p hp)) (.inr ⟨vs, ko, by rw [lenV]; exact hl, vals_ints hi⟩)
    by_cases e2 : b ∈ cs.map (·.2)
    · rw [if_pos e2] at z
      exact .inl ⟨e2, (Option.some.inj z).symm⟩
    · rw [if_neg e2] at z
      cases z
/-- the walk's end over a head by facts, with tables -/
theorem walkT {l : PySem.W.OpenLaw} {n k : Nat} {q : Program} {loose : List Str} {XP : (Str → Option Value) → Heap → Prop} {YP : World → Heap → Prop} {d : DefRec} {CX : World → CXT} {x : Str} (most : l.most = some n) (fits : n ≤ sizeLine) (nod : d.params.defaults = []) (hr : Room k callerA)
    (F : ∀ (w : World) (mg : Str → Option Value) (fa : Addr) (h : Heap), YP w h → h.Ns mainGlobals mg → mg d.name = some (.ref fa) →
      ∃ (K : PySem.W.Frag) (fd : FuncData) (cs : List (Addr × Addr)) (sp : Sp), K.In h ∧ (∀ p ∈ cs, h.get? p.2 = some tabNil) ∧ (∀ p ∈ cs, K.lookup p.2 = none) ∧ (∀ p ∈ cs, PySem.W.CodeHd h p.1 p.2) ∧ (∀ (s : Shared) (u : Value), BindsTo s fd ⟨[u], []⟩ [(x, u)]) ∧
        (∀ (H : Hp) (a : Addr) (ns : List Int), ns.length ≤ n → (∀ p ∈ cs, H p.2 = some (.tbl #[])) → ScrL K H a (ns.map V.int) → sp [.ref a] H (fun v _ => v = .bl true) fun _ _ _ => False) ∧
        ∀ base : Heap, K.In base → base.Ns mainGlobals mg → (∀ p ∈ cs, LamX.TabB base mg p.1 p.2) → FnOk l.prog w K mg base (CX w) k fa fd [x] sp)
    (no : ∀ (w : World) (H : Hp) (s : Shared) (e : Value) (s' : Shared), CX w [] H s (fun _ _ _ => False) e s' → False) : PySem.W.WalkO q loose XP YP l.row.toRowW d [] (fun f vs => PySem.call f vs) := by
  refine Att.attach_call most nod fun w s₀ s₁ mg mb fa o pm cd doc a vs ns G Y ho hd hcd hmg hobj hints hlen hg => ?_
  obtain ⟨K, fd, cs, sp, kin, tb, nk, cdh, bnd, pr, fok⟩ := F w mg fa _ Y G.T.g hmg
  exact lawT kin G.T.g G.T.b G.T.builtins G.T.nolimit hg tb nk cdh G.T.bmain hobj hints (Nat.le_trans hlen fits) hr fok bnd (fun H t s => pr H a ns hlen t s) fun H e s' => no w H s₁ e s'
end L2
/-! _law_children -/
namespace K02
open PySem PySem.Spec PyProof.Rows L2
section
variable {P : Program} {w : World} {K : PySem.W.Frag} {mg : Str → Option Value} {base : Heap}
abbrev s_law_children : Stmt := (top 77)
def N_law_children : List Str := ["m", "many", "c", "first", "whole", "plans", "odd", "k", "way", "child", "size", "height", "is_plan_v"]
theorem sc_law_children : FnScope N_law_children ["m", "many"] (defScope s_law_children) := ⟨rfl, rfl, rfl, by decide +kernel, rfl, by decide +kernel, by decide +kernel⟩
def oddDs : List Dt := [.non, .str "a", .int 5, .tup [.str "w"], .lst [.wrk (.tup [])], .bl true, .dic, .tup []]
/-- the children, and the first that can't be -/
def spChildren (K : PySem.W.Frag) : Sp := fun vs H Q _ => ∃ (a c : Addr) (ns : List Int) (m : Int) (n : Nat), vs = [.ref a, .int (n : Nat)] ∧ Src K H a c ns m ∧ m ≤ 900000 ∧ n ≤ 13 ∧
  ∀ t l xs ks v H', H' t = some (.tup [.ref l, v]) → H' l = some (.lst xs) → xs.length = n → KidAll K H' xs ks → (v = match firstKid 0 1 ks with | some i => .int (i : Nat) | none => .non) → Src K H' a c ns (m + 60) → But a H H' → Q (.ref t) H'
/-- what stands while the children are drawn -/
structure Sta (K : PySem.W.Frag) (H G : Hp) (a c l pl od x1 x2 x3 x4 : Addr) (ns : List Int) (m : Int) (xs ys : List V) (ks : List Kid) : Prop where
  src : Src K G a c ns m
  but : But a H G
  q1 : Pt K G (.ref x1) .wrk
  q2 : Pt K G (.ref x2) (.sup [])
  q3 : Pt K G (.ref x3) .wrk
  q4 : Pt K G (.ref x4) .wrk
  ep : G pl = some (.lst [.ref x1, .ref x2, .ref x3, .ref x4])
  eo : G od = some (.lst ys)
  ho : DdAll K (hide (some l) G) ys oddDs
  el : G l = some (.lst xs)
  all : AllC K G l xs ks
theorem Sta.move {H G G' : Hp} {a c l pl od x1 x2 x3 x4 : Addr} {ns : List Int} {m m' : Int} {xs ys : List V} {ks : List Kid} (Z : Sta K H G a c l pl od x1 x2 x3 x4 ns m xs ys ks) (b : But a G G') (S' : Src K G' a c ns m') : Sta K H G' a c l pl od x1 x2 x3 x4 ns m' xs ys ks := by
  have is := Z.src.is
  have lne : ∀ {p : Addr} {zs : List V}, G p = some (.lst zs) → p ≠ a := fun {p zs} e => is.ne e fun _ _ _ z => nomatch z
  have al : a ≠ l := fun z => lne Z.el z.symm
  have np := is.noPart
  refine ⟨S', Z.but.trans b, Pt_but b np Z.q1, Pt_but b np Z.q2, Pt_but b np Z.q3, Pt_but b np Z.q4, b _ _ Z.ep (lne Z.ep), b _ _ Z.eo (lne Z.eo), ?_, b _ _ Z.el (lne Z.el), Z.all.map fun h => h.but b is al⟩
  refine DdAll_but (hide_but b) ?_ Z.ho
  obtain ⟨c0, n0, r0, e⟩ := is
  exact ⟨c0, n0, r0, by rw [hide_at (fun z => al (Option.some.inj z).symm)]; exact e⟩
theorem Sta.same {H G G' : Hp} {a c l pl od x1 x2 x3 x4 : Addr} {ns : List Int} {m : Int} {xs ys : List V} {ks : List Kid} (Z : Sta K H G a c l pl od x1 x2 x3 x4 ns m xs ys ks) (s : Same G G') : Sta K H G' a c l pl od x1 x2 x3 x4 ns m xs ys ks := Z.move (fun b o e _ => s b o e) (Z.src.same s)
theorem Sta.put {H G : Hp} {a c l pl od x1 x2 x3 x4 : Addr} {ns : List Int} {m : Int} {xs ys : List V} {ks : List Kid} {v : V} {k : Kid} (Z : Sta K H G a c l pl od x1 x2 x3 x4 ns m xs ys ks) (hl : H l = none) (odl : od ≠ l) (pll : pl ≠ l) (hv : KidC K G l v k) : Sta K H (upd G l (.lst (xs ++ [v]))) a c l pl od x1 x2 x3 x4 ns m (xs ++ [v]) ys (ks ++ [k]) := by
  have b : But l G (upd G l (.lst (xs ++ [v]))) := fun b o e n => by rw [upd_ne n]; exact e
  have np : NoPart G l := .inr ⟨_, Z.el⟩
  have al : a ≠ l := fun z => by
    obtain ⟨⟨n2, r, e, _⟩, _⟩ := Z.src
    rw [z, Z.el] at e
    cases e
  refine ⟨?_, fun b o e n => ?_, Pt_but b np Z.q1, Pt_but b np Z.q2, Pt_but b np Z.q3, Pt_but b np Z.q4, b _ _ Z.ep pll, b _ _ Z.eo odl, ?_, upd_same, ?_⟩
  · obtain ⟨⟨n2, r, e, q⟩, cs, few⟩ := Z.src
    refine ⟨⟨n2, r, b _ _ e al, q⟩, ?_, few⟩
    rcases cs with ⟨o, h⟩ | h
    · exact .inl ⟨o, b _ _ h fun z => by rw [z, Z.el] at h; cases h⟩
    · exact .inr h
  · rw [upd_ne (ne_of_none e hl)]
    exact Z.but b o e n
  · refine Z.ho.same fun b2 o e => ?_
    unfold hide at e ⊢
    split at e
    · cases e
    · rename_i q
      rw [if_neg q]
      exact b b2 o e fun z => q (by rw [z])
  · exact (Z.all.map fun h => h.put b Z.el).snoc (hv.put b Z.el)
theorem odd_kd : ∀ d ∈ oddDs, kd d < 7 := by
  intro d hd
  simp only [oddDs, List.mem_cons, List.not_mem_nil, or_false] at hd
  rcases hd with rfl | rfl | rfl | rfl | rfl | rfl | rfl | rfl <;> decide
/-- size and levels as the law keeps them -/
def Fits (k : Kid) (sz ht : Nat) : Prop := match k with
  | .pn t => sz = t.size ∧ ht = t.lv
  | .odd _ => sz = 1 ∧ ht = 1
/-- how far the first wrong one is known; wh: how many plans by now -/
def Known (fv : V) (wh : Nat) (ks : List Kid) : Prop := (fv = .non ∧ firstKid 0 1 ks = none ∧ wh = 1 + (ks.map kidSize).sum) ∨ ∃ j : Nat, fv = .int j ∧ firstKid 0 1 ks = some j
theorem ok_children {fd : FuncData} {mv0 : List Value} {dS : Addr} (F : Has K mg "_law_children" s_law_children) (T : Txt K mg) (W : Wk K mg) (WS : Su K mg) (FW : FnOk P w K mg base (L2.CX P w) 11 (He.ma K (wkA K) "__init__") fd wPs (spWInit K)) (FS : FnR P w K mg base (L2.CX P w) 25 (He.ma K (suA K) "__init__") (spSMadeD K))
    (hb0 : KBn K fd wPs 2 [] (fun us ws => us ++ mv0 ++ ws) (fun vs zs => vs ++ [.str "permanent", .int 0, .int 0, .non, .int 0, .ref dS] ++ zs)) (hds : ∀ H, SqT K H dS [])
    (F_law_next : FnQ P w K mg base CX0 1 "_law_next" ["m", "total"] (spNext K)) (F_law_of : FnQ P w K mg base CX0 2 "_law_of" ["m", "items"] (spOf K)) (F_law_deep : FnQ P w K mg base CX0 27 "_law_deep" ["many"] (spDeep K)) (F_law_broad : FnQ P w K mg base CX0 30 "_law_broad" [] (spBroad K)) :
    FnQ P w K mg base CX0 31 "_law_children" ["m", "many"] (spChildren K) := by
  refine F.q sc_law_children (fun _ _ _ _ _ _ us hl => match us, hl with | [_, _], _ => rfl) (fun vs H Q E h => by obtain ⟨_, _, _, _, _, rfl, _⟩ := h; rfl) (fun cdv A outer s H vs Q E hr h => ?_)
  obtain ⟨a, c, ns, m, n, rfl, S, hm, hn, k⟩ := h
  have gI : mg "isinstance" = none := T.fr _ (by simp [frees])
  have KJ : Keeps J9 := keeps9
  refine ⟨_, PSs.nox (pss_cons (ps_swap (is := [2, 3, 4]) rfl sc_law_children.nd (pe_tupM (pa_cons (pe_lstM pa_nil) (pa_cons pe_non (pa_cons pe_int pa_nil)))) (.cons rfl (.inl rfl) (.inr rfl) (.cons rfl (.inl rfl) (.inr rfl) (.cons rfl (.inl rfl) (.inr rfl) .nil))))
  (pss_cons (ps_set (i := 5) sc_law_children.nd rfl (by first | exact .inl rfl | exact .inr rfl) (pe_lstM (pa_cons (pe_makeN W.mkr FW (hr.mono (by decide)) rfl W.gl hb0 passNo (pa_cons pe_str pa_nil) pk_nil) (pa_cons (StX.pe_makeR WS.mkr FS (hr.mono (by decide)) rfl WS.gl passNo (pa_cons pe_str pa_nil)) (pa_cons (pe_makeN W.mkr FW (hr.mono (by decide)) rfl W.gl hb0 passNo (pa_cons pe_str pa_nil) pk_nil) (pa_cons (pe_makeN W.mkr FW (hr.mono (by decide)) rfl W.gl hb0 passNo (pa_cons pe_str pa_nil) pk_nil) pa_nil))))))
  (pss_cons (ps_set (i := 6) sc_law_children.nd rfl (by first | exact .inl rfl | exact .inr rfl) (pe_mkLH (J := J9) (mdA_cons KJ md_non (mdA_cons KJ (md_str) (mdA_cons KJ md_int (mdA_cons KJ (md_tup (mdA_cons KJ (md_str) mdA_nil)) (mdA_cons KJ (md_lst (mdA_cons KJ (md_wk0 W FW (hr.mono (by decide)) hb0 hds (by rfl) (by decide +kernel) (by decide)) mdA_nil)) (mdA_cons KJ md_bl (mdA_cons KJ md_dic (mdA_cons KJ (md_tup mdA_nil) mdA_nil))))))))))
  (pss_cons (ps_for PassesOwn.never rfl (pi_range1 (by rfl) (T.fr "range" (by simp [frees])) (pa_cons (pv 1) pa_nil)) (pg_name (i := 7) sc_law_children.nd rfl (by first | exact .inl rfl | exact .inr rfl))
  (pss_cons (ps_set (i := 8) sc_law_children.nd rfl (by first | exact .inl rfl | exact .inr rfl) (pe_f F_law_next hr pass0 (pa_cons (pv 0) (pa_cons pe_int pa_nil))))
  (pss_cons (ps_swap (is := [9, 10, 11]) rfl sc_law_children.nd (pe_tupM (pa_cons (pe_f F_law_of hr pass0 (pa_cons (pv 0) (pa_cons (pv 5) pa_nil))) (pa_cons pe_int (pa_cons pe_int pa_nil)))) (.cons rfl (.inl rfl) (.inr rfl) (.cons rfl (.inl rfl) (.inr rfl) (.cons rfl (.inl rfl) (.inr rfl) .nil))))
  (C8.pss_cut (ps_if (pt_cmpR op_eq (pv 8) pe_int (by first | exact nomark _ | rfl))
  (pss_cons (ps_set (i := 11) sc_law_children.nd rfl (by first | exact .inl rfl | exact .inr rfl) (pe_f F_law_of hr pass0 (pa_cons (pv 0) (pa_cons (pe_lstM (pa_cons pe_int (pa_cons pe_int pa_nil))) pa_nil))))
  (pss_one (ps_swap (is := [9, 10]) rfl sc_law_children.nd (pe_tupM (pa_cons (pe_f F_law_deep hr pass0 (pa_cons (pv 11) pa_nil)) (pa_cons (pv 11) pa_nil))) (.cons rfl (.inl rfl) (.inr rfl) (.cons rfl (.inl rfl) (.inr rfl) .nil)))))
  (pss_one (ps_if (pt_cmpR op_lt (pv 8) pe_int (by first | exact nomark _ | rfl))
  (pss_one (ps_swap (is := [9, 10, 11]) rfl sc_law_children.nd (pe_tupM (pa_cons (pe_f0 F_law_broad hr pass0) (pa_cons pe_int (pa_cons pe_int pa_nil)))) (.cons rfl (.inl rfl) (.inr rfl) (.cons rfl (.inl rfl) (.inr rfl) (.cons rfl (.inl rfl) (.inr rfl) .nil)))))
  (pss_one (ps_if (pt_cmpR op_lt (pv 8) pe_int (by first | exact nomark _ | rfl))
  (pss_one (ps_set (i := 9) sc_law_children.nd rfl (by first | exact .inl rfl | exact .inr rfl) (pe_f F_law_of hr pass0 (pa_cons (pv 0) (pa_cons (pv 6) pa_nil)))))
  pss_nil)))))
  (pss_cons (ps_expr (pe_bm PySem.F.plainAttrs_list PySem.F.slot_list_append PySem.F.type_list_append mt_append (pv 2) (pa_cons (pv 9) pa_nil)))
  (pss_cons (ps_set (i := 4) sc_law_children.nd rfl (by first | exact .inl rfl | exact .inr rfl) (pe_op op_add (pv 4) (pv 10)))
  (pss_cons (ps_set (i := 12) sc_law_children.nd rfl (by first | exact .inl rfl | exact .inr rfl) (pe_callB call_isiT (by rfl) gI boot_isinstance (pa_cons (pv 9) (pa_cons (pe_tupM (pa_cons (C8.pe_gc (by rfl) T.c_WorkerPlan) (pa_cons (C8.pe_gc (by rfl) T.c_SupervisorPlan) pa_nil))) pa_nil))))
  (pss_one (ps_if (pw_and (pt_cmpR op_isN (pv 3) pe_non (by first | exact nomark _ | rfl)) (pw_and1 (pw_or (pt_not (pt_val (pv 12))) (pw_or (pt_cmpR op_gt (pv 7) pe_int (by first | exact nomark _ | rfl)) (pw_or (pt_cmpR op_gt (pv 4) pe_int (by first | exact nomark _ | rfl)) (pw_or1 (pt_cmpR op_gt (pv 11) pe_int (by first | exact nomark _ | rfl)))))).pt)).pt
  (pss_one (ps_set (i := 3) sc_law_children.nd rfl (by first | exact .inl rfl | exact .inr rfl) (pv 7)))
  pss_nil)))))))))
  (pss_one (ps_ret (pe_tupM (pa_cons (pv 2) (pa_cons (pv 3) pa_nil))))))))), ?_⟩
  refine ⟨(by show 0 ≤ sizeLine; decide), fun l H0 s0 n0 e0 => ⟨(by show 3 ≤ sizeLine; decide), fun tq H1 s1 n1 e1 => ⟨tq, _, rfl, SqT.of e1, rfl, ?_⟩⟩⟩
  refine ⟨rfl, rfl, right_wk (d1 := .str "k") (d7 := .tup []) (.str "k") (by decide +kernel) (.tup (hds _) .nil) (by decide +kernel) (by decide +kernel) fun x1 H2 s2 n2 hx1 => ?_⟩
  refine right_supD (d1 := .str "k") (rest := []) (ts := []) (.str "k") (by decide +kernel) .nil (by show 0 ≤ 12; decide) (by decide) (by decide) fun x2 H3 s3 n3 hx2 => ?_
  refine ⟨rfl, rfl, right_wk (d1 := .str "a") (d7 := .tup []) (.str "a") (by decide +kernel) (.tup (hds _) .nil) (by decide +kernel) (by decide +kernel) fun x3 H4 s4 n4 hx3 => ?_⟩
  refine ⟨rfl, rfl, right_wk (d1 := .str "k2") (d7 := .tup []) (.str "k2") (by decide +kernel) (.tup (hds _) .nil) (by decide +kernel) (by decide +kernel) fun x4 H5 s5 n5 hx4 => ?_⟩
  have x15 : Same H1 H5 := s2.trans (s3.trans (s4.trans s5))
  refine ⟨(by show 4 ≤ sizeLine; decide), fun pl H6 s6 n6 e6 => ?_⟩
  have el6 : H6 l = some (.lst []) := s6 _ _ (x15 _ _ (s1 _ _ e0))
  refine ⟨some l, (fun b e => by cases e; exact ⟨_, el6⟩), trivial, fun od ys H7 s7 n7 eo ho => ?_⟩
  have t37 : Same H3 H7 := ((s4.trans s5).trans s6).trans s7
  have p1 : Pt K H7 (.ref x1) .wrk := (pt_of hx1).same (s3.trans t37)
  have p2 : Pt K H7 (.ref x2) (.sup []) := hx2.same t37
  have p3 : Pt K H7 (.ref x3) .wrk := (pt_of hx3).same ((s5.trans s6).trans s7)
  have p4 : Pt K H7 (.ref x4) .wrk := (pt_of hx4).same (s6.trans s7)
  have S7 : Same H H7 := s0.trans (s1.trans (x15.trans (s6.trans s7)))
  have el : H7 l = some (.lst []) := s7 _ _ el6
  have ep : H7 pl = some (.lst [.ref x1, .ref x2, .ref x3, .ref x4]) := s7 _ _ e6
  have al : a ≠ l := fun z => by
    obtain ⟨⟨n2, r, e, _⟩, _⟩ := S.same S7
    rw [z, el] at e
    cases e
  have pll : pl ≠ l := fun z => by rw [z, el] at ep; cases ep
  have odl : od ≠ l := fun z => by rw [z, el6] at n7; cases n7
  have hl : H l = none := n0
  -- what stands during the loop
  refine ⟨_, rfl, (n : Int), rfl, by omega, by omega, for_range (n := n) (fun i σ G => ∃ (fv : V) (wh : Nat) (v7 v8 v9 v10 v11 v12 : Option V), σ = [some (.ref a), some (.int (n : Nat)), some (.ref l), some fv, some (.int (wh : Nat)), some (.ref pl), some (.ref od), v7, v8, v9, v10, v11, v12] ∧
    ∃ xs ks, Sta K H G a c l pl od x1 x2 x3 x4 ns (m + 4 * i) xs ys ks ∧ xs.length = i ∧ Known fv wh ks) ?_ ?_ ?_⟩
  · exact ⟨.non, 1, none, none, none, none, none, none, rfl, [], [], ⟨(S.same S7).more (by omega), (But.refl a H).same S7, p1, p2, p3, p4, ep, eo, ho, el, ⟨rfl, fun i v e => by simp at e⟩⟩, rfl, .inl ⟨rfl, by rw [firstKid], rfl⟩⟩
  · rintro i σ G hi ⟨fv, wh, v7, v8, v9, v10, v11, v12, rfl, xs, ks, Z, lx, kn⟩
    have i13 : i < 13 := by omega
    refine ⟨_, rfl, a, c, ns, _, 24, rfl, Z.src, by omega, by decide, by decide, fun way G1 lw S1 b1 => ?_⟩
    have Z1 := Z.move b1 S1
    refine ⟨_, rfl, _, rfl, a, c, pl, ns, _, _, rfl, Z1.src, by omega, Z1.ep, Z1.src.is.ne Z1.ep (fun _ _ _ z => nomatch z), (by show 0 < 4; decide), (by show 4 ≤ 1000; decide), fun j v G2 ej S2 b2 => ⟨(by show 3 ≤ sizeLine; decide), fun tp G3 s3 n3 e3 => ⟨tp, _, rfl, SqT.of e3, rfl, ?_⟩⟩⟩
    have Z3 := (Z1.move b2 S2).same s3
    have hv : ∃ t, KidC K G3 l v (.pn t) ∧ t.size = 1 ∧ t.lv = 1 := by
      rcases get4 ej with rfl | rfl | rfl | rfl
      · exact ⟨_, .pn Z3.q1 (by decide) (by decide), rfl, rfl⟩
      · exact ⟨_, .pn Z3.q2 (by decide) (by decide), rfl, rfl⟩
      · exact ⟨_, .pn Z3.q3 (by decide) (by decide), rfl, rfl⟩
      · exact ⟨_, .pn Z3.q4 (by decide) (by decide), rfl, rfl⟩
    refine ⟨fun σ G => ∃ (ch : V) (sz ht : Nat) (kd0 : Kid) (u8 : Option V), σ = [some (.ref a), some (.int (n : Nat)), some (.ref l), some fv, some (.int (wh : Nat)), some (.ref pl), some (.ref od), some (.int (0 + (i : Nat))), u8, some ch, some (.int (sz : Nat)), some (.int (ht : Nat)), v12] ∧
      KidC K G l ch kd0 ∧ Fits kd0 sz ht ∧ Sta K H G a c l pl od x1 x2 x3 x4 ns (m + 4 * i + 3) xs ys ks, ?_, ?_⟩
    · refine ⟨_, rfl, rfl, _, rfl, ?_⟩
      by_cases w0 : way = 0
      · refine if_yes (decide_eq_true (by rw [w0]; rfl)) ?_
        refine ⟨_, rfl, (by show 2 ≤ sizeLine; decide), fun hp G4 s4 n4 e4 => ?_⟩
        have Z4 := Z3.same s4
        refine ⟨a, c, hp, ns, _, _, rfl, Z4.src, by omega, e4, Z4.src.is.ne e4 (fun _ _ _ z => nomatch z), (by show 0 < 2; decide), (by show 2 ≤ 1000; decide), fun j2 h G5 ej2 S5 b5 => ?_⟩
        have Z5 := Z4.move b5 S5
        rcases get2 ej2 with rfl | rfl
        · exact ⟨_, rfl, 18, rfl, by decide, fun v2 G6 s6 h6 => ⟨_, rfl, (by show 2 ≤ sizeLine; decide), fun tp2 G7 s7 _ e7 => ⟨tp2, _, rfl, SqT.of e7, rfl, v2, 19, 19, .pn (chain 18), _, rfl, .pn (h6.same s7) (by rw [chain_lv]; decide) (by rw [chain_size]; decide), ⟨(chain_size 18).symm, (chain_lv 18).symm⟩, (Z5.same (s6.trans s7)).move (But.refl a _) ((Z5.same (s6.trans s7)).src.more (by omega))⟩⟩⟩
        · exact ⟨_, rfl, 19, rfl, by decide, fun v2 G6 s6 h6 => ⟨_, rfl, (by show 2 ≤ sizeLine; decide), fun tp2 G7 s7 _ e7 => ⟨tp2, _, rfl, SqT.of e7, rfl, v2, 20, 20, .pn (chain 19), _, rfl, .pn (h6.same s7) (by rw [chain_lv]; decide) (by rw [chain_size]; decide), ⟨(chain_size 19).symm, (chain_lv 19).symm⟩, (Z5.same (s6.trans s7)).move (But.refl a _) ((Z5.same (s6.trans s7)).src.more (by omega))⟩⟩⟩
      · refine if_no (decide_eq_false (by intro z; injection z with z; omega)) ?_
        refine ⟨_, rfl, _, _, rfl, rfl, _, rfl, ?_⟩
        by_cases w3 : way < 3
        · refine if_yes (decide_eq_true (by omega)) ?_
          refine ⟨rfl, fun v2 G4 s4 h4 => ⟨(by show 3 ≤ sizeLine; decide), fun tp2 G5 s5 n5 e5 => ⟨tp2, _, rfl, SqT.of e5, rfl, ?_⟩⟩⟩
          obtain ⟨b1', b2', b3', b4', b5', b6'⟩ := broad_facts
          exact ⟨v2, 100, 3, .pn broad, _, rfl, .pn (h4.same s5) (by rw [b3']; decide) (by rw [b4']; decide), ⟨b4'.symm, b3'.symm⟩, (Z3.same (s4.trans s5)).move (But.refl a _) ((Z3.same (s4.trans s5)).src.more (by omega))⟩
        · refine if_no (decide_eq_false (by omega)) ?_
          refine ⟨_, rfl, _, _, rfl, rfl, _, rfl, ?_⟩
          by_cases w6 : way < 6
          · refine if_yes (decide_eq_true (by omega)) ?_
            have ly : ys.length = 8 := Z3.ho.len
            refine ⟨_, rfl, _, rfl, a, c, od, ns, _, ys, rfl, Z3.src, by omega, Z3.eo, Z3.src.is.ne Z3.eo (fun _ _ _ z => nomatch z), by omega, by omega, fun j2 v2 G4 ej2 S4 b4 => ?_⟩
            have Z4 := Z3.move b4 S4
            obtain ⟨d, ed, hd⟩ := Z4.ho.get ej2
            exact ⟨v2, 1, 1, .odd d, _, rfl, .odd hd (odd_kd d (List.mem_of_getElem? ed)), ⟨rfl, rfl⟩, Z4.move (But.refl a _) (Z4.src.more (by omega))⟩
          · refine if_no (decide_eq_false (by omega)) ?_
            obtain ⟨t, hk, z1, z2⟩ := hv
            exact ⟨v, 1, 1, .pn t, _, rfl, hk, ⟨z1.symm, z2.symm⟩, Z3.move (But.refl a _) (Z3.src.more (by omega))⟩
    · rintro σ G ⟨ch, sz, ht, kd0, u8, rfl, hk, fit, Z⟩
      refine ⟨_, rfl, .inl ⟨rfl, _, SqL.of Z.el⟩, _, rfl, l, xs, _, rfl, rfl, Z.el, Nat.lt_of_le_of_lt (show xs.length ≤ 13 by omega) (by decide), ?_⟩
      have Z2 := Z.put (v := ch) (k := kd0) hl odl pll hk
      generalize hG2 : upd G l (.lst (xs ++ [ch])) = G2 at Z2 ⊢
      have hk2 : KidR K G2 ch kd0 := by
        have b : But l G G2 := fun b o e n => by rw [← hG2, upd_ne n]; exact e
        exact (hk.put b Z.el).kid
      refine ⟨_, rfl, _, rfl, _, _, rfl, rfl, ?_⟩
      refine ⟨_, rfl, (by show 2 ≤ sizeLine; decide), fun tp3 G4 s4 _ e4 => ⟨_, tp3, _, _, _, _, rfl, e4, .cons (.own _) (.cons (.own _) .nil), (hk2.same s4).ty T.pk, kit_two (T.pk.kit _ 5 (kk_lt hk2) (by decide)) (T.pk.kit _ 6 (kk_lt hk2) (by decide)), ?_⟩⟩
      rw [isPn_tab hk2]
      have Z4 := (Z2.same s4).move (But.refl a _) ((Z2.same s4).src.more (show m + 4 * i + 3 ≤ m + 4 * (i + 1 : Nat) by omega))
      have lk : xs.length = ks.length := Z.all.1
      have len2 : (xs ++ [ch]).length = i + 1 := by rw [List.length_append, lx]; rfl
      rcases kn with ⟨rfl, fk, wz⟩ | ⟨j3, rfl, fk⟩
      · have step : firstKid 0 1 (ks ++ [kd0]) = firstKid i wh [kd0] := by rw [firstKid_snoc fk, Nat.zero_add, ← lk, lx, ← wz]
        have grown : ∀ t, kd0 = .pn t → wh + sz = 1 + ((ks ++ [kd0]).map kidSize).sum := fun t e => by
          subst e
          rw [List.map_append, List.sum_append, wz, fit.1]
          simp [kidSize]
          try omega
        have bad : firstKid 0 1 (ks ++ [kd0]) = some i → ∀ (G : Hp) (wh2 : Nat), Known (.int (0 + (i : Nat))) wh2 (ks ++ [kd0]) := fun e G wh2 => .inr ⟨i, by rw [Int.zero_add], e⟩
        refine ⟨_, rfl, rfl, _, rfl, if_yes (by rfl) ?_⟩
        cases kd0 with
        | odd d =>
          have e1 : firstKid i wh [Kid.odd d] = some i := by
            rw [firstKid]
            split <;> rfl
          exact ⟨_, rfl, _, rfl, if_yes rfl (if_yes rfl ⟨_, rfl, _, wh + sz, _, _, _, _, _, _, rfl, xs ++ [ch], ks ++ [Kid.odd d], Z4, len2, bad (step.trans e1) G4 _⟩)⟩
        | pn t =>
          obtain ⟨f1, f2⟩ := fit
          subst f1 f2
          have e1 : firstKid i wh [Kid.pn t] = if i = 12 then some i else if wh + t.size > 200 then some i else if t.lv + 1 > 20 then some i else none := by
            rw [firstKid_pn]
            rw [firstKid]
          rw [← step] at e1
          refine ⟨_, rfl, _, rfl, if_no rfl ?_⟩
          refine ⟨_, rfl, _, _, rfl, rfl, _, rfl, ?_⟩
          by_cases c1 : i = 12
          · rw [if_pos c1] at e1
            exact if_yes (decide_eq_true (by omega)) (if_yes rfl ⟨_, rfl, _, wh + t.size, _, _, _, _, _, _, rfl, xs ++ [ch], ks ++ [Kid.pn t], Z4, len2, bad e1 G4 _⟩)
          rw [if_neg c1] at e1
          refine if_no (decide_eq_false (by omega)) ?_
          refine ⟨_, rfl, _, _, rfl, rfl, _, rfl, ?_⟩
          by_cases c2 : wh + t.size > 200
          · rw [if_pos c2] at e1
            exact if_yes (decide_eq_true (by show (200 : Int) < (wh : Int) + (t.size : Int); omega)) (if_yes rfl ⟨_, rfl, _, wh + t.size, _, _, _, _, _, _, rfl, xs ++ [ch], ks ++ [Kid.pn t], Z4, len2, bad e1 G4 _⟩)
          rw [if_neg c2] at e1
          refine if_no (decide_eq_false (by show ¬ (200 : Int) < (wh : Int) + (t.size : Int); omega)) ?_
          refine ⟨_, rfl, _, _, rfl, rfl, _, rfl, ?_⟩
          by_cases c3 : t.lv + 1 > 20
          · rw [if_pos c3] at e1
            exact if_yes (decide_eq_true (by omega)) ⟨_, rfl, _, wh + t.size, _, _, _, _, _, _, rfl, xs ++ [ch], ks ++ [Kid.pn t], Z4, len2, bad e1 G4 _⟩
          rw [if_neg c3] at e1
          exact if_no (decide_eq_false (by omega)) ⟨_, wh + t.size, _, _, _, _, _, _, rfl, xs ++ [ch], ks ++ [Kid.pn t], Z4, len2, .inl ⟨rfl, e1, grown t rfl⟩⟩
      · have e1 := firstKid_stays (k := kd0) fk
        exact ⟨_, rfl, rfl, _, rfl, if_no (by rfl) ⟨_, wh + sz, _, _, _, _, _, _, rfl, xs ++ [ch], ks ++ [kd0], Z4, len2, .inr ⟨j3, rfl, e1⟩⟩⟩
  · rintro σ G ⟨fv, wh, v7, v8, v9, v10, v11, v12, rfl, xs, ks, Z, lx, kn⟩
    refine ⟨_, rfl, _, rfl, (by show 2 ≤ sizeLine; decide), fun t G2 s2 _ e2 => k t l xs ks fv G2 e2 (s2 _ _ Z.el) lx (Z.all.kids.same s2) ?_ ((Z.src.same s2).more (by omega)) (Z.but.same s2)⟩
    rcases kn with ⟨rfl, fk, _⟩ | ⟨j, rfl, fk⟩ <;> rw [fk]
end
end K02
/-! _law_fields_right -/
namespace L2
open PySem PySem.Spec PyProof.Rows
section
variable {X : Cx} {e : Expr} {te : TE} {f : Str} {newId : String} {bmB : List Value} {apos : Pos}
theorem pe_xflK (K : PySem.W.Frag) (he : PE X e te) (h : X.K = K := by rfl) (hb : attributeBase e f X.env (eval e X.env) = eval e X.env := by rfl) : PE X (.Attribute e f apos) (tXfl K newId bmB f te) := by
  subst h; exact pe_xfl he hb
theorem cr_isXK (K : PySem.W.Frag) (h : X.K = K := by rfl) : CallR X (.builtin "isinstance") (rIsX K newId bmB) := by
  subst h; exact call_isX
end
end L2
namespace K02
open PySem PySem.Spec PyProof.Rows L2
/-- what else the errors are -/
structure ErrP (K : PySem.W.Frag) (mg : Str → Option Value) : Prop where
  gl : mg "PlanError" = some (.ref (He.ga K "PlanError"))
  p1 : PySem.W.kitOne K (.ref (He.ga K "BadSetting")) (.ref (He.ga K "PlanError")) = some true
  p2 : PySem.W.kitOne K (.ref (He.ga K "BadChild")) (.ref (He.ga K "PlanError")) = some true
  v1 : PySem.W.kitOne K (.ref (He.ga K "BadSetting")) (.type "ValueError") = some true
  v2 : PySem.W.kitOne K (.ref (He.ga K "BadChild")) (.type "ValueError") = some true
/-- two of one and the same -/
theorem two_shaped {d : PyData} (h : PyData.canLay0 d = true) (z : PyData.depth d = 0) : SeqAt.shaped (.list [d, d]) = true := by
  unfold SeqAt.shaped
  have h1 : PyData.canLay0 (.list [d, d]) = true := by
    show (PyData.canLay0 d && (PyData.canLay0 d && true)) = true
    rw [h]; rfl
  have h2 : PyData.depth (.list [d, d]) ≤ 64 := by
    show max (PyData.depth d) (max (PyData.depth d) 0) + 1 ≤ 64
    rw [z]; decide
  rw [h1, decide_eq_true h2]; rfl
section
variable {P : Program} {w : World} {K : PySem.W.Frag} {mg : Str → Option Value} {base : Heap}
/-- two lists of the same two are not unequal -/
theorem ne_two {H : Hp} {p q : Addr} {v : V} {d : PyData} {Q : VK} (hv : Dp K H v d) (h : PyData.canLay0 d = true) (z : PyData.depth d = 0) (h1 : H p = some (.lst [v, v])) (h2 : H q = some (.lst [v, v])) (k : Q (.bl false) H) : rNeD K (.ref p) (.ref q) H Q :=
  ⟨_, _, .lst (SqL.of h1) (.cons hv (.cons hv .nil)), .lst (SqL.of h2) (.cons hv (.cons hv .nil)), two_shaped h z, two_shaped h z, by rw [SeqAt.eqv_refl _ (SeqAt.canLay_of_shaped (two_shaped h z))]; exact k⟩
/-- an error of the class at C at a, with this field -/
def Xat (H : Hp) (a C : Addr) (f : Str) (v : V) : Prop := ∃ d, H a = some (exo a C (some d)) ∧ H d = some (exd d [(f, v)])
theorem Xat.same {H H' : Hp} {a C : Addr} {f : Str} {v : V} (h : Xat H a C f v) (s : Same H H') : Xat H' a C f v := let ⟨d, h1, h2⟩ := h; ⟨d, s _ _ h1, s _ _ h2⟩
theorem Xat.fld {H : Hp} {a C : Addr} {f : Str} {v : V} {newId : String} {bmB : List Value} {σ : L2.St} {te : TE} {Q : VK} (h : Xat H a C f v) (T : XCl K C newId bmB) (nf : PySem.W.findIn K (.ref C) f = some none) (q : Q v H) : ∃ (a' C' d : Addr) (fs : List (Str × V)) (y : V), V.ref a = .ref a' ∧ H a' = some (exo a' C' (some d)) ∧ H d = some (exd d fs) ∧ fs.lookup f = some y ∧
    XCl K C' newId bmB ∧ PySem.W.findIn K (.ref C') f = some none ∧ Q y H := by
  obtain ⟨d, h1, h2⟩ := h
  exact ⟨a, C, d, _, v, rfl, h1, h2, by simp [List.lookup], T, nf, q⟩
theorem Xat.isx {H : Hp} {a C : Addr} {f : Str} {v c : V} {u : Value} {b : Bool} {newId : String} {bmB : List Value} {Q : VK} (h : Xat H a C f v) (T : XCl K C newId bmB) (hc : ClsV c u) (hk : PySem.W.kitOne K (.ref C) u = some b) (q : Q (.bl b) H) : rIsX K newId bmB [.ref a, c] H Q := by
  obtain ⟨d, h1, h2⟩ := h
  exact ⟨a, C, some d, c, u, b, rfl, h1, (fun d' z => by cases z; exact ⟨_, h2⟩), T, hc, hk, q⟩
abbrev s_law_fields_right : Stmt := (top 78)
def N_law_fields_right : List Str := ["field", "number_now", "some", "others", "error"]
theorem sc_law_fields_right : FnScope N_law_fields_right ["field", "number_now"] (defScope s_law_fields_right) := ⟨rfl, rfl, rfl, by decide +kernel, rfl, by decide +kernel, by decide +kernel⟩
def spFieldsR (K : PySem.W.Frag) : Sp := fun vs H Q _ => ∃ (x : Str) (i : Int), vs = [.str x, .int i] ∧ PyData.canLay0 (.str x) = true ∧ PyData.canLay0 (.int i) = true ∧ ∀ H', Same H H' → Q (.bl true) H'
theorem ok_fields_right (F : Has K mg "_law_fields_right" s_law_fields_right) (T : Txt K mg) (TS : Err K mg "BadSetting" "setting") (TC : Err K mg "BadChild" "index") (M : ErrP K mg) : FnQ P w K mg base CX0 2 "_law_fields_right" ["field", "number_now"] (spFieldsR K) := by
  refine F.q sc_law_fields_right (fun _ _ _ _ _ _ us hl => match us, hl with | [_, _], _ => rfl) (fun vs H Q E h => by obtain ⟨_, _, rfl, _⟩ := h; rfl) (fun cdv A outer s H vs Q E hr h => ?_)
  obtain ⟨x, i, rfl, cx, ci, k⟩ := h
  have gI : mg "isinstance" = none := T.fr _ (by simp [frees])
  refine ⟨_, PSs.nox (pss_cons (ps_set (i := 2) sc_law_fields_right.nd rfl (by first | exact .inl rfl | exact .inr rfl) (pe_lstM (pa_cons (pe_xcPosM PySem.F.excBase_ValueError PySem.F.store_ValueError TS.cl TS.xi fn_setting hr (by decide) TS.gl (pv 0)) (pa_cons (pe_xcKwM PySem.F.excBase_ValueError PySem.F.store_ValueError TS.cl TS.xi fn_setting hr (by decide) TS.gl (pv 0)) pa_nil))))
  (pss_cons (ps_set (i := 3) sc_law_fields_right.nd rfl (by first | exact .inl rfl | exact .inr rfl) (pe_lstM (pa_cons (pe_xcPosM PySem.F.excBase_ValueError PySem.F.store_ValueError TC.cl TC.xi fn_index hr (by decide) TC.gl (pv 1)) (pa_cons (pe_xcKwM PySem.F.excBase_ValueError PySem.F.store_ValueError TC.cl TC.xi fn_index hr (by decide) TC.gl (pv 1)) pa_nil))))
  (pss_cons (ps_if (pw_or (pt_cmpR (op_neD hr.units) (pe_lc (own := [("error", 4)]) (tt := tYes) rfl sc_law_fields_right.nd (pi_list (pv 2)) (blkOk_by (N := N_law_fields_right) (sc := defScope s_law_fields_right) (by decide +kernel)) (fun _ _ _ _ _ => (pg_name (i := 4) sc_law_fields_right.nd rfl (by first | exact .inl rfl | exact .inr rfl))) (fun _ _ _ _ _ => pts_nil) (fun _ _ _ _ _ => (pe_xflK K (newId := "ValueError.__new__") (bmB := veB) (pv 4)))) (pe_op op_repM (pe_lstM (pa_cons (pv 0) pa_nil)) pe_int) (by first | exact nomark _ | rfl)) (pw_or1 (pt_cmpR (op_neD hr.units) (pe_lc (own := [("error", 4)]) (tt := tYes) rfl sc_law_fields_right.nd (pi_list (pv 3)) (blkOk_by (N := N_law_fields_right) (sc := defScope s_law_fields_right) (by decide +kernel)) (fun _ _ _ _ _ => (pg_name (i := 4) sc_law_fields_right.nd rfl (by first | exact .inl rfl | exact .inr rfl))) (fun _ _ _ _ _ => pts_nil) (fun _ _ _ _ _ => (pe_xflK K (newId := "ValueError.__new__") (bmB := veB) (pv 4)))) (pe_op op_repM (pe_lstM (pa_cons (pv 1) pa_nil)) pe_int) (by first | exact nomark _ | rfl)))).pt
  (pss_one (ps_ret pe_bl))
  pss_nil)
  (pss_one (ps_ret (pe_callB (cr_all rfl) (by rfl) (T.fr "all" (by simp [frees])) boot_all (pa_cons (pe_lc (own := [("error", 4)]) (tt := tYes) rfl sc_law_fields_right.nd (pi_list (pe_op op_catM (pv 2) (pv 3))) (blkOk_by (N := N_law_fields_right) (sc := defScope s_law_fields_right) (by decide +kernel)) (fun _ _ _ _ _ => (pg_name (i := 4) sc_law_fields_right.nd rfl (by first | exact .inl rfl | exact .inr rfl))) (fun _ _ _ _ _ => pts_nil) (fun _ _ _ _ _ => (pe_and (pe_callB (cr_isXK K (newId := "ValueError.__new__") (bmB := veB)) (by rfl) gI boot_isinstance (pa_cons (pv 4) (pa_cons (pe_glob (v := .ref (He.ga K "PlanError")) (by rfl) M.gl rfl) pa_nil))) (pe_one (pe_callB (cr_isXK K (newId := "ValueError.__new__") (bmB := veB)) (by rfl) gI boot_isinstance (pa_cons (pv 4) (pa_cons (pe_bltn (v := .ty "ValueError") (by rfl) (T.fr "ValueError" (by simp [frees])) PyProof.Rows.Boot.«ValueError» rfl) pa_nil))))))) pa_nil))))))), ?_⟩
  refine ⟨_, rfl, fun a1 d1 H1 s1 n1 x1 y1 => ⟨_, rfl, fun a2 d2 H2 s2 n2 x2 y2 => ⟨(by show 2 ≤ sizeLine; decide), fun p1 H3 s3 n3 e3 => ?_⟩⟩⟩
  have X1 : Xat H3 a1 (He.ga K "BadSetting") "setting" (.str x) := ⟨d1, (s2.trans s3) _ _ x1, (s2.trans s3) _ _ y1⟩
  have X2 : Xat H3 a2 (He.ga K "BadSetting") "setting" (.str x) := ⟨d2, s3 _ _ x2, s3 _ _ y2⟩
  refine ⟨_, rfl, fun a3 d3 H4 s4 n4 x3 y3 => ⟨_, rfl, fun a4 d4 H5 s5 n5 x4 y4 => ⟨(by show 2 ≤ sizeLine; decide), fun p2 H6 s6 n6 e6 => ?_⟩⟩⟩
  have X3 : Xat H6 a3 (He.ga K "BadChild") "index" (.int i) := ⟨d3, (s5.trans s6) _ _ x3, (s5.trans s6) _ _ y3⟩
  have X4 : Xat H6 a4 (He.ga K "BadChild") "index" (.int i) := ⟨d4, s6 _ _ x4, s6 _ _ y4⟩
  have t36 : Same H3 H6 := s4.trans (s5.trans s6)
  have S6 : Same H H6 := s1.trans (s2.trans (s3.trans t36))
  have E1 : H6 p1 = some (.lst [.ref a1, .ref a2]) := t36 _ _ e3
  have Y1 := X1.same t36
  have Y2 := X2.same t36
  clear X1 X2 s1 s2 s3 s4 s5 s6 x1 x2 x3 x4 y1 y2 y3 y4 n1 n2 n3 n4 n5 n6 e3 t36
  -- the settings
  refine ⟨_, rfl, p1, rfl, ⟨_, SqL.of E1⟩, comp_val walk_list (f := fun _ => V.str x) (by show 2 < sizeLine; decide) (fun G g => SqL.of (g _ _ E1)) (fun i G x G' y b o e => by rw [y.1]; exact e) (fun j v G1 G2 R hi g1 yy kk => ?_) fun q1 G3 t3 _ f3 => ?_⟩
  · obtain ⟨rfl, ev⟩ := yy
    refine ⟨rfl, _, rfl, ?_⟩
    rcases get2 ev with rfl | rfl
    · exact (Y1.same g1).fld (σ := []) (te := fun _ _ _ => True) TS.cl TS.xi.nf (kk _ (Same.refl _))
    · exact (Y2.same g1).fld (σ := []) (te := fun _ _ _ => True) TS.cl TS.xi.nf (kk _ (Same.refl _))
  refine ⟨_, rfl, (by show 1 ≤ sizeLine; decide), fun q2 G4 t4 _ f4 => ⟨q2, 2, _, rfl, rfl, f4, by decide, by decide, (by show 1 * 2 ≤ sizeLine; decide), fun q3 G5 t5 _ f5 => ?_⟩⟩
  refine ne_two (d := .str x) (.str x) cx rfl ((t4.trans t5) _ _ f3) f5 ⟨_, rfl, if_no rfl ?_⟩
  have S5 := t3.trans (t4.trans t5)
  -- the numbers
  refine ⟨_, rfl, p2, rfl, ⟨_, SqL.of (S5 _ _ e6)⟩, comp_val walk_list (f := fun _ => V.int i) (by show 2 < sizeLine; decide) (fun G g => SqL.of (g _ _ (S5 _ _ e6))) (fun i G x G' y b o e => by rw [y.1]; exact e) (fun j v G1 G2 R hi g1 yy kk => ?_) fun q4 G6 t6 _ f6 => ?_⟩
  · obtain ⟨rfl, ev⟩ := yy
    refine ⟨rfl, _, rfl, ?_⟩
    rcases get2 ev with rfl | rfl
    · exact (X3.same (S5.trans g1)).fld (σ := []) (te := fun _ _ _ => True) TC.cl TC.xi.nf (kk _ (Same.refl _))
    · exact (X4.same (S5.trans g1)).fld (σ := []) (te := fun _ _ _ => True) TC.cl TC.xi.nf (kk _ (Same.refl _))
  refine ⟨_, rfl, (by show 1 ≤ sizeLine; decide), fun q5 G7 t7 _ f7 => ⟨q5, 2, _, rfl, rfl, f7, by decide, by decide, (by show 1 * 2 ≤ sizeLine; decide), fun q6 G8 t8 _ f8 => ?_⟩⟩
  refine ne_two (d := .int i) (.int i) ci rfl ((t7.trans t8) _ _ f6) f8 ⟨_, rfl, if_no rfl ?_⟩
  have S8 := S5.trans (t6.trans (t7.trans t8))
  -- all of them
  refine ⟨_, rfl, _, rfl, p1, p2, _, _, rfl, rfl, S8 _ _ E1, S8 _ _ e6, (by show 2 + 2 ≤ sizeLine; decide), fun q7 G9 t9 _ f9 => ?_⟩
  have S9 := S8.trans t9
  refine ⟨q7, rfl, ⟨_, SqL.of f9⟩, comp_val walk_list (f := fun _ => V.bl true) (by show 4 < sizeLine; decide) (fun G g => SqL.of (g _ _ f9)) (fun i G x G' y b o e => by rw [y.1]; exact e) (fun j v G1 G2 R hi g1 yy kk => ?_) fun q8 G10 t10 _ f10 => ?_⟩
  · obtain ⟨rfl, ev⟩ := yy
    refine ⟨rfl, ?_⟩
    have st := S9.trans g1
    have ev : ([V.ref a1, V.ref a2, V.ref a3, V.ref a4] : List V)[j]? = some v := ev
    rcases get4 ev with rfl | rfl | rfl | rfl
    · obtain ⟨d, h1, h2⟩ := Y1.same st
      exact ⟨_, rfl, a1, _, some d, _, _, true, rfl, h1, (fun d' z => by cases z; exact ⟨_, h2⟩), TS.cl, .own _, M.p1, _, rfl, if_yes rfl ⟨_, rfl, a1, _, some d, _, _, true, rfl, h1, (fun d' z => by cases z; exact ⟨_, h2⟩), TS.cl, .ty _, M.v1, kk _ (Same.refl _)⟩⟩
    · obtain ⟨d, h1, h2⟩ := Y2.same st
      exact ⟨_, rfl, a2, _, some d, _, _, true, rfl, h1, (fun d' z => by cases z; exact ⟨_, h2⟩), TS.cl, .own _, M.p1, _, rfl, if_yes rfl ⟨_, rfl, a2, _, some d, _, _, true, rfl, h1, (fun d' z => by cases z; exact ⟨_, h2⟩), TS.cl, .ty _, M.v1, kk _ (Same.refl _)⟩⟩
    · obtain ⟨d, h1, h2⟩ := X3.same st
      exact ⟨_, rfl, a3, _, some d, _, _, true, rfl, h1, (fun d' z => by cases z; exact ⟨_, h2⟩), TC.cl, .own _, M.p2, _, rfl, if_yes rfl ⟨_, rfl, a3, _, some d, _, _, true, rfl, h1, (fun d' z => by cases z; exact ⟨_, h2⟩), TC.cl, .ty _, M.v2, kk _ (Same.refl _)⟩⟩
    · obtain ⟨d, h1, h2⟩ := X4.same st
      exact ⟨_, rfl, a4, _, some d, _, _, true, rfl, h1, (fun d' z => by cases z; exact ⟨_, h2⟩), TC.cl, .own _, M.p2, _, rfl, if_yes rfl ⟨_, rfl, a4, _, some d, _, _, true, rfl, h1, (fun d' z => by cases z; exact ⟨_, h2⟩), TC.cl, .ty _, M.v2, kk _ (Same.refl _)⟩⟩
  · exact ⟨q8, [true, true, true, true], rfl, SqL.of f10, k G10 (S6.trans (S9.trans t10))⟩
end
end K02
/-! what the law reckons -/
namespace K02
open PySem PySem.Spec PyProof.Rows L2
/-! ### orders of settings -/
def ordW : List Str := ["name", "restart", "opening", "closing", "deadline", "refused", "script"]
def ordS : List Str := ["name", "restart", "strategy", "most", "span", "deadline"]
theorem ordW_in : ∀ f ∈ ordW, f ∈ fieldsAll := by decide +kernel
theorem ordS_in : ∀ f ∈ ordS, f ∈ fieldsAll := by decide +kernel
theorem ordW_nd : ordW.Nodup := by decide +kernel
theorem ordS_nd : ordS.Nodup := by decide +kernel
/-- which settings there are, by the kind -/
def KO (x : Str) (fs : List Str) : Prop := (x = "w" ∧ fs = ordW) ∨ (x = "s" ∧ fs = ordS)
theorem KO.in_ {x : Str} {fs : List Str} (h : KO x fs) : ∀ f ∈ fs, f ∈ fieldsAll := by
  rcases h with ⟨_, rfl⟩ | ⟨_, rfl⟩
  · exact ordW_in
  · exact ordS_in
theorem KO.nd {x : Str} {fs : List Str} (h : KO x fs) : fs.Nodup := by
  rcases h with ⟨_, rfl⟩ | ⟨_, rfl⟩
  · exact ordW_nd
  · exact ordS_nd
theorem KO.pos {x : Str} {fs : List Str} (h : KO x fs) : 0 < fs.length ∧ fs.length ≤ 7 := by
  rcases h with ⟨_, rfl⟩ | ⟨_, rfl⟩ <;> decide
theorem KO.first {x : Str} {fs : List Str} (h : KO x fs) {j : Nat} {f : Str} (e : fs[j]? = some f) : f = "name" ↔ j = 0 := by
  have all : ∀ fs ∈ [ordW, ordS], ∀ j, j < fs.length → ∀ f, fs[j]? = some f → (f = "name" ↔ j = 0) := by
    intro fs hf
    simp only [List.mem_cons, List.not_mem_nil, or_false] at hf
    intro j hj f e
    have k0 : ∀ g ∈ fs.tail, g ≠ "name" := by rcases hf with rfl | rfl <;> decide +kernel
    have k1 : fs[0]? = some ("name" : Str) := by rcases hf with rfl | rfl <;> rfl
    cases j with
    | zero => rw [k1] at e; cases e; simp
    | succ j =>
      have : fs.tail[j]? = some f := by rw [List.getElem?_tail]; exact e
      have := k0 f (List.mem_of_getElem? this)
      simp [this]
  have lt := (List.getElem?_eq_some_iff.mp e).1
  rcases h with ⟨_, rfl⟩ | ⟨_, rfl⟩
  · exact all _ (by simp) j lt f e
  · exact all _ (by simp) j lt f e
/-! ### the dict of settings -/
def ents (fs : List Str) (vs : List V) : List (Key × V) := (fs.zip vs).map fun p => (Sum.inr p.1, p.2)
theorem ents_snoc {fs : List Str} {vs : List V} {j : Nat} {f : Str} {v : V} (l : vs.length = j) (e : fs[j]? = some f) : ents (fs.take (j + 1)) (vs ++ [v]) = ents (fs.take j) vs ++ [(.inr f, v)] := by
  have lt := (List.getElem?_eq_some_iff.mp e).1
  unfold ents
  rw [List.take_succ, e, Option.toList_some, List.zip_append (by rw [List.length_take]; omega), List.map_append]
  rfl
theorem ents_put {fs : List Str} (nd : fs.Nodup) {vs : List V} {j : Nat} {f : Str} {v : V} (l : vs.length = j) (e : fs[j]? = some f) : putK (ents (fs.take j) vs) (.inr f) v = ents (fs.take (j + 1)) (vs ++ [v]) := by
  have no : ((ents (fs.take j) vs).any fun kv => decide (kv.1 = Sum.inr f)) = false := by
    rw [List.any_eq_false]
    rintro ⟨k, u⟩ hk q
    have q := of_decide_eq_true q
    unfold ents at hk
    obtain ⟨⟨g, u'⟩, hp, e2⟩ := List.mem_map.mp hk
    cases e2
    injection q with q
    subst q
    have m := (List.of_mem_zip hp).1
    obtain ⟨i, hi, eg⟩ := List.getElem_of_mem m
    rw [List.length_take] at hi
    rw [List.getElem_take] at eg
    have lt := (List.getElem?_eq_some_iff.mp e).1
    have ef : fs[j] = g := (List.getElem?_eq_some_iff.mp e).2
    exact List.pairwise_iff_getElem.mp nd i j (by omega) lt (by omega) (eg.trans ef.symm)
  unfold putK
  rw [if_neg (by rw [no]; exact Bool.false_ne_true), ents_snoc l e]
/-! ### what lies beside a dict that isn't empty -/
section
variable {K : PySem.W.Frag} {H : Hp} {dv : Addr} {es : List (Key × V)}
theorem hide_ne {b : Addr} {o u : HO} (h : H dv = some o) (e : H b = some u) (n : u ≠ o) : hide (some dv) H b = some u := by
  rw [hide_at (fun z => by cases z; rw [h] at e; cases e; exact n rfl)]
  exact e
theorem hideL {b : Addr} {xs : List V} (h : H dv = some (.dK es)) (s : SqL K H b xs) : SqL K (hide (some dv) H) b xs := by
  rcases s with (e | ⟨o, e⟩) | e
  · exact .inl (.inl (hide_ne h e fun z => nomatch z))
  · exact .inl (.inr ⟨o, hide_ne h e fun z => nomatch z⟩)
  · exact .inr e
theorem hideT {b : Addr} {xs : List V} (h : H dv = some (.dK es)) (s : SqT K H b xs) : SqT K (hide (some dv) H) b xs := by
  rcases s with (e | ⟨o, e⟩) | e
  · exact .inl (.inl (hide_ne h e fun z => nomatch z))
  · exact .inl (.inr ⟨o, hide_ne h e fun z => nomatch z⟩)
  · exact .inr e
mutual
theorem Dd_hide (h : H dv = some (.dK es)) (ne : es ≠ []) : ∀ {v : V} {d : Dt}, Dd K H v d → Dd K (hide (some dv) H) v d
  | _, _, .non => .non
  | _, _, .bl b => .bl b
  | _, _, .int i => .int i
  | _, _, .str x h => .str x h
  | _, _, .lst q t => .lst (hideL h q) (DdAll_hide h ne t)
  | _, _, .tup q t => .tup (hideT h q) (DdAll_hide h ne t)
  | _, _, .dic q => .dic (hide_ne h q fun z => by cases z; exact ne rfl)
  | _, _, .wrk q l t o => .wrk (hide_ne h q fun z => nomatch z) l (Dd_hide h ne t) o
  | _, _, .sup q => .sup (hide_ne h q fun z => nomatch z)
theorem DdAll_hide (h : H dv = some (.dK es)) (ne : es ≠ []) : ∀ {vs : List V} {ds : List Dt}, DdAll K H vs ds → DdAll K (hide (some dv) H) vs ds
  | _, _, .nil => .nil
  | _, _, .cons q t => .cons (Dd_hide h ne q) (DdAll_hide h ne t)
end
theorem hide_upd {o : HO} : Same (hide (some dv) H) (hide (some dv) (upd H dv o)) := fun b u e => by
  have z := hide_get e
  rw [hide_at z.2, upd_ne (fun q => z.2 (by rw [q]))]
  exact z.1
theorem hide_src {a : Addr} (S : IsSrc H a) (n : dv ≠ a) : IsSrc (hide (some dv) H) a := by
  obtain ⟨c0, n0, r0, e⟩ := S
  exact ⟨c0, n0, r0, by rw [hide_at (fun z => n (Option.some.inj z))]; exact e⟩
end
/-! ### what each setting asks -/
theorem ask_name (d : Dt) : askD "name" d = isPlace d := by unfold askD; rw [if_pos rfl]
theorem ask_restart (d : Dt) : askD "restart" d = isOne restarts d := by unfold askD; rw [if_neg (by decide +kernel), if_pos rfl]
theorem ask_strategy (d : Dt) : askD "strategy" d = isOne ["one", "rest", "all"] d := by unfold askD; rw [if_neg (by decide +kernel), if_neg (by decide +kernel), if_pos rfl]
theorem ask_script (d : Dt) : askD "script" d = scriptD d := by unfold askD; rw [if_neg (by decide +kernel), if_neg (by decide +kernel), if_neg (by decide +kernel), if_pos rfl]
theorem ask_most (d : Dt) : askD "most" d = isBtw 0 20 d := by unfold askD; rw [if_neg (by decide +kernel), if_neg (by decide +kernel), if_neg (by decide +kernel), if_neg (by decide +kernel), if_pos rfl]
theorem ask_span (d : Dt) : askD "span" d = isBtw 1 1000000000 d := by unfold askD; rw [if_neg (by decide +kernel), if_neg (by decide +kernel), if_neg (by decide +kernel), if_neg (by decide +kernel), if_neg (by decide +kernel), if_pos rfl]
theorem ask_refused (d : Dt) : askD "refused" d = isBtw 0 100 d := by unfold askD; rw [if_neg (by decide +kernel), if_neg (by decide +kernel), if_neg (by decide +kernel), if_neg (by decide +kernel), if_neg (by decide +kernel), if_neg (by decide +kernel), if_pos rfl]
theorem ask_deadline (d : Dt) : askD "deadline" d = deadD d := by unfold askD; rw [if_neg (by decide +kernel), if_neg (by decide +kernel), if_neg (by decide +kernel), if_neg (by decide +kernel), if_neg (by decide +kernel), if_neg (by decide +kernel), if_neg (by decide +kernel), if_pos rfl]
theorem ask_opening (d : Dt) : askD "opening" d = isBtw 0 1000000000 d := by unfold askD; rw [if_neg (by decide +kernel), if_neg (by decide +kernel), if_neg (by decide +kernel), if_neg (by decide +kernel), if_neg (by decide +kernel), if_neg (by decide +kernel), if_neg (by decide +kernel), if_neg (by decide +kernel)]
theorem ask_closing (d : Dt) : askD "closing" d = isBtw 0 1000000000 d := by unfold askD; rw [if_neg (by decide +kernel), if_neg (by decide +kernel), if_neg (by decide +kernel), if_neg (by decide +kernel), if_neg (by decide +kernel), if_neg (by decide +kernel), if_neg (by decide +kernel), if_neg (by decide +kernel)]
def asked (fs : List Str) (ds : List Dt) : List (Str × Bool) := (fs.zip ds).map fun p => (p.1, askD p.1 p.2)
theorem wset_asked (d1 d2 d3 d4 d5 d6 d7 : Dt) : wset d1 d2 d3 d4 d5 d6 d7 = asked ordW [d1, d2, d3, d4, d5, d6, d7] := by
  show _ = [(("name" : Str), askD "name" d1), ("restart", askD "restart" d2), ("opening", askD "opening" d3), ("closing", askD "closing" d4), ("deadline", askD "deadline" d5), ("refused", askD "refused" d6), ("script", askD "script" d7)]
  rw [ask_name, ask_restart, ask_opening, ask_closing, ask_deadline, ask_refused, ask_script]
  rfl
theorem sset_asked (d1 d2 d3 d4 d5 d6 : Dt) : sset d1 d2 d3 d4 d5 d6 = asked ordS [d1, d2, d3, d4, d5, d6] := by
  show _ = [(("name" : Str), askD "name" d1), ("restart", askD "restart" d2), ("strategy", askD "strategy" d3), ("most", askD "most" d4), ("span", askD "span" d5), ("deadline", askD "deadline" d6)]
  rw [ask_name, ask_restart, ask_strategy, ask_most, ask_span, ask_deadline]
  rfl
/-- the settings are right but for those of ws -/
def RightBut (ws : List Str) (fs : List Str) (ds : List Dt) : Prop := ∀ (i : Nat) f d, fs[i]? = some f → ds[i]? = some d → askD f d = !ws.contains f
theorem firstBad_asked {ws : List Str} : ∀ {fs : List Str} {ds : List Dt}, fs.length = ds.length → RightBut ws fs ds → firstBad (asked fs ds) = (fs.filter fun f => ws.contains f).head?
  | [], _, _, _ => by
    show firstBad [] = _
    rfl
  | f :: fs, [], l, _ => by simp at l
  | f :: fs, d :: ds, l, h => by
    have z := h 0 f d rfl rfl
    have r := firstBad_asked (ws := ws) (fs := fs) (ds := ds) (by simpa using l) fun i g e h1 h2 => h (i + 1) g e (by simpa using h1) (by simpa using h2)
    show (if askD f d = true then firstBad (asked fs ds) else some f) = _
    rw [z]
    cases c : ws.contains f with
    | true =>
      rw [List.filter_cons_of_pos c]
      rfl
    | false =>
      rw [List.filter_cons_of_neg (by rw [c]; exact Bool.false_ne_true)]
      exact r
/-! ### what is due -/
def kdue (ks : List Kid) : Str × V := match firstKid 0 1 ks with
  | some i => ("child", .int (i : Nat))
  | none => ("made", .non)
def fdue (fs ws : List Str) (ks : List Kid) : Str × V := match (fs.filter fun f => ws.contains f).head? with
  | some y => ("setting", .str y)
  | none => kdue ks
theorem dueS_is {ws : List Str} {d1 d2 d3 d4 d5 d6 : Dt} {ks : List Kid} (h : RightBut ws ordS [d1, d2, d3, d4, d5, d6]) : fdue ordS ws ks = dueS (sset d1 d2 d3 d4 d5 d6) ks := by
  unfold fdue dueS kdue
  rw [sset_asked, firstBad_asked rfl h]
  all_goals rfl
theorem dueW_is {ws : List Str} {d1 d2 d3 d4 d5 d6 d7 : Dt} (h : RightBut ws ordW [d1, d2, d3, d4, d5, d6, d7]) : fdue ordW ws [] = dueW (wset d1 d2 d3 d4 d5 d6 d7) := by
  have z : kdue [] = (("made" : Str), V.non) := by unfold kdue; rw [firstKid]
  unfold fdue dueW
  rw [wset_asked, firstBad_asked rfl h, z]
  all_goals (cases (ordW.filter fun f => ws.contains f).head? <;> rfl)
theorem firstKid_lt {r : List Kid} : ∀ {i m j : Nat}, firstKid i m r = some j → j < i + r.length := by
  induction r with
  | nil => intro i m j h; rw [firstKid] at h; cases h
  | cons a r ih =>
    intro i m j h
    rw [List.length_cons]
    cases a with
    | odd d =>
      rw [firstKid] at h
      split at h <;> (cases h; omega)
    | pn t =>
      rw [firstKid_pn] at h
      split at h
      · cases h; omega
      · split at h
        · cases h; omega
        · split at h
          · cases h; omega
          · have := ih h; omega
/-- of moderate size -/
def Fine (d : PyData) : Prop := d.showable = true ∧ d.depth ≤ 50 ∧ d.shown.length ≤ sizeLine
instance (d : PyData) : Decidable (Fine d) := by unfold Fine; infer_instance
theorem fine_made : Fine (.tuple [.str "made", .none]) := by decide +kernel
theorem fine_set : ∀ y ∈ fieldsAll, Fine (.tuple [.str "setting", .str y]) := by decide +kernel
theorem fine_kid : ∀ i : Nat, i < 13 → Fine (.tuple [.str "child", .int (i : Int)]) := by decide +kernel
theorem lay_field : ∀ y ∈ fieldsAll, PyData.canLay0 (.str y) = true := by decide +kernel
/-- a pair that can be shown -/
def Showy (K : PySem.W.Frag) (p : Str × V) : Prop := ∃ d, (∀ H, Dq K H p.2 d) ∧ Fine (.tuple [.str p.1, d])
theorem showy_due {K : PySem.W.Frag} {x : Str} {fs ws : List Str} {ks : List Kid} (h : KO x fs) (lk : ks.length ≤ 13) : Showy K (fdue fs ws ks) := by
  unfold fdue
  split
  · rename_i y e
    have m : y ∈ fs := by
      have := List.mem_of_head? e
      exact (List.mem_filter.mp this).1
    exact ⟨.str y, fun H => .str y, fine_set y (h.in_ y m)⟩
  · unfold kdue
    split
    · rename_i i e
      have := firstKid_lt e
      exact ⟨.int (i : Int), fun H => .int _, fine_kid i (by omega)⟩
    · exact ⟨.none, fun H => .non, fine_made⟩
/-! ### what stands while the settings are drawn -/
section
variable {K : PySem.W.Frag}
theorem Src.updL {H : Hp} {a c D : Addr} {ns : List Int} {m : Int} {ys zs : List V} (S : Src K H a c ns m) (h : H D = some (.lst ys)) : Src K (upd H D (.lst zs)) a c ns m := by
  have na : a ≠ D := (S.is.ne h fun _ _ _ z => nomatch z).symm
  obtain ⟨⟨n, r, e, q⟩, cs, few⟩ := S
  refine ⟨⟨n, r, by rw [upd_ne na]; exact e, q⟩, ?_, few⟩
  rcases cs with ⟨o, h2⟩ | h2
  · exact .inl ⟨o, by rw [upd_ne (by rintro rfl; rw [h] at h2; cases h2)]; exact h2⟩
  · exact .inr h2
theorem Src.updD {H : Hp} {a c D : Addr} {ns : List Int} {m : Int} {es : List (Key × V)} {o : HO} (S : Src K H a c ns m) (na : D ≠ a) (h : H D = some (.dK es)) : Src K (upd H D o) a c ns m := by
  obtain ⟨⟨n, r, e, q⟩, cs, few⟩ := S
  refine ⟨⟨n, r, by rw [upd_ne na.symm]; exact e, q⟩, ?_, few⟩
  rcases cs with ⟨o, h2⟩ | h2
  · exact .inl ⟨o, by rw [upd_ne (by rintro rfl; rw [h] at h2; cases h2)]; exact h2⟩
  · exact .inr h2
structure Lp (K : PySem.W.Frag) (G : Hp) (a c ol wl dv : Addr) (ns : List Int) (m : Int) (fs ws : List Str) (j : Nat) (vs : List V) (ds : List Dt) : Prop where
  ed : G dv = some (.dK (ents (fs.take j) vs))
  lv : vs.length = j
  dd : DdAll K (hide (some dv) G) vs ds
  rb : RightBut ws fs ds
  src : Src K G a c ns (m + j)
  eo : G ol = some (.lst (fs.map V.str))
  ew : G wl = some (.lst (ws.map V.str))
theorem ents_len {fs : List Str} {vs : List V} : (ents fs vs).length ≤ vs.length := by
  unfold ents
  rw [List.length_map, List.length_zip]
  omega
theorem Lp.put {G G2 : Hp} {a c ol wl dv : Addr} {ns : List Int} {m : Int} {fs ws : List Str} {j : Nat} {vs : List V} {ds : List Dt} (L : Lp K G a c ol wl dv ns m fs ws j vs ds) (na : dv ≠ a) (nd : fs.Nodup) (few : fs.length ≤ 7) {f : Str} (e : fs[j]? = some f) {v : V} {d : Dt}
    (s : But a G G2) (S2 : Src K G2 a c ns (m + (j + 1 : Nat))) (hv : Dd K (hide (some dv) G2) v d) (ha : askD f d = !ws.contains f) :
    DPut G2 dv (.str f) v (upd G2 dv (.dK (ents (fs.take (j + 1)) (vs ++ [v])))) ∧ Lp K (upd G2 dv (.dK (ents (fs.take (j + 1)) (vs ++ [v])))) a c ol wl dv ns m fs ws (j + 1) (vs ++ [v]) (ds ++ [d]) := by
  have lt := (List.getElem?_eq_some_iff.mp e).1
  have ed2 := s _ _ L.ed na
  have eo2 := s _ _ L.eo (L.src.is.ne L.eo fun _ _ _ z => nomatch z)
  have ew2 := s _ _ L.ew (L.src.is.ne L.ew fun _ _ _ z => nomatch z)
  have ld : vs.length = ds.length := L.dd.len
  refine ⟨?_, upd_same, by rw [List.length_append, L.lv]; rfl, ((DdAll_but (hide_but s) (hide_src L.src.is na) L.dd).app (.cons hv .nil)).same hide_upd, fun i g u h1 h2 => ?_, S2.updD na ed2, ?_, ?_⟩
  · have y := DPut.k (k := Sum.inr f) (v := v) ed2 (small1000 (Nat.le_trans ents_len (by rw [L.lv]; omega)))
    rw [ents_put nd L.lv e] at y
    exact y
  · rcases Nat.lt_or_ge i ds.length with hi | hi
    · rw [List.getElem?_append_left hi] at h2
      exact L.rb i g u h1 h2
    · rw [List.getElem?_append_right hi] at h2
      have iz : i - ds.length = 0 := by
        cases q : i - ds.length with
        | zero => rfl
        | succ n => rw [q] at h2; simp at h2
      rw [iz] at h2
      have ij : i = j := by have := L.lv; omega
      subst ij
      rw [e] at h1
      cases h1
      simp at h2
      subst h2
      exact ha
  · rw [upd_ne (ne_of eo2 ed2 fun z => nomatch z)]; exact eo2
  · rw [upd_ne (ne_of ew2 ed2 fun z => nomatch z)]; exact ew2
/-- behind the children -/
structure Ks (K : PySem.W.Frag) (G : Hp) (a c ol wl dv l : Addr) (ns : List Int) (m : Int) (x : Str) (fs ws : List Str) (vs : List V) (ds : List Dt) (xs : List V) (ks : List Kid) : Prop where
  ed : G dv = some (.dK (ents fs vs))
  dd : DdAll K G vs ds
  rb : RightBut ws fs ds
  src : Src K G a c ns m
  eo : G ol = some (.lst (fs.map V.str))
  ew : G wl = some (.lst (ws.map V.str))
  el : G l = some (.lst xs)
  kids : KidAll K G xs ks
  lx : xs.length ≤ 13
  k0 : x = "w" → ks = []
  lv : vs.length = fs.length
theorem Ks.same {G G2 : Hp} {a c ol wl dv l : Addr} {ns : List Int} {m : Int} {x : Str} {fs ws : List Str} {vs : List V} {ds : List Dt} {xs : List V} {ks : List Kid} (Z : Ks K G a c ol wl dv l ns m x fs ws vs ds xs ks) (s : Same G G2) : Ks K G2 a c ol wl dv l ns m x fs ws vs ds xs ks :=
  ⟨s _ _ Z.ed, Z.dd.same s, Z.rb, Z.src.same s, s _ _ Z.eo, s _ _ Z.ew, s _ _ Z.el, Z.kids.same s, Z.lx, Z.k0, Z.lv⟩
theorem dd_cons {H : Hp} {n : Nat} {vs : List V} {ds : List Dt} (h : DdAll K H vs ds) (l : vs.length = n + 1) : ∃ v vs' d ds', vs = v :: vs' ∧ ds = d :: ds' ∧ Dd K H v d ∧ DdAll K H vs' ds' ∧ vs'.length = n := by
  cases h with
  | nil => simp at l
  | cons h t => exact ⟨_, _, _, _, rfl, rfl, h, t, by simpa using l⟩
theorem dd_nil {H : Hp} {vs : List V} {ds : List Dt} (h : DdAll K H vs ds) (l : vs.length = 0) : vs = [] ∧ ds = [] := by
  cases h with
  | nil => exact ⟨rfl, rfl⟩
  | cons h t => simp at l
theorem Ks.told {G : Hp} {a c ol wl dv l : Addr} {ns : List Int} {m : Int} {x : Str} {fs ws : List Str} {vs : List V} {ds : List Dt} {xs : List V} {ks : List Kid} (Z : Ks K G a c ol wl dv l ns m x fs ws vs ds xs ks) (ko : KO x fs) :
    ∃ v1 v2 v5 d1 d2 d5, val (ents fs vs) "name" v1 ∧ val (ents fs vs) "restart" v2 ∧ val (ents fs vs) "deadline" v5 ∧ Dd K G v1 d1 ∧ Dd K G v2 d2 ∧ Dd K G v5 d5 ∧
      ((x = "s" ∧ ∃ v3 v4 v6 d3 d4 d6, val (ents fs vs) "strategy" v3 ∧ val (ents fs vs) "most" v4 ∧ val (ents fs vs) "span" v6 ∧ Dd K G v3 d3 ∧ Dd K G v4 d4 ∧ Dd K G v6 d6 ∧ fdue fs ws ks = dueS (sset d1 d2 d3 d4 d6 d5) ks) ∨
       (x = "w" ∧ ∃ v3 v4 v6 v7 d3 d4 d6 d7, val (ents fs vs) "opening" v3 ∧ val (ents fs vs) "closing" v4 ∧ val (ents fs vs) "refused" v6 ∧ val (ents fs vs) "script" v7 ∧ Dd K G v3 d3 ∧ Dd K G v4 d4 ∧ Dd K G v6 d6 ∧ Dd K G v7 d7 ∧ fdue fs ws ks = dueW (wset d1 d2 d3 d4 d5 d6 d7))) := by
  have lv := Z.lv
  have rb := Z.rb
  have k0 := Z.k0
  rcases ko with ⟨rfl, rfl⟩ | ⟨rfl, rfl⟩
  · obtain ⟨v1, vs, d1, ds, rfl, rfl, h1, t, lv⟩ := dd_cons (n := 6) Z.dd lv
    obtain ⟨v2, vs, d2, ds, rfl, rfl, h2, t, lv⟩ := dd_cons (n := 5) t lv
    obtain ⟨v3, vs, d3, ds, rfl, rfl, h3, t, lv⟩ := dd_cons (n := 4) t lv
    obtain ⟨v4, vs, d4, ds, rfl, rfl, h4, t, lv⟩ := dd_cons (n := 3) t lv
    obtain ⟨v5, vs, d5, ds, rfl, rfl, h5, t, lv⟩ := dd_cons (n := 2) t lv
    obtain ⟨v6, vs, d6, ds, rfl, rfl, h6, t, lv⟩ := dd_cons (n := 1) t lv
    obtain ⟨v7, vs, d7, ds, rfl, rfl, h7, t, lv⟩ := dd_cons (n := 0) t lv
    obtain ⟨rfl, rfl⟩ := dd_nil t lv
    refine ⟨v1, v2, v5, d1, d2, d5, (by unfold val; kernel_rfl), (by unfold val; kernel_rfl), (by unfold val; kernel_rfl), h1, h2, h5, .inr ⟨rfl, v3, v4, v6, v7, d3, d4, d6, d7, (by unfold val; kernel_rfl), (by unfold val; kernel_rfl), (by unfold val; kernel_rfl), (by unfold val; kernel_rfl), h3, h4, h6, h7, ?_⟩⟩
    rw [k0 rfl]
    exact dueW_is rb
  · obtain ⟨v1, vs, d1, ds, rfl, rfl, h1, t, lv⟩ := dd_cons (n := 5) Z.dd lv
    obtain ⟨v2, vs, d2, ds, rfl, rfl, h2, t, lv⟩ := dd_cons (n := 4) t lv
    obtain ⟨v3, vs, d3, ds, rfl, rfl, h3, t, lv⟩ := dd_cons (n := 3) t lv
    obtain ⟨v4, vs, d4, ds, rfl, rfl, h4, t, lv⟩ := dd_cons (n := 2) t lv
    obtain ⟨v6, vs, d6, ds, rfl, rfl, h6, t, lv⟩ := dd_cons (n := 1) t lv
    obtain ⟨v5, vs, d5, ds, rfl, rfl, h5, t, lv⟩ := dd_cons (n := 0) t lv
    obtain ⟨rfl, rfl⟩ := dd_nil t lv
    exact ⟨v1, v2, v5, d1, d2, d5, (by unfold val; kernel_rfl), (by unfold val; kernel_rfl), (by unfold val; kernel_rfl), h1, h2, h5, .inl ⟨rfl, v3, v4, v6, d3, d4, d6, (by unfold val; kernel_rfl), (by unfold val; kernel_rfl), (by unfold val; kernel_rfl), h3, h4, h6, dueS_is rb⟩⟩
theorem inV_mem {f : Str} {ws : List Str} : inV (.str f) (ws.map V.str) = ws.contains f := inV_str f ws
end
end K02
/-! the law -/
namespace K02
open PySem PySem.Spec PyProof.Rows L2
section
variable {P : Program} {w : World} {K : PySem.W.Frag} {mg : Str → Option Value} {base : Heap}
abbrev s_law : Stmt := (top 79)
def N_law : List Str := ["cells", "m", "turn", "kind", "order", "wrong", "v", "field", "c", "bad", "due", "first", "k"]
theorem sc_law : FnScope N_law ["cells"] (defScope s_law) := ⟨rfl, rfl, rfl, by decide +kernel, rfl, by decide +kernel, by decide +kernel⟩
def spLaw (K : PySem.W.Frag) : Sp := fun vs H Q _ => ∃ (c : Addr) (ns : List Int), vs = [.ref c] ∧ ScrL K H c (ns.map V.int) ∧ ns.length ≤ 63 ∧ ∀ H', Q (.bl true) H'
theorem ok_law (F : Has K mg "law" s_law) (T : Txt K mg) (sy : sysOk K = true) (F_law_begun : FnQ P w K mg base CX0 1 "_law_begun" ["cells"] (spBegun K)) (F_law_next : FnQ P w K mg base CX0 1 "_law_next" ["m", "total"] (spNext K)) (F_law_of : FnQ P w K mg base CX0 2 "_law_of" ["m", "items"] (spOf K))
    (F_law_odd : FnQ P w K mg base CX0 14 "_law_odd" ["field"] (spOdd K)) (F_law_good : FnQ P w K mg base CX0 3 "_law_good" ["m", "field"] (spGoodL K)) (F_law_children : FnQ P w K mg base CX0 31 "_law_children" ["m", "many"] (spChildren K)) (F_law_told : FnQ P w K mg base CX0 31 "_law_told" ["kind", "v", "c"] (spTold K))
    (F_law_fields_right : FnQ P w K mg base CX0 2 "_law_fields_right" ["field", "number_now"] (spFieldsR K)) : FnP P w K mg base CX0 32 "law" ["cells"] (spLaw K) := by
  refine F.g sc_law (fun _ _ _ _ _ _ us hl => match us, hl with | [_], _ => rfl) (fun vs H Q E h => by obtain ⟨_, _, rfl, _⟩ := h; rfl) (fun cdv A outer s H vs Q E gA hr h => ?_)
  obtain ⟨c, ns, rfl, hc, few, k⟩ := h
  have gL : mg "len" = none := T.fr _ (by simp [frees])
  refine ⟨_, PSs.nox (pss_cons (ps_set (i := 1) sc_law.nd rfl (by first | exact .inl rfl | exact .inr rfl) (pe_f F_law_begun hr pass0 (pa_cons (pv 0) pa_nil)))
  (pss_cons (ps_for PassesOwn.never rfl (pi_range1 (by rfl) (T.fr "range" (by simp [frees])) (pa_cons (pe_op op_add pe_int (pe_callB (call_min2 rfl) (by rfl) (T.fr "min" (by simp [frees])) boot_min (pa_cons pe_int (pa_cons (pe_callB call_len_seq (by rfl) gL boot_len (pa_cons (pv 0) pa_nil)) pa_nil)))) pa_nil)) (pg_name (i := 2) sc_law.nd rfl (by first | exact .inl rfl | exact .inr rfl))
  (pss_cons (ps_set (i := 3) sc_law.nd rfl (by first | exact .inl rfl | exact .inr rfl) (pe_f F_law_of hr pass0 (pa_cons (pv 1) (pa_cons (pe_lstM (pa_cons pe_str (pa_cons pe_str pa_nil))) pa_nil))))
  (pss_cons (ps_set (i := 4) sc_law.nd rfl (by first | exact .inl rfl | exact .inr rfl) (pe_lstM (pa_cons pe_str (pa_cons pe_str (pa_cons pe_str (pa_cons pe_str (pa_cons pe_str (pa_cons pe_str (pa_cons pe_str pa_nil)))))))))
  (C8.pss_cut (ps_if (pt_cmpR op_eq (pv 3) pe_str (by first | exact nomark _ | rfl))
  (pss_one (ps_set (i := 4) sc_law.nd rfl (by first | exact .inl rfl | exact .inr rfl) (pe_lstM (pa_cons pe_str (pa_cons pe_str (pa_cons pe_str (pa_cons pe_str (pa_cons pe_str (pa_cons pe_str pa_nil)))))))))
  pss_nil)
  (pss_cons (ps_set (i := 5) sc_law.nd rfl (.inr rfl) (pe_lc (own := [("k", 12)]) (tt := tYes) rfl sc_law.nd (pi_range1 (by rfl) (T.fr "range" (by simp [frees])) (pa_cons (pe_f F_law_next hr pass0 (pa_cons (pv 1) (pa_cons pe_int pa_nil))) pa_nil)) (blkOk_by (N := N_law) (sc := defScope s_law) (by decide +kernel)) (fun _ _ _ _ _ => (pg_name (i := 12) sc_law.nd rfl (by first | exact .inl rfl | exact .inr rfl))) (fun _ _ _ _ _ => pts_nil) (fun _ _ _ _ _ => (pe_f F_law_of hr pass0 (pa_cons (pv 1) (pa_cons (pv 4) pa_nil))))))
  (pss_cons (ps_set (i := 6) sc_law.nd rfl (by first | exact .inl rfl | exact .inr rfl) pe_dnewM)
  (pss_cons (ps_for PassesOwn.never rfl (pi_list (pv 4)) (pg_name (i := 7) sc_law.nd rfl (by first | exact .inl rfl | exact .inr rfl))
  (pss_one (ps_dput (hu_of hr) (pv 6) (pv 7) (pe_ifExp (pt_cmpR op_in_seq (pv 7) (pv 5) (by first | exact nomark _ | rfl)) (pe_f F_law_of hr pass0 (pa_cons (pv 1) (pa_cons (pe_f F_law_odd hr pass0 (pa_cons (pv 7) pa_nil)) pa_nil))) (pe_f F_law_good hr pass0 (pa_cons (pv 1) (pa_cons (pv 7) pa_nil)))) rfl)))
  (C8.pss_cut (ps_asg (pe_f F_law_children hr pass0 (pa_cons (pv 1) (pa_cons (pe_ifExp (pt_cmpR op_eq (pv 3) pe_str (by first | exact nomark _ | rfl)) (pe_f F_law_of hr pass0 (pa_cons (pv 1) (pa_cons (pe_lstM (pa_cons pe_int (pa_cons pe_int (pa_cons pe_int (pa_cons pe_int (pa_cons pe_int (pa_cons pe_int pa_nil))))))) pa_nil))) pe_int) pa_nil))) (pg_tup rfl (pgs_cons (pg_name (i := 8) sc_law.nd rfl (by first | exact .inl rfl | exact .inr rfl)) (pgs_cons (pg_name (i := 9) sc_law.nd rfl (by first | exact .inl rfl | exact .inr rfl)) pgs_nil))))
  (C8.pss_cut (ps_set (i := 10) sc_law.nd rfl (by first | exact .inl rfl | exact .inr rfl) (pe_ifExp (pt_cmpR op_notN (pv 9) pe_non (by first | exact nomark _ | rfl)) (pe_tupM (pa_cons pe_str (pa_cons (pv 9) pa_nil))) (pe_tupM (pa_cons pe_str (pa_cons pe_non pa_nil)))))
  (pss_cons (ps_setLc (i := 11) (own := [("field", 7)]) rfl sc_law.nd rfl rfl (sw_true rfl rfl rfl (by decide +kernel)) (pi_list (pv 4)) (blkOk_by (N := N_law) (sc := defScope s_law) (by decide +kernel)) (fun _ _ _ _ _ => (pg_name (i := 7) sc_law.nd rfl (by first | exact .inl rfl | exact .inr rfl))) (fun _ _ _ _ _ => (pts_one (pt_cmpR (op_inK K) (pv 7) (pv 5) (by first | exact nomark _ | rfl)))) (fun _ _ _ _ _ => (pv 7)))
  (C8.pss_cut (ps_if (pt_cmpR (op_neNil hr.units) (pv 11) (pe_lstM pa_nil) (by first | exact nomark _ | rfl))
  (pss_one (ps_set (i := 10) sc_law.nd rfl (by first | exact .inl rfl | exact .inr rfl) (pe_tupM (pa_cons pe_str (pa_cons (pe_ix ix_list (pv 11) pe_int (fun _ _ => rfl)) pa_nil)))))
  pss_nil)
  (pss_one (ps_if (pw_or (pt_cmpR op_ne (pe_callB (call_reprD sy gA hr) (by rfl) (T.fr "repr" (by simp [frees])) PyProof.Rows.boot_repr (pa_cons (pe_f F_law_told hr pass0 (pa_cons (pv 3) (pa_cons (pv 6) (pa_cons (pv 8) pa_nil)))) pa_nil)) (pe_callB (call_reprD sy gA hr) (by rfl) (T.fr "repr" (by simp [frees])) PyProof.Rows.boot_repr (pa_cons (pv 10) pa_nil)) (by first | exact nomark _ | rfl)) (pw_or1 (pt_not (pt_val (pe_f F_law_fields_right hr pass0 (pa_cons (pe_f F_law_of hr pass0 (pa_cons (pv 1) (pa_cons (pv 4) pa_nil))) (pa_cons (pv 2) pa_nil))))))).pt
  (pss_one (ps_ret pe_bl))
  pss_nil)))))))))))))
  (pss_one (ps_ret pe_bl)))), ?_⟩
  refine ⟨_, rfl, c, ns, rfl, hc, few, fun a H1 s1 S1 _ => ?_⟩
  have c1 : SqL K H1 c (ns.map V.int) := S1.cs.seq
  have nn : (8 + (if ((ns.map V.int).length : Int) < 8 then ((ns.map V.int).length : Int) else 8)) = ((8 + min 8 ns.length : Nat) : Int) := by
    rw [List.length_map]
    split <;> omega
  refine ⟨_, rfl, c, _, rfl, .inl c1, _, _, rfl, _, _, rfl, rfl, ((8 + min 8 ns.length : Nat) : Int), congrArg (fun z => [V.int z]) nn, by omega, by omega, for_range (n := 8 + min 8 ns.length) (fun i σ G => (∃ v2 v3 v4 v5 v6 v7 v8 v9 v10 v11, σ = [some (.ref c), some (.ref a), v2, v3, v4, v5, v6, v7, v8, v9, v10, v11, none]) ∧ Src K G a c ns (100 * i)) ⟨⟨none, none, none, none, none, none, none, none, none, none, rfl⟩, S1.more (by omega)⟩ ?_ ?_⟩
  · rintro i σ G0 hi ⟨⟨v2, v3, v4, v5, v6, v7, v8, v9, v10, v11, rfl⟩, S0⟩
    have i16 : i < 16 := by omega
    -- the kind
    refine ⟨_, rfl, (by show 2 ≤ sizeLine; decide), fun p1 G1 s1 n1 e1 => ?_⟩
    have S1 := S0.same s1
    refine ⟨a, c, p1, ns, _, _, rfl, S1, by omega, e1, S1.is.ne e1 (fun _ _ _ z => nomatch z), (by show 0 < 2; decide), (by show 2 ≤ 1000; decide), fun j1 v G2 ej S2 b2 => ?_⟩
    obtain ⟨x, rfl, hx⟩ : ∃ x : Str, v = .str x ∧ (x = "w" ∨ x = "s") := by
      rcases get2 ej with rfl | rfl
      · exact ⟨_, rfl, .inl rfl⟩
      · exact ⟨_, rfl, .inr rfl⟩
    clear ej b2
    -- the order
    refine ⟨(by show 7 ≤ sizeLine; decide), fun o1 G3 s3 n3 e3 => ?_⟩
    have S3 := S2.same s3
    refine ⟨fun σ G => ∃ (fs : List Str) (ol : Addr), σ = [some (.ref c), some (.ref a), some (.int (0 + (i : Int))), some (.str x), some (.ref ol), v5, v6, v7, v8, v9, v10, v11, none] ∧ KO x fs ∧ G ol = some (.lst (fs.map V.str)) ∧ Src K G a c ns (100 * i + 1), ?_, ?_⟩
    · refine ⟨_, rfl, rfl, _, rfl, ?_⟩
      rcases hx with rfl | rfl
      · exact if_no (by decide +kernel) ⟨ordW, o1, rfl, .inl ⟨rfl, rfl⟩, e3, S3⟩
      · exact if_yes (by decide +kernel) ⟨(by show 6 ≤ sizeLine; decide), fun o2 G4 s4 n4 e4 => ⟨ordS, o2, rfl, .inr ⟨rfl, rfl⟩, e4, S3.same s4⟩⟩
    clear S1 S2 S3 s1 s3 n1 n3 e1 e3 hx
    rintro σ G4 ⟨fs, ol, rfl, ko, eo, S4⟩
    have fpos := ko.pos
    have lm : (fs.map V.str).length = fs.length := List.length_map ..
    -- the wrong ones
    refine ⟨_, rfl, a, c, ns, _, 4, rfl, S4, by omega, by decide, by decide, fun nw G5 lnw S5 b5 => ⟨nw, rfl, by omega, by omega, fun D nD => ?_⟩⟩
    have eo5 := b5 _ _ eo (S4.is.ne eo fun _ _ _ z => nomatch z)
    refine lc_it walk_range (n := nw) (fun j H' => ∃ ws : List Str, H' D = some (.lst (ws.map V.str)) ∧ ws.length = j ∧ (∀ y ∈ ws, y ∈ fs) ∧ Src K H' a c ns (100 * i + 2 + j) ∧ H' ol = some (.lst (fs.map V.str)))
      ⟨[], upd_same, rfl, (fun y hy => by cases hy), (S5.same (Same.new nD)).more (by omega), Same.new nD _ _ eo5⟩ (fun _ _ _ _ => trivial) ?_ ?_
    · rintro j v H6 H7 lj ⟨ws, eD, lw, hw, S6, eo6⟩ ⟨rfl, rfl⟩
      refine ⟨rfl, _, rfl, _, rfl, a, c, ol, ns, _, _, rfl, S6, by omega, eo6, S6.is.ne eo6 (fun _ _ _ z => nomatch z), by rw [lm]; exact fpos.1, by rw [lm]; omega, fun j8 v H8 ej S8 b8 => ?_⟩
      obtain ⟨y, hy, rfl⟩ := List.mem_map.mp (List.mem_of_getElem? ej)
      have eD8 := b8 _ _ eD (S6.is.ne eD fun _ _ _ z => nomatch z)
      have eo8 := b8 _ _ eo6 (S6.is.ne eo6 fun _ _ _ z => nomatch z)
      have no : ol ≠ D := fun z => by rw [z] at eo5; rw [eo5] at nD; cases nD
      refine ⟨_, eD8, Nat.lt_of_le_of_lt (show (ws.map V.str).length ≤ 4 by rw [List.length_map]; omega) (by decide), ws ++ [y], by rw [upd_same, List.map_append]; rfl, by simp [lw], fun z hz => ?_, (S8.updL eD8).more (by omega), by rw [upd_ne no]; exact eo8⟩
      rcases List.mem_append.mp hz with h | h
      · exact hw z h
      · rw [List.mem_singleton.mp h]; exact hy
    rintro G6 ⟨ws, ew, lw, hw, S6, eo6⟩
    clear S4 S5 b5 eo eo5 nD
    -- the settings
    refine fun dv G7 s7 n7 ed => ?_
    have S7 := S6.same s7
    have dva : dv ≠ a := fun z => by
      obtain ⟨c0, n0, r0, e⟩ := S6.is
      rw [z, e] at n7
      cases n7
    refine ⟨_, rfl, ol, rfl, ⟨_, SqL.of (s7 _ _ eo6)⟩, for_list (K := K) (a := ol) (xs := fs.map V.str) (fun j σ G => ∃ (f7 : Option V) (vs : List V) (ds : List Dt), σ = [some (.ref c), some (.ref a), some (.int (0 + (i : Int))), some (.str x), some (.ref ol), some (.ref D), some (.ref dv), f7, v8, v9, v10, v11, none] ∧ Lp K G a c ol D dv ns (100 * i + 6) fs ws j vs ds)
      ⟨v7, [], [], rfl, ed, rfl, .nil, (fun _ _ _ _ e => by simp at e), S7.more (by omega), s7 _ _ eo6, s7 _ _ ew⟩ (fun j σ G _ h => by obtain ⟨_, _, _, _, L⟩ := h; exact SqL.of L.eo) ?_ ?_⟩
    · rintro j v σ G hv ⟨f7, vs, ds, rfl, L⟩
      rw [List.getElem?_map] at hv
      obtain ⟨f, ef, rfl⟩ := Option.map_eq_some_iff.mp hv
      have jlt := (List.getElem?_eq_some_iff.mp ef).1
      have fin := ko.in_ f (List.mem_of_getElem? ef)
      have nes : j ≠ 0 → ents (fs.take j) vs ≠ [] := fun h z => by
        have q : (ents (fs.take j) vs).length = 0 := by rw [z]; rfl
        unfold ents at q
        rw [List.length_map, List.length_zip, List.length_take, L.lv] at q
        omega
      refine ⟨_, rfl, _, rfl, D, _, rfl, .inl (SqL.of L.ew), rfl, (by simp [flatV]), _, rfl, ?_⟩
      rw [inV_mem]
      cases cw : ws.contains f with
      | true =>
        obtain ⟨l0, st, orr, conv⟩ : ∃ l0, Stands l0 G ∧ (l0 = none ∨ f = "name") ∧ ∀ H' v d, Same G H' → Dd K (hide l0 H') v d → Dd K (hide (some dv) H') v d := by
          by_cases j0 : j = 0
          · exact ⟨some dv, (fun b e => by cases e; exact ⟨_, L.ed⟩), .inr ((ko.first ef).mpr j0), fun _ _ _ _ h => h⟩
          · exact ⟨none, (fun b e => nomatch e), .inl rfl, fun H' v d s h => Dd_hide (s _ _ L.ed) (nes j0) (by rw [hide_none] at h; exact h)⟩
        refine if_yes rfl ⟨_, rfl, _, rfl, f, l0, rfl, fin, st, orr, fun lo G2 xs es s2 n2 e2 D2 bad lp lf => ?_⟩
        have L2' := L.src.same s2
        have lx := D2.len
        refine ⟨a, c, lo, ns, _, xs, rfl, L2', by omega, e2, L2'.is.ne e2 (fun _ _ _ z => nomatch z), by omega, by omega, fun jj v G3 ejj S3 b3 => ?_⟩
        obtain ⟨d, edd, hd⟩ := D2.get ejj
        have hd3 := Dd_but (hide_but b3) (hide_src L2'.is dva) (conv _ _ _ s2 hd)
        have b : But a G G3 := fun b o e n => b3 b o (s2 b o e) n
        obtain ⟨dp, Ln⟩ := L.put dva ko.nd fpos.2 ef b (S3.more (by omega)) hd3 (by rw [cw]; exact bad d (List.mem_of_getElem? edd))
        exact ⟨_, rfl, _, rfl, dv, _, rfl, dp, _, _, _, rfl, Ln⟩
      | false =>
        refine if_no rfl ⟨_, rfl, _, rfl, a, c, ns, _, f, rfl, L.src, by omega, fin, fun v d G3 hd ok _ S3 b3 => ?_⟩
        have hd3 : Dd K (hide (some dv) G3) v d := by
          by_cases j0 : j = 0
          · have fn := (ko.first ef).mpr j0
            subst fn
            rw [ask_name] at ok
            cases d with
            | str y => cases hd with | str y h => exact .str y h
            | _ => cases ok
          · exact Dd_hide (b3 _ _ L.ed dva) (nes j0) hd
        obtain ⟨dp, Ln⟩ := L.put dva ko.nd fpos.2 ef b3 (S3.more (by omega)) hd3 (by rw [cw]; exact ok)
        exact ⟨_, rfl, _, rfl, dv, _, rfl, dp, _, _, _, rfl, Ln⟩
    rintro σ G8 ⟨f7, vs, ds, rfl, L⟩
    rw [lm] at L
    have ed8 := L.ed
    rw [List.take_length] at ed8
    have dd8 : DdAll K G8 vs ds := L.dd.same (hide_sub _ _)
    -- the children
    refine ⟨fun σ G => ∃ (l : Addr) (xs : List V) (ks : List Kid) (bad : V), σ = [some (.ref c), some (.ref a), some (.int (0 + (i : Int))), some (.str x), some (.ref ol), some (.ref D), some (.ref dv), f7, some (.ref l), some bad, v10, v11, none] ∧ Ks K G a c ol D dv l ns (100 * i + 80) x fs ws vs ds xs ks ∧ bad = match firstKid 0 1 ks with
      | some i => .int (i : Nat)
      | none => .non, ?_, ?_⟩
    · have go : ∀ {G9 : Hp} {n : Nat} {R : VK}, But a G8 G9 → Src K G9 a c ns (100 * i + 14) → n ≤ 13 → (x = "w" → n = 0) → (∀ t l xs ks v H', H' t = some (.tup [.ref l, v]) → Ks K H' a c ol D dv l ns (100 * i + 80) x fs ws vs ds xs ks → (v = match firstKid 0 1 ks with | some i => .int (i : Nat) | none => .non) → R (.ref t) H') → spChildren K [.ref a, .int (n : Nat)] G9 R E0 := by
        intro G9 n R b9 S9 hn hw0 kk
        refine ⟨a, c, ns, _, n, rfl, S9, by omega, hn, fun t l xs ks v H' et el lx hk ev S' b' => kk t l xs ks v H' et ?_ ev⟩
        have b := b9.trans b'
        have is := L.src.is
        refine ⟨b _ _ ed8 dva, DdAll_but b is dd8, L.rb, S'.more (by omega), b _ _ L.eo (is.ne L.eo fun _ _ _ z => nomatch z), b _ _ L.ew (is.ne L.ew fun _ _ _ z => nomatch z), el, hk, by omega, fun hxw => ?_, L.lv⟩
        have := hk.len
        rw [lx, hw0 hxw] at this
        exact List.length_eq_zero_iff.mp this.symm
      refine ⟨_, rfl, _, rfl, rfl, _, rfl, ?_⟩
      rcases ko with ⟨hxw, _⟩ | ⟨hxs, _⟩
      · refine if_no (by rw [hxw]; decide +kernel) ?_
        dsimp only [tC, tNil]
        exact go (n := 0) (But.refl a G8) (L.src.more (by omega)) (by decide) (fun _ => rfl) fun t l xs ks v H' et Z ev => ⟨t, _, rfl, SqT.of et, rfl, _, _, rfl, _, _, rfl, rfl, l, xs, ks, v, rfl, Z, ev⟩
      · refine if_yes (by rw [hxs]; decide +kernel) ?_
        refine ⟨_, rfl, (by show 6 ≤ sizeLine; decide), fun pn G9 s9 _ e9 => ?_⟩
        have S9 := L.src.same s9
        refine ⟨a, c, pn, ns, _, _, rfl, S9, by omega, e9, S9.is.ne e9 (fun _ _ _ z => nomatch z), (by show 0 < 6; decide), (by show 6 ≤ 1000; decide), fun jj v G10 ejj S10 b10 => ?_⟩
        obtain ⟨n, rfl, hn⟩ : ∃ n : Nat, v = .int (n : Nat) ∧ n ≤ 13 := by
          have m := List.mem_of_getElem? ejj
          simp only [List.mem_cons, List.not_mem_nil, or_false] at m
          rcases m with rfl | rfl | rfl | rfl | rfl | rfl
          · exact ⟨0, rfl, by decide⟩
          · exact ⟨1, rfl, by decide⟩
          · exact ⟨2, rfl, by decide⟩
          · exact ⟨3, rfl, by decide⟩
          · exact ⟨12, rfl, by decide⟩
          · exact ⟨13, rfl, by decide⟩
        have nw : x ≠ "w" := by rw [hxs]; decide +kernel
        dsimp only [tNil]
        exact go (n := n) (((But.refl a G8).same s9).trans b10) (S10.more (by omega)) hn (fun z => absurd z nw) fun t l xs ks v H' et Z ev => ⟨t, _, rfl, SqT.of et, rfl, _, _, rfl, _, _, rfl, rfl, l, xs, ks, v, rfl, Z, ev⟩
    rintro σ G9 ⟨l, xs, ks, bad, rfl, Z, hbad⟩
    clear L ed8 dd8 S6 eo6 ew
    -- what is due for them
    refine ⟨fun σ G => ∃ dp : Addr, σ = [some (.ref c), some (.ref a), some (.int (0 + (i : Int))), some (.str x), some (.ref ol), some (.ref D), some (.ref dv), f7, some (.ref l), some bad, some (.ref dp), v11, none] ∧ Ks K G a c ol D dv l ns (100 * i + 80) x fs ws vs ds xs ks ∧ G dp = some (.tup [.str (kdue ks).1, (kdue ks).2]), ?_, ?_⟩
    · refine ⟨_, rfl, rfl, _, rfl, ?_⟩
      subst hbad
      cases fk : firstKid 0 1 ks with
      | some j =>
        refine if_yes (by rfl) ⟨_, rfl, (by show 2 ≤ sizeLine; decide), fun dp G10 s10 _ e10 => ⟨dp, rfl, Z.same s10, ?_⟩⟩
        rw [e10]
        unfold kdue
        rw [fk]
      | none =>
        refine if_no (by rfl) ⟨(by show 2 ≤ sizeLine; decide), fun dp G10 s10 _ e10 => ⟨dp, rfl, Z.same s10, ?_⟩⟩
        rw [e10]
        unfold kdue
        rw [fk]
    clear hbad Z
    rintro σ G10 ⟨dp, rfl, Z, edp⟩
    -- the first wrong one
    refine ⟨_, rfl, ol, rfl, ⟨_, SqL.of Z.eo⟩, fun D2 nD2 => ?_⟩
    refine lc_it walk_list (fun j G => Same G10 G ∧ G D2 = some (.lst ((((fs.take j).filter fun f => ws.contains f)).map V.str))) ⟨Same.new nD2, upd_same⟩ (fun j G _ h => SqL.of (h.1 _ _ Z.eo)) ?_ ?_
    · rintro j v G11 G12 lj ⟨s11, eD2⟩ ⟨rfl, ev⟩
      rw [List.getElem?_map] at ev
      obtain ⟨f, ef, rfl⟩ := Option.map_eq_some_iff.mp ev
      refine ⟨rfl, _, rfl, _, rfl, D, _, rfl, .inl (SqL.of (s11 _ _ Z.ew)), rfl, (by simp [flatV]), _, rfl, ?_⟩
      rw [inV_mem]
      have tk : fs.take (j + 1) = fs.take j ++ [f] := by rw [List.take_succ, ef]; rfl
      cases cw : ws.contains f with
      | true =>
        refine if_yes rfl ⟨_, rfl, _, eD2, ?_, ?_, ?_⟩
        · refine Nat.lt_of_le_of_lt (show (((fs.take j).filter fun f => ws.contains f).map V.str).length ≤ 7 from ?_) (by decide)
          rw [List.length_map]
          exact Nat.le_trans (List.length_filter_le _ _) (by rw [List.length_take]; omega)
        · exact fun b2 o e => by rw [upd_ne (ne_of_none e nD2)]; exact s11 _ _ e
        · rw [upd_same, tk, List.filter_append, List.map_append, List.filter_cons_of_pos (by exact cw), List.filter_nil]
          rfl
      | false =>
        refine if_no rfl ⟨s11, ?_⟩
        rw [tk, List.filter_append, List.filter_cons_of_neg (by rw [cw]; exact Bool.false_ne_true), List.filter_nil, List.append_nil]
        exact eD2
    rintro G11 ⟨s11, eD2⟩
    rw [lm, List.take_length] at eD2
    have Z := Z.same s11
    have edp := s11 _ _ edp
    -- what is due
    refine ⟨fun σ G => ∃ dq : Addr, σ = [some (.ref c), some (.ref a), some (.int (0 + (i : Int))), some (.str x), some (.ref ol), some (.ref D), some (.ref dv), f7, some (.ref l), some bad, some (.ref dq), some (.ref D2), none] ∧ Ks K G a c ol D dv l ns (100 * i + 80) x fs ws vs ds xs ks ∧ G dq = some (.tup [.str (fdue fs ws ks).1, (fdue fs ws ks).2]), ?_, ?_⟩
    · refine ⟨_, rfl, (by show 0 ≤ sizeLine; decide), fun q0 G12 s12 _ e12 => ⟨D2, q0, _, rfl, rfl, s12 _ _ eD2, e12, _, rfl, ?_⟩⟩
      cases hf : fs.filter fun f => ws.contains f with
      | nil =>
        refine if_no (by rfl) ⟨dp, rfl, Z.same s12, ?_⟩
        unfold fdue
        rw [hf]
        exact s12 _ _ edp
      | cons y r =>
        have eD3 := s12 _ _ eD2
        rw [hf] at eD3
        refine if_yes (by rfl) ⟨_, rfl, D2, _, _, _, rfl, rfl, SqL.of eD3, atI_nat rfl, (by show 2 ≤ sizeLine; decide), fun dq G13 s13 _ e13 => ⟨dq, rfl, Z.same (s12.trans s13), ?_⟩⟩
        unfold fdue
        rw [hf]
        exact e13
    clear Z edp eD2
    rintro σ G12 ⟨dq, rfl, Z, edq⟩
    have fs7 := fpos.2
    have ld : vs.length = ds.length := Z.dd.len
    obtain ⟨v1, v2, v5, d1, d2, d5, g1, g2, g5, h1, h2, h5, or⟩ := Z.told ko
    obtain ⟨d, dq1, f1, f2, f3⟩ := showy_due (K := K) (ws := ws) (ks := ks) ko (by rw [← Z.kids.len]; exact Z.lx)
    refine ⟨_, rfl, _, rfl, _, rfl, x, dv, l, _, xs, ks, v1, v2, v5, d1, d2, d5, rfl, Z.ed, Z.el, Z.lx, Z.kids, g1, g2, g5, h1, h2, h5, fdue fs ws ks, or, fun t G13 s13 e13 => ?_⟩
    refine ⟨t, _, rfl, .tup (SqT.of e13) (.cons (.str _) (.cons (dq1 _) .nil)), f1, f2, f3, ?_⟩
    refine ⟨_, rfl, dq, _, rfl, .tup (SqT.of (s13 _ _ edq)) (.cons (.str _) (.cons (dq1 _) .nil)), f1, f2, f3, rfl, _, rfl, if_no (by simp) ?_⟩
    have Z13 := Z.same s13
    -- the errors' fields
    refine ⟨_, rfl, _, rfl, a, c, ol, ns, _, _, rfl, Z13.src, by omega, Z13.eo, Z13.src.is.ne Z13.eo (fun _ _ _ z => nomatch z), by rw [lm]; exact fpos.1, by rw [lm]; omega, fun jj v G14 ejj S14 b14 => ?_⟩
    obtain ⟨y, hy, rfl⟩ := List.mem_map.mp (List.mem_of_getElem? ejj)
    refine ⟨_, rfl, y, _, rfl, lay_field y (ko.in_ y hy), rfl, fun G15 s15 => ⟨_, rfl, if_no rfl ?_⟩⟩
    exact ⟨⟨_, _, _, _, _, _, _, _, _, _, rfl⟩, (S14.same s15).more (by omega)⟩
  · rintro σ G ⟨⟨v2, v3, v4, v5, v6, v7, v8, v9, v10, v11, rfl⟩, S⟩
    exact k _
end
end K02
namespace K02
open PySem PySem.Spec PyProof.Rows L2 K02H
theorem tupB_ok {K : PySem.W.Frag} {a : Addr} {xs : List V} (h : tupB K a xs = true) (H : Hp) : SqT K H a xs := by
  unfold tupB at h
  split at h
  · rename_i c dd its n sl e
    simp only [Bool.and_eq_true, decide_eq_true_eq] at h
    obtain ⟨h1, h2, h3⟩ := h
    subst h1
    exact .inr ⟨_, its, n, e, rfl, rfl, Nat.le_of_lt (small1000 h2), He.relAll_ok h3⟩
  · cases h
theorem insB_ok {K : PySem.W.Frag} {x : Str} (h : insB K x = true) : C8.InsC K (He.ga K x) := by
  unfold insB at h
  simp only [Bool.and_eq_true, decide_eq_true_eq] at h
  obtain ⟨h1, h2, h3, h4, h5, h6⟩ := h
  exact ⟨He.cls_ok h1, h2, h3, h4, h5, h6⟩
theorem errT_of {K : PySem.W.Frag} (h : errTB K = true) : ErrT K := by
  unfold errTB at h
  simp only [Bool.and_eq_true, decide_eq_true_eq, List.all_eq_true] at h
  obtain ⟨h1, h2, h3, h4, h5, h6, _, _⟩ := h
  exact ⟨h1, h2, h3, h4, h5, h6⟩
theorem errP_of {K : PySem.W.Frag} {mg : Str → Option Value} (g : mg "PlanError" = some (.ref (He.ga K "PlanError"))) (h : errTB K = true) : ErrP K mg := by
  unfold errTB at h
  simp only [Bool.and_eq_true, decide_eq_true_eq, List.all_eq_true] at h
  obtain ⟨_, _, _, _, h5, h6, h7, h8⟩ := h
  exact ⟨g, h7, h8, h5, h6⟩
theorem lens_of {K : PySem.W.Frag} (h : lensB K = true) : Lens K := by
  unfold lensB at h
  simp only [Bool.and_eq_true, decide_eq_true_eq] at h
  obtain ⟨h1, h2, h3, h4⟩ := h
  exact ⟨h1, h2, h3, h4⟩
section
variable {K : PySem.W.Frag} {h : Heap} {mg : Str → Option Value} {w : World}
theorem glo_at (X : K.In h) (G : h.Ns mainGlobals mg) (c : He.SaysXT fa fn ts w K) {x : Str} (hx : x ∈ frag1 ++ (cTups.map (·.1) ++ fns.map (·.1))) : mg x = some (.ref (He.ga K x)) :=
  He.glo_ok X G (List.all_eq_true.mp (c.x.fact 0) x hx)
theorem clss_in {x : Str} (hx : x ∈ clss) : x ∈ frag1 := List.mem_cons_of_mem _ hx
theorem txt (X : K.In h) (G : h.Ns mainGlobals mg) (c : He.SaysXT fa fn ts w K) : Txt K mg := by
  have z8 : ∀ f ∈ wNames, (He.Fa.noat "WorkerPlan" f).ok K = true := List.all_eq_true.mp (c.x.fact 8)
  refine ⟨fun x hx => He.free_ok X G (List.all_eq_true.mp (c.x.fact 1) x hx), fun p hp => ?_, fun p hp => ?_, fun p hp => ⟨_, glo_at X G c (List.mem_append_right _ (List.mem_append_left _ (List.mem_map_of_mem (f := (·.1)) hp))), rfl⟩, fun p hp H => tupB_ok (List.all_eq_true.mp (c.x.fact 4) p hp) H,
    fun x hx => ⟨_, glo_at X G c (List.mem_append_left _ (clss_in hx)), rfl⟩, ⟨insB_ok (c.x.fact 5), insB_ok (c.x.fact 6), kitD_ok (c.x.fact 7)⟩, He.noat_ok (z8 "script" (by simp))⟩
  · obtain ⟨t, e⟩ := He.int_ok X G (List.all_eq_true.mp (c.x.fact 2) p hp)
    exact ⟨_, e, t, rfl⟩
  · obtain ⟨t, e⟩ := He.str_ok X G (List.all_eq_true.mp (c.x.fact 3) p hp)
    exact ⟨_, e, t, rfl⟩
theorem wk (X : K.In h) (G : h.Ns mainGlobals mg) (c : He.SaysXT fa fn ts w K) : Wk K mg :=
  ⟨glo_at X G c (List.mem_append_left _ (clss_in (by simp [clss]))), (insB_ok (c.x.fact 5)).cl, fun f hf => He.noat_ok (List.all_eq_true.mp (c.x.fact 8) f hf), He.mkr_ok (c.x.fact 9)⟩
theorem has (X : K.In h) (G : h.Ns mainGlobals mg) (c : He.SaysXT fa fn ts w K) {x : Str} {i : Nat} (hx : (x, i) ∈ fns) : Has K mg x (top i) := by
  have m : dF x i ∈ fn := List.mem_cons_of_mem _ (List.mem_cons_of_mem _ (List.mem_cons_of_mem _ (List.mem_cons_of_mem _ (List.mem_append_left _ (List.mem_map_of_mem (f := fun p : Str × Nat => dF p.1 p.2) hx)))))
  obtain ⟨fd, F⟩ := c.x.def_in m
  exact ⟨glo_at X G c (List.mem_append_right _ (List.mem_append_right _ (List.mem_map_of_mem (f := (·.1)) hx))), fd, F⟩
theorem winit (c : He.SaysXT fa fn ts w K) : ∃ fd, FunD K "__init__" "WorkerPlan.__init__" (defArgs s_WorkerPlan___init__) (defBody s_WorkerPlan___init__) (defScope s_WorkerPlan___init__) [] (wDef (dsAt K)) (He.ma K (wkA K) "__init__") fd := by
  obtain ⟨fd, F⟩ := c.x.def_in (d := dW) List.mem_cons_self
  exact ⟨fd, F⟩
theorem wlen (c : He.SaysXT fa fn ts w K) : ∃ fd, FunD K "__len__" "WorkerPlan.__len__" (defArgs s_WorkerPlan___len__) (defBody s_WorkerPlan___len__) (defScope s_WorkerPlan___len__) [] [] (He.ma K (wkA K) "__len__") fd := by
  obtain ⟨fd, F⟩ := c.x.def_in (d := dLw) (List.mem_cons_of_mem _ (List.mem_cons_of_mem _ List.mem_cons_self))
  exact ⟨fd, F⟩
theorem slen (c : He.SaysXT fa fn ts w K) : ∃ fd, FunD K "__len__" "SupervisorPlan.__len__" (defArgs s_SupervisorPlan___len__) (defBody s_SupervisorPlan___len__) (defScope s_SupervisorPlan___len__) [] [] (He.ma K (suA K) "__len__") fd := by
  obtain ⟨fd, F⟩ := c.x.def_in (d := dLs) (List.mem_cons_of_mem _ (List.mem_cons_of_mem _ (List.mem_cons_of_mem _ List.mem_cons_self)))
  exact ⟨fd, F⟩
theorem tab (X : K.In h) (G : h.Ns mainGlobals mg) (c : He.SaysXT fa fn ts w K) : Tab K w mg := by
  obtain ⟨es, n, D⟩ := c.table 0
  refine ⟨⟨_, glo_at X G c (List.mem_append_left _ (by simp [frag1])), rfl⟩, ⟨es, n, D⟩, fun x ks e => ?_, fun x e => ?_⟩
  · have z := List.all_eq_true.mp (c.x.fact 11) (x, ks) (lookup_mem e)
    dsimp only at z
    split at z
    · rename_i a q
      exact ⟨a, q, fun H => tupB_ok z H⟩
    · cases z
  · have k : keysB K = true := c.x.fact 12
    unfold keysB at k
    have at_ := D.at_
    dsimp only [ts] at at_
    rw [at_] at k
    have all := List.all_eq_true.mp k
    unfold PySem.W.nsIn
    rw [at_]
    have none_ : es.toList.find? (·.key.isStr x) = none := by
      rw [List.find?_eq_none]
      intro d hd q
      have z := all d hd
      split at z
      · rename_i y t ek
        rw [ek] at q
        have ey : y = x := eq_of_beq (show (y == x) = true from q)
        rw [ey, e] at z
        cases z
      · cases z
    have noref : es.toList.any (·.refKey) = false := by
      rw [List.any_eq_false]
      intro d hd q
      have z := all d hd
      split at z
      · rename_i y t ek
        unfold DictEntry.refKey at q
        rw [ek] at q
        cases q
      · cases z
    dsimp only
    rw [none_]
    dsimp only
    rw [noref]
    rfl
theorem err (X : K.In h) (G : h.Ns mainGlobals mg) {x f : Str} (z : errB K x f = true) (m : ∃ i, dI x i ∈ fn ∧ ∃ p1 p2 q1 q2 q3 q4 : Pos, defArgs (inClass (top i) 0) = aF f p1 p2 ∧ defBody (inClass (top i) 0) = bF f q1 q2 q3 q4 ∧ defScope (inClass (top i) 0) = sF f) (c : He.SaysXT fa fn ts w K) : Err K mg x f := by
  unfold errB at z
  simp only [Bool.and_eq_true, decide_eq_true_eq] at z
  obtain ⟨z1, z2, z3, z4, z5, z6⟩ := z
  obtain ⟨i, mi, p1, p2, q1, q2, q3, q4, e1, e2, e3⟩ := m
  obtain ⟨fd, ⟨oc, od, dV, kV, doc, pm, an, cdv, ct, osl, rfl, lk, cd, dfl, _⟩, _⟩ := c.x.def_in mi
  refine ⟨He.glo_ok X G z1, xclB_ok z2, ⟨z5, z3, z4, ?_⟩, z6⟩
  rcases dfl with ⟨_, rfl⟩ | ⟨n, _⟩
  · dsimp only [dI] at lk cd
    rw [e1, e2, e3] at lk
    exact ⟨_, _, _, _, _, _, _, _, _, _, _, _, _, _, _, _, lk, cd⟩
  · exact absurd rfl n
theorem fn_err {d : He.DefD} (h : d ∈ [dI "BadSetting" 20, dI "BadChild" 21, dI "BadScript" 26]) : d ∈ fn := List.mem_cons_of_mem _ (List.mem_cons_of_mem _ (List.mem_cons_of_mem _ (List.mem_cons_of_mem _ (List.mem_append_right _ h))))
theorem errS (X : K.In h) (G : h.Ns mainGlobals mg) (c : He.SaysXT fa fn ts w K) : Err K mg "BadSetting" "setting" :=
  err X G (c.x.fact 13) ⟨20, fn_err List.mem_cons_self, _, _, _, _, _, _, rfl, rfl, rfl⟩ c
theorem errI (X : K.In h) (G : h.Ns mainGlobals mg) (c : He.SaysXT fa fn ts w K) : Err K mg "BadScript" "index" :=
  err X G (c.x.fact 14) ⟨26, fn_err (List.mem_cons_of_mem _ (List.mem_cons_of_mem _ List.mem_cons_self)), _, _, _, _, _, _, rfl, rfl, rfl⟩ c
theorem errC (X : K.In h) (G : h.Ns mainGlobals mg) (c : He.SaysXT fa fn ts w K) : Err K mg "BadChild" "index" :=
  err X G (c.x.fact 19) ⟨21, fn_err (List.mem_cons_of_mem _ List.mem_cons_self), _, _, _, _, _, _, rfl, rfl, rfl⟩ c
theorem su (X : K.In h) (G : h.Ns mainGlobals mg) (c : He.SaysXT fa fn ts w K) : Su K mg :=
  ⟨glo_at X G c (List.mem_append_left _ (clss_in (by simp [clss]))), (insB_ok (c.x.fact 6)).cl, fun f hf => He.noat_ok (List.all_eq_true.mp (c.x.fact 15) f hf), He.mkr_ok (c.x.fact 16)⟩
theorem sinit (c : He.SaysXT fa fn ts w K) : ∃ fd, FunD K "__init__" "SupervisorPlan.__init__" (defArgs s_SupervisorPlan___init__) (defBody s_SupervisorPlan___init__) (defScope s_SupervisorPlan___init__) [] sDef (He.ma K (suA K) "__init__") fd := by
  obtain ⟨fd, F⟩ := c.x.def_in (d := dS) (List.mem_cons_of_mem _ List.mem_cons_self)
  exact ⟨fd, F⟩
theorem plan_err (X : K.In h) (G : h.Ns mainGlobals mg) (c : He.SaysXT fa fn ts w K) : mg "PlanError" = some (.ref (He.ga K "PlanError")) := glo_at X G c (List.mem_append_left _ (clss_in (by simp [clss])))
/-- the empty tuple among WorkerPlan's defaults -/
theorem ds_ok (c : He.SaysXT fa fn ts w K) (H : Hp) : SqT K H (dsAt K) [] := tupB_ok (c.x.fact 10) H
end
end K02
namespace K02
open PySem PySem.Spec PyProof.Rows L2 K02H
section
variable {P : Program} {K : PySem.W.Frag} {h : Heap} {mg : Str → Option Value} {w : World}
/-- all defs put together -/
theorem law_all {base : Heap} (X : K.In h) (G : h.Ns mainGlobals mg) (c : He.SaysXT fa fn ts w K) : FnP P w K mg base CX0 32 "law" ["cells"] (spLaw K) := by
  have T := txt X G c
  have W := wk X G c
  have S := su X G c
  have TD := tab X G c
  have TS := errS X G c
  have TI := errI X G c
  have TC := errC X G c
  have pe := plan_err X G c
  have M : ErrT K := errT_of (c.x.fact 17)
  have MP : ErrP K mg := errP_of pe (c.x.fact 17)
  have L : Lens K := lens_of (c.x.fact 18)
  have ds := fun H => ds_ok c H
  have m : ∀ {p : Str × Nat} {i : Nat}, fns[i]? = some p → p ∈ fns := fun z => List.mem_of_getElem? z
  have Hs : ∀ {p : Str × Nat} (i : Nat), fns[i]? = some p → Has K mg p.1 (top p.2) := fun i z => has X G c (m z)
  obtain ⟨fw, FD⟩ := winit c
  obtain ⟨fs, FDs⟩ := sinit c
  obtain ⟨lw, LW⟩ := wlen c
  obtain ⟨ls, LS⟩ := slen c
  obtain ⟨mv, hb⟩ := wk_bindS FD
  obtain ⟨mv0, hb0⟩ := wk_bind0 FD
  obtain ⟨mvA, hbA⟩ := wk_bindA FD
  have i_int := ok_is_integer (P := P) (w := w) (base := base) (Hs (p := ("is_integer", 10)) 0 rfl) T
  have i_btw := ok_is_between (Hs (p := ("is_between", 11)) 1 rfl) T i_int
  have i_one := ok_is_one_of (P := P) (w := w) (base := base) (Hs (p := ("is_one_of", 12)) 2 rfl) T
  have i_word := ok_is_word (P := P) (w := w) (base := base) (Hs (p := ("is_word", 13)) 3 rfl) T
  have i_place := ok_is_place_name (Hs (p := ("is_place_name", 14)) 4 rfl) T i_word
  have i_sent := ok_is_sent_word (Hs (p := ("is_sent_word", 15)) 5 rfl) T i_word
  have i_val := ok_is_sent_value (Hs (p := ("is_sent_value", 16)) 6 rfl) T i_btw
  have i_given := ok_is_given_reason (Hs (p := ("is_given_reason", 17)) 7 rfl) T i_word
  have i_dval := ok_is_deed_value (Hs (p := ("_is_deed_value", 39)) 10 rfl) T i_val
  have i_add := ok_has_add (P := P) (w := w) (base := base) (Hs (p := ("_has_add", 40)) 11 rfl) T
  have i_item := ok_is_item (Hs (p := ("_is_item", 38)) 9 rfl) T i_sent i_dval i_btw i_given i_word i_add
  have i_deed := ok_is_deed (Hs (p := ("is_deed", 37)) 8 rfl) T TD i_item
  have i_deeds := ok_are_deeds (Hs (p := ("_are_deeds", 42)) 13 rfl) T i_deed
  have i_row := ok_is_row (Hs (p := ("_is_row", 41)) 12 rfl) T i_word i_btw i_deeds
  have i_wrow := ok_wrong_row (Hs (p := ("wrong_row", 43)) 14 rfl) T TI i_row
  have i_scr := ok_is_script (Hs (p := ("is_script", 44)) 15 rfl) T i_wrow
  have i_plan := ok_is_plan (P := P) (w := w) (base := base) (Hs (p := ("is_plan", 56)) 16 rfl) T
  have i_dead := ok_is_deadline (Hs (p := ("_is_deadline", 57)) 17 rfl) T i_btw
  have i_set := ok_check_settings (P := P) (w := w) (base := base) (Hs (p := ("_check_settings", 58)) 18 rfl) T TS
  have naC : NoAttr K (suA K) "children" := S.na "children" (by simp)
  have i_in := ok_plans_in (P := P) (w := w) (base := base) (Hs (p := ("plans_in", 60)) 20 rfl) T naC S.cl 20
  have i_lev := ok_levels_of (P := P) (w := w) (base := base) (Hs (p := ("levels_of", 62)) 21 rfl) T naC S.cl 20
  have lenW := ok_len_w LW T i_in
  have lenS := ok_len_s LS T i_in
  have i_kids := ok_check_children (Hs (p := ("_check_children", 59)) 19 rfl) T TC L lenW lenS i_plan i_lev
  have FW := ok_winit FD T W i_set i_place i_one i_btw i_dead i_scr
  have FS := ok_sinit FDs T S i_set i_place i_one i_btw i_dead i_kids
  have FSD := ok_sinitD FDs T S i_set i_place i_one i_btw i_dead i_kids
  have l_begun := ok_begun (P := P) (w := w) (base := base) (Hs (p := ("_law_begun", 64)) 22 rfl)
  have l_next := ok_next (P := P) (w := w) (base := base) (Hs (p := ("_law_next", 65)) 23 rfl) T
  have l_of := ok_of (Hs (p := ("_law_of", 66)) 24 rfl) T l_next
  have l_scr := ok_scripts (Hs (p := ("_law_scripts", 67)) 25 rfl) T W FW hb
  have l_odd := ok_odd (Hs (p := ("_law_odd", 68)) 26 rfl) T l_scr
  have l_good := ok_good (Hs (p := ("_law_good", 69)) 27 rfl) T l_of
  have l_gst := ok_law_greatest (Hs (p := ("_law_greatest", 70)) 28 rfl) T S FS
  have l_gr := ok_law_greater (Hs (p := ("_law_greater", 71)) 29 rfl) T S FS l_gst
  have l_sup := ok_law_sup (Hs (p := ("_law_sup", 72)) 30 rfl) T S FS l_gr
  have l_made := ok_made (Hs (p := ("_law_made", 73)) 31 rfl) T W FW hbA l_sup
  have l_told := ok_told (Hs (p := ("_law_told", 74)) 32 rfl) T TS TC M pe l_made
  have l_deep := ok_deep (Hs (p := ("_law_deep", 75)) 33 rfl) T W S FW FSD hb0 ds
  have l_broad := ok_broad (Hs (p := ("_law_broad", 76)) 34 rfl) T W FW hb0 ds l_sup
  have l_kids := ok_children (Hs (p := ("_law_children", 77)) 35 rfl) T W S FW FSD hb0 ds l_next l_of l_deep l_broad
  have l_fields := ok_fields_right (P := P) (w := w) (base := base) (Hs (p := ("_law_fields_right", 78)) 36 rfl) T TS TC MP
  exact ok_law (Hs (p := ("law", 79)) 37 rfl) T (c.x.fact 20) l_begun l_next l_of l_odd l_good l_kids l_told l_fields
end
end K02
open PySem PySem.W PySem.Calls PyProof.Rows
theorem PySem.Challenge.cw_watchtree_k02_plans_refused_holds : PySem.Challenge.rw_watchtree_k02_plans_refused.Holds := by
  w_on; o_law
  refine HandSHeadRun.head_any (r := OpenLaw.row PySem.Challenge.rw_watchtree_k02_plans_refused) (q := view (OpenLaw.row PySem.Challenge.rw_watchtree_k02_plans_refused).prog [79]) (H := K02H.hk) (ob := K02H.ob) (M := 20000) (loose := K02H.loose) (d := HandSHeadRun.topDef (OpenLaw.row PySem.Challenge.rw_watchtree_k02_plans_refused).prog 79) (kwd := []) K02H.ob_eq
    (by kernel_rfl) (fun s => by kernel_rfl) K02H.run (by kernel_rfl) (by kernel_rfl) (by kernel_rfl) (by rfl) (by first | assumption | decide +kernel) (by decide +kernel) ⟨rfl, rfl, rfl, rfl, rfl, by decide +kernel⟩ ?hw ?hc
  case hw => w_witness2
  case hc =>
    refine L2.walkG (l := PySem.Challenge.rw_watchtree_k02_plans_refused) (n := 63) (k := 32) (x := "cells") (CX := L2.CX0) rfl (by decide) (by kernel_rfl) ⟨rfl, by decide, by decide⟩ ?F (fun _ _ _ _ z => z)
    intro w mg fa h Y G hmg0
    obtain ⟨K, KX, c⟩ := Y
    have hmg : mg ("law" : PySem.Str) = some (.ref fa) := by
      have e : (HandSHeadRun.topDef (OpenLaw.row PySem.Challenge.rw_watchtree_k02_plans_refused).prog 79).name = ("law" : PySem.Str) := by kernel_rfl
      rw [← e]
      exact hmg0
    have Hl := K02.has (x := "law") (i := 79) KX G c (List.mem_of_getElem? (i := 37) rfl)
    have e := hmg.symm.trans Hl.gl
    cases e
    obtain ⟨fd, F⟩ := Hl.df
    have b := L2.FunD.bindsA (ps := ["cells"]) F fun _ _ _ _ _ _ us hl => match us, hl with | [_], _ => rfl
    refine ⟨K, fd, K02.spLaw K, KX, fun s u => b s [u] rfl, fun H a ns hl _ hS => ⟨a, ns, rfl, hS, hl, fun _ => rfl⟩, fun base _ _ => ?_⟩
    have F2 := K02.law_all (P := (PySem.Challenge.rw_watchtree_k02_plans_refused).prog) (base := base) KX G c
    obtain ⟨fd2, G2, _, oc2, od2, osl2, lk2⟩ := F2.fn
    obtain ⟨oc1, od1, osl1, lk1⟩ := L2.lookD F
    have same : fd2 = fd := by
      have z := lk2.symm.trans lk1
      cases z
      rfl
    rw [← same]
    exact G2
