import PyProof.Rows.All
import Wide.All
import OpenK.AllK
import Wide.FinOn
import HandS.ForMost
import HandS.Exc
import HandS.ExcInit
import KE.KExcInit
import KE.KExcIs
import HandS.IsInst
import PySem.Challenge.RW_onestroke_k00_errors_and_limits
section
set_option Elab.async false
set_option linter.all false
set_option maxRecDepth 100000
set_option maxHeartbeats 4000000
/-! Exceptions of own classes as values: made (positional or by keywords), their fields stored. -/
namespace PySem
namespace Xv
open PySem.W PySem.Calls PyProof.Rows PySem.HandSPX
section
variable {M : Model} {A : Around} {E : Value → Shared → Prop} {h : Heap} {g : Array GenState} {d : Drawn} {t : Nat} {os : OsState}
variable {nm q : Str} {C N : Addr} {bs bm bmB : List Value} {hdct : Bool} {sn : List Str} {sub : List Value} {ab : Bool} {col : Option Bool} {dd : Option Addr} {k0 k1 k2 k3 k5 : Option Value} {B newId initId : String}
/-- the look at B.__new__'s call, keywords beside -/
theorem newCheck (F : ExcBaseFacts B newId initId bmB) (hT : ∀ Y : String, bm.contains (.type Y) = bmB.contains (.type Y)) {rest : List Value} {kw : List (Str × Value)} {Q : Unit → Shared → Prop}
    (hC : h.get? C = some (excClassObj nm q C N bs bm hdct sn sub ab col dd k0 k1 k2 k3 k5 newId)) (hq : Q () ⟨h, g, d, t, os⟩) :
    wpAny M A (checkBuiltinCall newId ⟨.ref C :: rest, kw⟩) Q E ⟨h, g, d, t, os⟩ := by
  have c1 : (Value.ref C :: bm).contains (.type B) = true := by rw [List.contains_cons, hT, F.hasB, Bool.or_true]
  have c2 := F.noStar
  simp only [checkBuiltinCall, F.newKind, F.newSplit, F.newRow]
  repeat (first | with_reducible refine wpAny_loadPart_at hC ?_ | (refine wpAny_isSubtype_exc hC ?_; rw [c1]) | refine wpAny_staticBase_exc hC ?_ | refine wpAny_madeBy_exc hC ?_ | simp only [bne_self_eq_false, Bool.false_eq_true, if_false] | wp_step)
  exact hq
theorem typeCheck {rest : List Value} {kw : List (Str × Value)} {Q : Unit → Shared → Prop} (hC : h.get? C = some (excClassObj nm q C N bs bm hdct sn sub ab col dd k0 k1 k2 k3 k5 newId))
    (hq : Q () ⟨h, g, d, t, os⟩) : wpAny M A (checkBuiltinCall "type.__call__" ⟨.ref C :: rest, kw⟩) Q E ⟨h, g, d, t, os⟩ := by
  have f3 := tc_sub
  have hT : (⟨h, g, d, t, os⟩ : Shared).TypeIs (.ref C) "type" := ⟨_, hC, rfl⟩
  simp only [checkBuiltinCall, tc_kind, tc_split]
  repeat (any_goals (first | assumption | with_reducible refine wpAny_loadPart_at hC ?_ | with_reducible refine wpAny_onRaise ?_ | with_reducible refine wpAny_map ?_ | wp_step))
end
section
variable {prog : Program} {w : World} {A : Around} {E : Value → Shared → Prop} {R : Result → Shared → Prop} {h : Heap} {g : Array GenState} {d : Drawn} {t : Nat} {os : OsState}
variable {nm q : Str} {C N : Addr} {bs bm bmB : List Value} {hdct : Bool} {sn : List Str} {sub : List Value} {ab : Bool} {col : Option Bool} {dd : Option Addr} {k0 k1 k2 k3 k5 : Option Value} {B newId initId : String}
theorem newDone (F : ExcBaseFacts B newId initId bmB) (hT : ∀ Y : String, bm.contains (.type Y) = bmB.contains (.type Y)) {rest : List Value} {kw : List (Str × Value)}
    (hC : h.get? C = some (excClassObj nm q C N bs bm hdct sn sub ab col dd k0 k1 k2 k3 k5 newId)) (hrest : rest.length ≤ sizeLine)
    (hq : R (.ok (.ret (.ref (h.objs.size + 1)))) ⟨(h.push (kdv_tup rest)).push (excO C h.objs.size), g, d, t, os⟩) :
    codeAny (model prog w) A (.builtin newId ⟨.ref C :: rest, kw⟩) R ⟨h, g, d, t, os⟩ := by
  have e0 := F.ends
  have c1 : (Value.ref C :: bm).contains (.type B) = true := by rw [List.contains_cons, hT, F.hasB, Bool.or_true]
  have c2 : (Value.ref C :: bm).contains (.type "AttributeError") = false := by rw [List.contains_cons, hT, F.noAttr]; rfl
  have c3 : (Value.ref C :: bm).contains (.type "NameError") = false := by rw [List.contains_cons, hT, F.noName]; rfl
  refine codeAny_builtinAt F.entry ?_
  unfold Builtin.«BaseException.__new__»
  refine wpAt_bind ?_
  show wpAt _ _ _ (stack >>= _) _ _ _
  refine wpAt_bind (wpAt_stack fun p below => wpAt_of_wpAny ?_)
  wp_walk
  refine wpAt_of_wpAny ?_
  rw [F.owner]
  repeat (first | with_reducible refine wpAny_madeHere_exc F.canon hC ?_ | with_reducible refine wpAny_loadPart_at hC ?_ | (with_reducible refine wpAny_isSubtype_exc hC ?_; first | rw [c1] | rw [c2] | rw [c3]) | wp_step)
  show R _ _
  rw [Heap.size_push]
  exact hq
theorem typeRun (F : ExcBaseFacts B newId initId bmB) (hT : ∀ Y : String, bm.contains (.type Y) = bmB.contains (.type Y)) {rest : List Value} {kw : List (Str × Value)} {fI : Value} {Q : Fin → Shared → Prop}
    (hC : h.get? C = some (excClassObj nm q C N bs bm hdct sn sub ab col dd k0 k1 k2 k3 k5 newId))
    (hi : Looks (model prog w) h (typeLookup (.ref C) "__init__") (some fI)) (hb : ∀ self, Looks (model prog w) h (bindSpecial fI self) (fI, [self])) (hrest : rest.length ≤ sizeLine)
    (hq : codeAny (model prog w) A (.call fI ⟨.ref (h.objs.size + 1) :: rest, kw⟩)
      (fun r s' => match r with | .ok (.ret v) => v = .none ∧ Q (.done (.ret (.ref (h.objs.size + 1)))) s' | .ok _ => False | .error e => E e s')
      ⟨(h.push (kdv_tup rest)).push (excO C h.objs.size), g, d, t, os⟩) :
    wpAny (model prog w) A (Builtin.«type.__call__» ⟨.ref C :: rest, kw⟩) Q E ⟨h, g, d, t, os⟩ := by
  repeat (first | with_reducible refine wpAny_loadPart_at hC ?_ | with_reducible refine wpAny_madeBy_exc hC ?_ | wp_step)
  refine codeAny_call_builtin_code (Code.quiet_builtin _ F.quiet) (newCheck F hT hC ?_)
  refine newDone F hT hC hrest ?_
  show wpAny _ _ _ _ _ _
  have k : ∀ b o, h.get? b = some o → ((h.push (kdv_tup rest)).push (excO C h.objs.size)).get? b = some o := fun b o e => Heap.get?_push_of_some _ (Heap.get?_push_of_some _ e)
  have hC1 := k _ _ hC
  have hget : ((h.push (kdv_tup rest)).push (excO C h.objs.size)).get? (h.objs.size + 1) = some (excO C h.objs.size) := by heap_get
  have cC : (Value.ref C :: bm).contains (.ref C) = true := by simp
  have i1 := hi.keeps k
  have b1 := (hb (.ref (h.objs.size + 1))).keeps k
  unfold isInstance
  repeat (first | with_reducible refine wpAny_loadPart_at hget ?_ | (with_reducible refine wpAny_isSubtype_exc hC1 ?_; rw [cC]) | wp_step)
  show wpAny _ _ (typeLookup (.ref C) _) _ _ _
  refine i1.at ?_
  refine wpAny_holding (wpAny_bind (b1.at ?_))
  refine wpAny_bind (wpAny_call (codeAny_mono hq fun r s' z => ?_))
  rcases r with e | (v | _ | _ | _) <;> first | exact z | exact z.elim | skip
  obtain ⟨rfl, z⟩ := z
  first
    | exact wpAny_pure (wpAny_pure z)
    | (wp_walk; exact z)
/-- C(.., k=..): the making, then the class's __init__ -/
theorem made (F : ExcBaseFacts B newId initId bmB) (hT : ∀ Y : String, bm.contains (.type Y) = bmB.contains (.type Y)) {rest : List Value} {kw : List (Str × Value)} {fI : Value}
    (hC : h.get? C = some (excClassObj nm q C N bs bm hdct sn sub ab col dd k0 k1 k2 k3 k5 newId))
    (hi : Looks (model prog w) h (typeLookup (.ref C) "__init__") (some fI)) (hb : ∀ self, Looks (model prog w) h (bindSpecial fI self) (fI, [self])) (hrest : rest.length ≤ sizeLine)
    (hq : codeAny (model prog w) (A.under (.builtin "type.__call__" ⟨.ref C :: rest, kw⟩)) (.call fI ⟨.ref (h.objs.size + 1) :: rest, kw⟩) (InitBack (h.objs.size + 1) R)
      ⟨(h.push (kdv_tup rest)).push (excO C h.objs.size), g, d, t, os⟩) :
    codeAny (model prog w) A (.call (.ref C) ⟨rest, kw⟩) R ⟨h, g, d, t, os⟩ := by
  have f1 := tc_lookup
  have f2 := tc_bind (.ref C)
  have hTy : (⟨h, g, d, t, os⟩ : Shared).TypeIs (.ref C) "type" := ⟨_, hC, rfl⟩
  refine codeAny_of_tree ?_
  show wpAny _ _ (callAny (.ref C) _) _ _ _
  repeat (any_goals (first | assumption | with_reducible refine wpAny_loadPart_at hC ?_ | wp_step))
  refine ⟨rfl, ?_⟩
  refine codeAny_call_builtin_at (Code.quiet_builtin _ (by decide +kernel)) entry_typeCall (typeCheck hC (typeRun F hT hC hi hb hrest ?_))
  refine codeAny_mono hq fun r s' z => ?_
  rcases r with e | (v | _ | _ | _) <;> exact z
end
end Xv
end PySem
end

section
set_option Elab.async false
set_option linter.all false
set_option maxRecDepth 100000
set_option maxHeartbeats 4000000
namespace PySem
namespace Xv
open PySem.W PySem.Calls PyProof.Rows PySem.HandSPX
open Builtin Builtin.ObjectAttr
section
variable {prog : Program} {w : World} {A : Around} {E : Value → Shared → Prop} {R : Result → Shared → Prop} {s : Shared} {K : Frag} {B : String} {bmB : List Value}
/-- an exception's object, its dict at dd -/
abbrev eO (C t : Addr) (dd : Option Addr) : Obj := { cls := .ref C, dict := dd, data := .fields #[.ref t, .none, .none, .none, .bool false, .none] }
theorem storeFirst {x C t1 : Addr} {name : Str} {tk : Tok} {v : Value} (SF : StoreFacts B bmB "object.__setattr__" "object") (X : K.In s.heap) (hx : s.heap.get? x = some (eO C t1 none))
    (hp : excOver K C bmB = true) (ht : takerIn K C name = some none) (hh : hasDictIn K C = true)
    (hq : ∀ h' tk' dx, (∀ b o, b ≠ x → s.heap.get? b = some o → h'.get? b = some o) → s.heap.objs.size ≤ dx → dx ≠ x → h'.get? x = some (eO C t1 (some dx)) →
      h'.Ns1 dx (fun y => if y = name then some v else none) → R (.ok (.ret .none)) { s with heap := h', toks := tk' }) :
    codeAny (model prog w) A (.call (.builtin "object.__setattr__") ⟨[.ref x, .str name tk, v], []⟩) R s := by
  refine osa_openX (od := none) SF X ⟨hx, rfl, rfl, trivial⟩ hp ht fun b => ?_
  obtain ⟨cd, hc, hd'⟩ := any_some hh
  have hxs : x < s.heap.objs.size := Heap.lt_size hx
  refine wpAny_bind (wpAny_pure (wpAny_bind (instanceDict_exc (c2 := .none) hx (looks_clsIn X hc) hd' ?_)))
  obtain ⟨hp0, g, d, t, os⟩ := s
  refine store_in_new ?_ fun h' tk' hn' hs => ?_
  · exact ⟨_, #[], _, (Heap.get?_update_ne _ _ _ _ (Nat.ne_of_gt hxs)).trans (Heap.get?_push_at rfl rfl), rfl, fun e he => absurd he (by simp), fun _ => rfl⟩
  · have hx1 : (hp0.push (dictOf [] 0)).get? x = some (eO C t1 none) := Heap.get?_push_of_some _ hx
    refine hq h' tk' hp0.objs.size (fun b o hb ho => ?_) (Nat.le_refl _) (Nat.ne_of_gt hxs) ?_ hn'
    · exact (hs.2 b (Nat.ne_of_lt (Heap.lt_size ho))).trans ((Heap.get?_update_ne _ _ _ _ hb).trans (Heap.get?_push_of_some _ ho))
    · exact (hs.2 x (Nat.ne_of_lt hxs)).trans (Heap.get?_update_self _ hx1 rfl)
theorem storeNext {x C t1 dx : Addr} {name : Str} {tk : Tok} {v : Value} {m0 : Str → Option Value} {nl : List Str} (SF : StoreFacts B bmB "object.__setattr__" "object") (X : K.In s.heap) (hx : s.heap.get? x = some (eO C t1 (some dx)))
    (hns : s.heap.Ns1 dx m0) (hw : Within m0 nl) (hz : nl.length ≤ 1000)
    (hp : excOver K C bmB = true) (ht : takerIn K C name = some none) (hh : hasDictIn K C = true)
    (hq : ∀ h' tk', (∀ b o, b ≠ dx → s.heap.get? b = some o → h'.get? b = some o) → h'.Ns1 dx (fun y => if y = name then some v else m0 y) → R (.ok (.ret .none)) { s with heap := h', toks := tk' }) :
    codeAny (model prog w) A (.call (.builtin "object.__setattr__") ⟨[.ref x, .str name tk, v], []⟩) R s := by
  obtain ⟨oD, esD, epD, hoD, hdD, _⟩ := hns.count hw
  refine osa_openX (od := some oD) SF X ⟨hx, rfl, rfl, hoD⟩ hp ht fun b => ?_
  obtain ⟨cd, hc, hd'⟩ := any_some hh
  refine wpAny_bind (wpAny_pure (wpAny_bind (wpAny_bind (wpAny_loadPart hx (wpAny_bind ((looks_clsIn X hc).here ?_))))))
  rw [hd']
  refine wpAny_pure (a := some dx) ?_
  obtain ⟨hp0, g, d, t, os⟩ := s
  exact OEX.store_in_old hns hw hz fun h' tk' hn' hs => hq h' tk' (fun b o hb ho => (hs.2 b hb).trans ho) hn'
end
end Xv
end PySem
end

section
set_option Elab.async false
set_option linter.all false
set_option maxRecDepth 100000
set_option maxHeartbeats 8000000
namespace PySem
namespace Xv
open PySem.W PySem.Calls PyProof.Rows PySem.HandSPX
/-! ### the text of __init__ with one field, with two -/
def a1 (f : Str) (p1 p2 : Pos) : Arguments := { posonlyargs := [], args := [{ arg := "self", annotation := none, pos := p1 }, { arg := f, annotation := none, pos := p2 }], vararg := none, kwonlyargs := [], kw_defaults := [], kwarg := none, defaults := [] }
def b1 (f : Str) (q1 q2 q3 q4 : Pos) : List Stmt := [.Assign [.Attribute (.Name "self" q1) f q2] (.Name f q3) q4]
def s1 (f : Str) : Scope := { kind := .function, names := [(PySem.Str.ofString "self", .local), (f, .local)], isGenerator := false, isCoroutine := false, more := [] }
def a2 (p1 p2 p3 : Pos) : Arguments := { posonlyargs := [], args := [{ arg := "self", annotation := none, pos := p1 }, { arg := "mode", annotation := none, pos := p2 }, { arg := "key", annotation := none, pos := p3 }], vararg := none, kwonlyargs := [], kw_defaults := [], kwarg := none, defaults := [] }
def b2 (q1 q2 q3 q4 r1 r2 r3 r4 : Pos) : List Stmt := [.Assign [.Attribute (.Name "self" q1) "mode" q2] (.Name "mode" q3) q4, .Assign [.Attribute (.Name "self" r1) "key" r2] (.Name "key" r3) r4]
def s2 : Scope := { kind := .function, names := [(PySem.Str.ofString "self", .local), (PySem.Str.ofString "mode", .local), (PySem.Str.ofString "key", .local)], isGenerator := false, isCoroutine := false, more := [] }
theorem ldL {M : Model} {s : Shared} {name : Str} {scope : Scope} {L a : Addr} {cd : Value} {m : Str → Option Value} {x : Str} {pos : Pos} {v : Value} {Q : Value → Shared → Prop} {A : Around} {E : Value → Shared → Prop} (hn : s.heap.Ns L m) (hv : m x = some v) (h : Q v s)
    (hk : scope.kind = .function := by rfl) (hl : (envOfC name scope L a cd).kindOf x = some .local := by rfl) (hd : (x == ("__debug__" : Str)) = false := by decide) :
    wpAny M A (eval (.Name x pos) (envOfC name scope L a cd)) Q E s := wpAny_Name (wpAny_loadName_local hk hl hn hv h) hd
def Field (f : Str) : Prop := f = "value" ∨ f = "field" ∨ f = "index" ∨ f = "limit" ∨ f = "key" ∨ f = "pressed"
/-- what the written part says of an own exception class at C over B, for storing -/
structure Sto (K : Frag) (C : Addr) (bmB : List Value) : Prop where
  sa : findIn K (.ref C) "__setattr__" = some (some (.builtin "object.__setattr__"))
  ov : excOver K C bmB = true
  hd : hasDictIn K C = true
section
variable {prog : Program} {w : World} {A : Around} {R : Result → Shared → Prop} {s : Shared} {K : Frag} {B : String} {bmB : List Value} {C fI x t0 : Addr}
theorem init1 {f qual : Str} {args : Args} {v oc doc pm cdv ct : Value} {od an : Option Addr} {osl : Array (Option Value)} {p1 p2 q1 q2 q3 q4 : Pos} (hf : Field f)
    (ho : K.lookup fI = some ⟨oc, od, .func (fnOf "__init__" qual (a1 f p1 p2) (b1 f q1 q2 q3 q4) (s1 f) .none .none doc pm an cdv ct), osl⟩) (hcd : codeIn K cdv qual = true)
    (hb : BindsTo s (fnOf "__init__" qual (a1 f p1 p2) (b1 f q1 q2 q3 q4) (s1 f) .none .none doc pm an cdv ct) args [("self", .ref x), (f, v)])
    (SF : StoreFacts B bmB "object.__setattr__" "object") (T : Sto K C bmB) (ht : takerIn K C f = some none)
    (X : K.In s.heap) (hlim : s.heap.NoLimit) (hx : s.heap.get? x = some (eO C t0 none)) (hroom : A.depth < recursionLimit)
    (hq : ∀ h' tk dx, (∀ b o, b ≠ x → s.heap.get? b = some o → h'.get? b = some o) → s.heap.objs.size ≤ dx → h'.get? x = some (eO C t0 (some dx)) → h'.Ns1 dx (fun y => if y = f then some v else none) →
      R (.ok (.ret .none)) { s with heap := h', toks := tk }) :
    codeAny (model prog w) A (.call (.ref fI) args) R s := by
  refine Att.call_fn (binds := [("self", .ref x), (f, v)]) X hlim ho hcd hroom hb ?_ (fun s₁ IC => ?_) rfl rfl rfl
  · rcases hf with rfl | rfl | rfl | rfl | rfl | rfl <;> first | rfl | decide | with_unfolding_all rfl
  obtain ⟨h₁, tk₁, rfl⟩ := IC.toInCall.same
  have k : ∀ b o, s.heap.get? b = some o → h₁.get? b = some o := IC.toInCall.keep
  have hn := IC.toInCall.ns
  have X₁ : K.In h₁ := X.keeps k
  have hx₁ := k _ _ hx
  have z : s.heap.objs.size < h₁.objs.size := hn.lt
  show wpAny _ _ (execs _ _) _ _ _
  refine wpAny_execs_cons (plainObj_wpAny_Assign_Attribute ?_)
  have fin : ∀ (A : Around) (E : Value → Shared → Prop) (Q : Unit → Shared → Prop), (∀ h' tk dx, (∀ b o, b ≠ x → s.heap.get? b = some o → h'.get? b = some o) → s.heap.objs.size ≤ dx → h'.get? x = some (eO C t0 (some dx)) → h'.Ns1 dx (fun y => if y = f then some v else none) →
      Q () { s with heap := h', toks := tk }) → wpAny (model prog w) A (setAttr (.ref x) f v) Q E { s with heap := h₁, toks := tk₁ } := fun A E Q hQ => by
    refine set_plain X₁ (ox := eO C t0 none) (od := none) ⟨hx₁, rfl, rfl, trivial⟩ T.sa ?_
    refine storeFirst SF X₁ hx₁ T.ov ht T.hd fun h₃ tk₃ dx k₃ dn dne hx₃ hn₃ => ?_
    exact hQ h₃ tk₃ dx (fun b o hb e => k₃ b o hb (k b o e)) (Nat.le_of_lt (Nat.lt_of_lt_of_le z dn)) hx₃ hn₃
  have e1 : (bindL (envOfC qual (s1 f) s.heap.objs.size fI cdv).kindOf [("self", Value.ref x), (f, v)] fun _ => none) f = some v := by
    rcases hf with rfl | rfl | rfl | rfl | rfl | rfl <;> first | rfl | with_unfolding_all rfl | kernel_rfl
  have e2 : (bindL (envOfC qual (s1 f) s.heap.objs.size fI cdv).kindOf [("self", Value.ref x), (f, v)] fun _ => none) "self" = some (.ref x) := by
    rcases hf with rfl | rfl | rfl | rfl | rfl | rfl <;> first | rfl | with_unfolding_all rfl | kernel_rfl
  refine ldL (v := v) hn e1 (ldL (v := .ref x) hn e2 ?_ rfl ?_) rfl ?_ ?_
  · refine fin _ _ _ fun h' tk dx k' dn hx' hn' => ?_
    show wpAny _ _ (execs _ _) _ _ _
    exact wpAny_execs_nil (hq h' tk dx k' dn hx' hn')
  · rcases hf with rfl | rfl | rfl | rfl | rfl | rfl <;> rfl
  · rcases hf with rfl | rfl | rfl | rfl | rfl | rfl <;> rfl
  · rcases hf with rfl | rfl | rfl | rfl | rfl | rfl <;> decide
end
end Xv
end PySem
end

section
set_option Elab.async false
set_option linter.all false
set_option maxRecDepth 100000
set_option maxHeartbeats 8000000
namespace PySem
namespace Xv
open PySem.W PySem.Calls PyProof.Rows PySem.HandSPX
theorem two_in (v1 v2 : Value) : Within (fun y => if y = ("mode" : Str) then some v1 else none) ["mode"] := fun y h => by
  by_cases e : y = ("mode" : Str)
  · rw [e]; simp
  · exact absurd (if_neg e) h
section
variable {prog : Program} {w : World} {A : Around} {R : Result → Shared → Prop} {s : Shared} {K : Frag} {B : String} {bmB : List Value} {C fI x t0 : Addr}
def two (v1 v2 : Value) : Str → Option Value := fun y => if y = "key" then some v2 else if y = "mode" then some v1 else none
theorem init2 {qual : Str} {args : Args} {v1 v2 oc doc pm cdv ct : Value} {od an : Option Addr} {osl : Array (Option Value)} {p1 p2 p3 q1 q2 q3 q4 r1 r2 r3 r4 : Pos}
    (ho : K.lookup fI = some ⟨oc, od, .func (fnOf "__init__" qual (a2 p1 p2 p3) (b2 q1 q2 q3 q4 r1 r2 r3 r4) s2 .none .none doc pm an cdv ct), osl⟩) (hcd : codeIn K cdv qual = true)
    (hb : BindsTo s (fnOf "__init__" qual (a2 p1 p2 p3) (b2 q1 q2 q3 q4 r1 r2 r3 r4) s2 .none .none doc pm an cdv ct) args [("self", .ref x), ("mode", v1), ("key", v2)])
    (SF : StoreFacts B bmB "object.__setattr__" "object") (T : Sto K C bmB) (ht1 : takerIn K C "mode" = some none) (ht2 : takerIn K C "key" = some none)
    (X : K.In s.heap) (hlim : s.heap.NoLimit) (hx : s.heap.get? x = some (eO C t0 none)) (hnx : K.lookup x = none) (hroom : A.depth < recursionLimit)
    (hq : ∀ h' tk dx, (∀ b o, b ≠ x → s.heap.get? b = some o → h'.get? b = some o) → s.heap.objs.size ≤ dx → h'.get? x = some (eO C t0 (some dx)) → h'.Ns1 dx (two v1 v2) →
      R (.ok (.ret .none)) { s with heap := h', toks := tk }) :
    codeAny (model prog w) A (.call (.ref fI) args) R s := by
  refine Att.call_fn (binds := [("self", .ref x), ("mode", v1), ("key", v2)]) X hlim ho hcd hroom hb (by first | rfl | decide | with_unfolding_all rfl) (fun s₁ IC => ?_) rfl rfl rfl
  obtain ⟨h₁, tk₁, rfl⟩ := IC.toInCall.same
  have k : ∀ b o, s.heap.get? b = some o → h₁.get? b = some o := IC.toInCall.keep
  have hn := IC.toInCall.ns
  have X₁ : K.In h₁ := X.keeps k
  have hx₁ := k _ _ hx
  have z : s.heap.objs.size < h₁.objs.size := hn.lt
  have hxz : s.heap.objs.size ≠ x := Nat.ne_of_gt (Heap.lt_size hx)
  show wpAny _ _ (execs _ _) _ _ _
  refine wpAny_execs_cons (plainObj_wpAny_Assign_Attribute ?_)
  refine ldL (v := v1) hn (by first | rfl | with_unfolding_all rfl | kernel_rfl) (ldL (v := .ref x) hn (by first | rfl | with_unfolding_all rfl | kernel_rfl) ?_)
  refine set_plain X₁ (ox := eO C t0 none) (od := none) ⟨hx₁, rfl, rfl, trivial⟩ T.sa ?_
  refine storeFirst SF X₁ hx₁ T.ov ht1 T.hd fun h₃ tk₃ dx k₃ dn dne hx₃ hn₃ => ?_
  have X₃ : K.In h₃ := fun a o e => k₃ a o (fun q => by rw [q, hnx] at e; cases e) (X₁ a o e)
  have hn3 := hn.at (h' := h₃) fun o e => k₃ _ o hxz e
  have dz : s.heap.objs.size < dx := Nat.lt_of_lt_of_le z dn
  obtain ⟨oD, _, _, hoD, _⟩ := id hn₃
  show wpAny _ _ (execs _ _) _ _ _
  refine wpAny_execs_cons (plainObj_wpAny_Assign_Attribute ?_)
  refine ldL (v := v2) hn3 (by first | rfl | with_unfolding_all rfl | kernel_rfl) (ldL (v := .ref x) hn3 (by first | rfl | with_unfolding_all rfl | kernel_rfl) ?_)
  refine set_plain X₃ (ox := eO C t0 (some dx)) (od := some oD) ⟨hx₃, rfl, rfl, hoD⟩ T.sa ?_
  refine storeNext (nl := ["mode"]) SF X₃ hx₃ hn₃ (two_in v1 v2) (by decide) T.ov ht2 T.hd fun h₄ tk₄ k₄ hn₄ => ?_
  show wpAny _ _ (execs _ _) _ _ _
  refine wpAny_execs_nil (hq h₄ tk₄ dx (fun b o hb e => k₄ b o (Nat.ne_of_lt (Nat.lt_trans (Heap.lt_size e) dz)) (k₃ b o hb (k b o e))) (Nat.le_of_lt dz) (k₄ _ _ dne.symm hx₃) hn₄)
end
end Xv
end PySem
end

section
set_option Elab.async false
set_option linter.all false
set_option maxRecDepth 100000
set_option maxHeartbeats 8000000
namespace L2
open PySem PySem.Spec PyProof.Rows
/-! ### two new objects at once -/
section
variable {X : Cx} {pins : List (Addr × Obj)} {σ : St} {H : Hp} {s : Shared}
theorem Inv.two {h' : Heap} {d a : Addr} {o1 o2 : HO} {t' : Nat} (I : Inv X pins σ H s) (k : ∀ b u, s.heap.get? b = some u → h'.get? b = some u) (hd : s.heap.objs.size ≤ d) (ha : s.heap.objs.size ≤ a) (ne : d ≠ a)
    (n1 : ObjOk X.prog X.w (upd (upd H d o1) a o2) h' d o1) (n2 : ObjOk X.prog X.w (upd (upd H d o1) a o2) h' a o2) : Inv X pins σ (upd (upd H d o1) a o2) { s with heap := h', toks := t' } := by
  have fd := I.hok.fresh hd
  have fa := I.hok.fresh ha
  have od : ∀ {b : Addr} {u : Obj}, s.heap.get? b = some u → b ≠ d := fun q => Nat.ne_of_lt (Nat.lt_of_lt_of_le (Heap.lt_size q) hd)
  have oa : ∀ {b : Addr} {u : Obj}, s.heap.get? b = some u → b ≠ a := fun q => Nat.ne_of_lt (Nat.lt_of_lt_of_le (Heap.lt_size q) ha)
  have up : ∀ {b : Addr} {o : HO}, H b = some o → upd (upd H d o1) a o2 b = some o := fun q => by
    rw [upd_ne (ne_of_none q fa), upd_ne (ne_of_none q fd)]
    exact q
  refine I.un (t' := t') { keep := fun b u q _ _ _ => k b u q, slot := fun b u q _ _ _ => ⟨u.slots, k b u q⟩, free := fun b u q n _ => ?_, there := fun b u q _ => ⟨u, k b u q⟩, tups := fun b xs q => up q, frzs := fun b o xs q => up q, tbls := fun b ps q => ⟨#[], by rw [up q]; simp⟩ } fun b o q => ?_
  · rw [upd_ne (oa q), upd_ne (od q)]
    exact n
  · by_cases ea : b = a
    · rw [ea, upd_same] at q
      cases q
      rw [ea]
      exact n2
    · rw [upd_ne ea] at q
      by_cases ed : b = d
      · rw [ed, upd_same] at q
        cases q
        rw [ed]
        exact n1
      · rw [upd_ne ed] at q
        exact (I.hok b o q).stay (fun c u _ r => k c u r) (fun c r => up r) fun c xs r => up r
end
/-- what the written part says of an own exception class at C -/
structure Exk (K : PySem.W.Frag) (C : Addr) (bmB : List Value) (newId : String) : Prop where
  sto : PySem.Xv.Sto K C bmB
  ga : PySem.W.findIn K (.ref C) "__getattribute__" = some (some (.builtin "BaseException.__getattribute__"))
  gg : PySem.W.findIn K (.ref C) "__getattr__" = some none
  sub : PySem.W.subIn K (.ref C) (.type "BaseException") = some true
  cl : PySem.W.findIn K (.ref C) "__class__" = some (some (.builtin "object.__class__"))
  sg : PySem.W.specialIn K (.builtin "object.__class__") "__get__" = some (some (.builtin "getset_descriptor.__get__"))
  tk : PySem.W.takesIn K (.builtin "object.__class__") = some true
  mr : PySem.W.mroIn K C (.type "object") = some true
  cs : (PySem.W.clsIn K C).isSome = true
  kC : PySem.W.keepIn K (.ref C) = true
  ini : PySem.W.excInitIn K C bmB newId = true
/-- one built-in base -/
structure Bas (B newId initId : String) (bmB : List Value) : Prop where
  f : ExcBaseFacts B newId initId bmB
  s : StoreFacts B bmB "object.__setattr__" "object"
/-- a class with one field -/
structure One (K : PySem.W.Frag) (C : Addr) (bmB : List Value) (newId : String) (f : Str) : Prop where
  ex : Exk K C bmB newId
  ff : PySem.Xv.Field f
  no : PySem.W.findIn K (.ref C) f = some none
  tk : PySem.W.takerIn K C f = some none
  ini : ∃ (fI : Addr) (qual : Str) (oc doc pm cdv ct : Value) (od an : Option Addr) (osl : Array (Option Value)) (p1 p2 q1 q2 q3 q4 : Pos), PySem.W.findIn K (.ref C) "__init__" = some (some (.ref fI)) ∧ PySem.W.typeIn K (.ref fI) = some (.type "function") ∧
    K.lookup fI = some ⟨oc, od, .func (PySem.W.fnOf "__init__" qual (PySem.Xv.a1 f p1 p2) (PySem.Xv.b1 f q1 q2 q3 q4) (PySem.Xv.s1 f) .none .none doc pm an cdv ct), osl⟩ ∧ PySem.W.codeIn K cdv qual = true
structure Two (K : PySem.W.Frag) (C : Addr) (bmB : List Value) (newId : String) : Prop where
  ex : Exk K C bmB newId
  no1 : PySem.W.findIn K (.ref C) "mode" = some none
  tk1 : PySem.W.takerIn K C "mode" = some none
  no2 : PySem.W.findIn K (.ref C) "key" = some none
  tk2 : PySem.W.takerIn K C "key" = some none
  ini : ∃ (fI : Addr) (qual : Str) (oc doc pm cdv ct : Value) (od an : Option Addr) (osl : Array (Option Value)) (p1 p2 p3 q1 q2 q3 q4 r1 r2 r3 r4 : Pos), PySem.W.findIn K (.ref C) "__init__" = some (some (.ref fI)) ∧ PySem.W.typeIn K (.ref fI) = some (.type "function") ∧
    K.lookup fI = some ⟨oc, od, .func (PySem.W.fnOf "__init__" qual (PySem.Xv.a2 p1 p2 p3) (PySem.Xv.b2 q1 q2 q3 q4 r1 r2 r3 r4) PySem.Xv.s2 .none .none doc pm an cdv ct), osl⟩ ∧ PySem.W.codeIn K cdv qual = true
theorem relOne {v : V} {v' : Value} (r : RelV v v') (f g : Str) : RelO (List.lookup g [(f, v)]) (if g = f then some v' else none) := by
  by_cases e : g = f
  · subst e
    rw [if_pos rfl]
    have q : List.lookup g [(g, v)] = some v := by simp [List.lookup]
    rw [q]
    exact r
  · rw [if_neg e]
    have q : (g == f) = false := by simpa using e
    simp [List.lookup, q, RelO]
section
variable {X : Cx} {pins : List (Addr × Obj)} {σ : St} {H : Hp} {s : Shared} {C : Addr} {B newId initId : String} {bmB : List Value} {f : Str}
/-- C(y), C(f=y) -/
theorem run_one {rest : List Value} {kw : List (Str × Value)} {y : V} {u : Value} {Q : VK} (D : Bas B newId initId bmB) (T : One X.K C bmB newId f) (hr : Room 1 X.A) (I : Inv X pins σ H s) (ry : RelV y u)
    (ha : (rest = [u] ∧ kw = []) ∨ (rest = [] ∧ kw = [(f, u)])) (h : ∀ a d, H a = none → H d = none → d ≠ a → Q (.ref a) (upd (upd H d (exd d [(f, y)])) a (exo a C (some d)))) :
    wpAny (model X.prog X.w) X.A (call (.ref C) rest kw) (EP X pins σ Q) X.xe s := by
  obtain ⟨nm, N, qn, bs, bm, hdct, sn, sub, ab, col, dd, k0, k1, k2, k3, k5, hC, hT⟩ := PySem.W.excInit_of I.kIn T.ex.ini
  obtain ⟨fI, qual, oc, doc, pm, cdv, ct, od, an, osl, p1, p2, q1, q2, q3, q4, iC, tI, ho, hcd⟩ := T.ini
  have hlim := I.nolimit
  obtain ⟨hp, g, dr, tk, os⟩ := s
  have k : ∀ b o, hp.get? b = some o → ((hp.push (PySem.W.kdv_tup rest)).push (PySem.HandSPX.excO C hp.objs.size)).get? b = some o := fun b o e => Heap.get?_push_of_some _ (Heap.get?_push_of_some _ e)
  have hget : ((hp.push (PySem.W.kdv_tup rest)).push (PySem.HandSPX.excO C hp.objs.size)).get? (hp.objs.size + 1) = some (PySem.HandSPX.excO C hp.objs.size) := by heap_get
  have hl : rest.length ≤ sizeLine := by
    rcases ha with ⟨rfl, _⟩ | ⟨rfl, _⟩ <;> · rw [sizeLine_eq]; simp
  refine wpAny_call (PySem.Xv.made D.f hT hC (PySem.W.looks_findIn I.kIn iC) (fun self => PySem.W.bind_fn I.kIn self tI) hl ?_)
  refine PySem.Xv.init1 (x := hp.objs.size + 1) (t0 := hp.objs.size) (v := u) T.ff ho hcd ?_ D.s T.ex.sto T.tk (I.kIn.keeps k) (hlim.keeps k) hget ?_ fun h' tk' dx k' dn hx hns => ?_
  · rcases ha with ⟨rfl, rfl⟩ | ⟨rfl, rfl⟩ <;> rcases T.ff with rfl | rfl | rfl | rfl | rfl | rfl <;> exact .of_eq (by first | rfl | with_unfolding_all rfl)
  · rw [show (X.A.under _).depth = X.A.depth + 1 from by first | rfl | simp [Around.under, Code.weight, Code.isCreation, Code.isGuard, Code.isCaller, Code.frames, Code.isFrame, guardIds]]
    have := hr.dp
    omega
  · refine ⟨rfl, ?_⟩
    have sz : hp.objs.size + 1 + 1 ≤ dx := by
      have z := dn
      simpa only [Heap.size_push] using z
    have J := I.two (t' := tk') (d := dx) (a := hp.objs.size + 1) (o1 := exd dx [(f, y)]) (o2 := exo (hp.objs.size + 1) C (some dx)) (h' := h') (fun b o e => k' b o (Nat.ne_of_lt (Nat.lt_succ_of_lt (Heap.lt_size e))) (k b o e))
      (Nat.le_trans (Nat.le_trans (Nat.le_succ _) (Nat.le_succ _)) sz) (Nat.le_succ _) (Nat.ne_of_gt sz) (exd_ok hns (relOne ry f)) (exo_ok hx)
    exact ⟨.ref (hp.objs.size + 1), _, J, rfl, h _ _ (I.hok.fresh (Nat.le_succ _)) (I.hok.fresh (Nat.le_trans (Nat.le_trans (Nat.le_succ _) (Nat.le_succ _)) sz)) (Nat.ne_of_gt sz)⟩
end
end L2
end

section
set_option Elab.async false
set_option linter.all false
set_option maxRecDepth 100000
set_option maxHeartbeats 8000000
namespace L2
open PySem PySem.Spec PyProof.Rows
/-- a class without __init__ -/
structure Zero (K : PySem.W.Frag) (C : Addr) (bmB : List Value) (newId initId : String) : Prop where
  ex : Exk K C bmB newId
  ini : PySem.W.findIn K (.ref C) "__init__" = some (some (.builtin initId))
theorem relTwo {v1 v2 : V} {u1 u2 : Value} (r1 : RelV v1 u1) (r2 : RelV v2 u2) (g : Str) : RelO (List.lookup g [(("key" : Str), v2), ("mode", v1)]) (PySem.Xv.two u1 u2 g) := by
  unfold PySem.Xv.two
  rw [lookup_put]
  by_cases e : g = "key"
  · rw [if_pos e, if_pos e]
    exact r2
  · rw [if_neg e, if_neg e]
    exact relOne r1 "mode" g
theorem under_depth {A : Around} {C : Addr} {us : List Value} {kw : List (Str × Value)} : (A.under (.builtin "type.__call__" ⟨.ref C :: us, kw⟩)).depth = A.depth + 1 := by
  first | rfl | simp [Around.under, Code.weight, Code.isCreation, Code.isGuard, Code.isCaller, Code.frames, Code.isFrame, guardIds]
section
variable {X : Cx} {pins : List (Addr × Obj)} {σ : St} {H : Hp} {s : Shared} {C : Addr} {B newId initId : String} {bmB : List Value} {f : Str}
/-- C(y, z), C(key=z, mode=y) -/
theorem run_two {rest : List Value} {kw : List (Str × Value)} {y z : V} {u v : Value} {Q : VK} (D : Bas B newId initId bmB) (T : Two X.K C bmB newId) (hr : Room 1 X.A) (I : Inv X pins σ H s) (ry : RelV y u) (rz : RelV z v)
    (ha : (rest = [u, v] ∧ kw = []) ∨ (rest = [] ∧ kw = [(("key" : Str), v), (("mode" : Str), u)])) (h : ∀ a d, H a = none → H d = none → d ≠ a → Q (.ref a) (upd (upd H d (exd d [("key", z), ("mode", y)])) a (exo a C (some d)))) :
    wpAny (model X.prog X.w) X.A (call (.ref C) rest kw) (EP X pins σ Q) X.xe s := by
  obtain ⟨nm, N, qn, bs, bm, hdct, sn, sub, ab, col, dd, k0, k1, k2, k3, k5, hC, hT⟩ := PySem.W.excInit_of I.kIn T.ex.ini
  obtain ⟨fI, qual, oc, doc, pm, cdv, ct, od, an, osl, p1, p2, p3, q1, q2, q3, q4, r1, r2, r3, r4, iC, tI, ho, hcd⟩ := T.ini
  have hlim := I.nolimit
  obtain ⟨hp, g, dr, tk, os⟩ := s
  have k : ∀ b o, hp.get? b = some o → ((hp.push (PySem.W.kdv_tup rest)).push (PySem.HandSPX.excO C hp.objs.size)).get? b = some o := fun b o e => Heap.get?_push_of_some _ (Heap.get?_push_of_some _ e)
  have hget : ((hp.push (PySem.W.kdv_tup rest)).push (PySem.HandSPX.excO C hp.objs.size)).get? (hp.objs.size + 1) = some (PySem.HandSPX.excO C hp.objs.size) := by heap_get
  have hl : rest.length ≤ sizeLine := by
    rcases ha with ⟨rfl, _⟩ | ⟨rfl, _⟩ <;> · rw [sizeLine_eq]; simp
  have hnx : X.K.lookup (hp.objs.size + 1) = none := by
    cases e : X.K.lookup (hp.objs.size + 1) with
    | none => rfl
    | some o => exact absurd (Nat.lt_of_succ_lt (Heap.lt_size (I.kIn _ _ e))) (Nat.lt_irrefl _)
  refine wpAny_call (PySem.Xv.made D.f hT hC (PySem.W.looks_findIn I.kIn iC) (fun self => PySem.W.bind_fn I.kIn self tI) hl ?_)
  refine PySem.Xv.init2 (x := hp.objs.size + 1) (t0 := hp.objs.size) (v1 := u) (v2 := v) ho hcd ?_ D.s T.ex.sto T.tk1 T.tk2 (I.kIn.keeps k) (hlim.keeps k) hget hnx ?_ fun h' tk' dx k' dn hx hns => ?_
  · rcases ha with ⟨rfl, rfl⟩ | ⟨rfl, rfl⟩ <;> exact .of_eq (by first | rfl | with_unfolding_all rfl)
  · rw [under_depth]
    have := hr.dp
    omega
  · refine ⟨rfl, ?_⟩
    have sz : hp.objs.size + 1 + 1 ≤ dx := by
      have z := dn
      simpa only [Heap.size_push] using z
    have J := I.two (t' := tk') (d := dx) (a := hp.objs.size + 1) (o1 := exd dx [("key", z), ("mode", y)]) (o2 := exo (hp.objs.size + 1) C (some dx)) (h' := h') (fun b o e => k' b o (Nat.ne_of_lt (Nat.lt_succ_of_lt (Heap.lt_size e))) (k b o e))
      (Nat.le_trans (Nat.le_trans (Nat.le_succ _) (Nat.le_succ _)) sz) (Nat.le_succ _) (Nat.ne_of_gt sz) (exd_ok hns (relTwo ry rz)) (exo_ok hx)
    exact ⟨.ref (hp.objs.size + 1), _, J, rfl, h _ _ (I.hok.fresh (Nat.le_succ _)) (I.hok.fresh (Nat.le_trans (Nat.le_trans (Nat.le_succ _) (Nat.le_succ _)) sz)) (Nat.ne_of_gt sz)⟩
/-- C() -/
theorem run_zero {Q : VK} (D : Bas B newId initId bmB) (T : Zero X.K C bmB newId initId) (I : Inv X pins σ H s) (h : ∀ a, H a = none → Q (.ref a) (upd H a (exo a C none))) :
    wpAny (model X.prog X.w) X.A (call (.ref C) [] []) (EP X pins σ Q) X.xe s := by
  obtain ⟨nm, N, qn, bs, bm, hdct, sn, sub, ab, col, dd, k0, k1, k2, k3, k5, hC, hT⟩ := PySem.W.excInit_of I.kIn T.ex.ini
  obtain ⟨hp, g, dr, tk, os⟩ := s
  have k : ∀ b o, hp.get? b = some o → ((hp.push (PySem.W.kdv_tup [])).push (PySem.HandSPX.excO C hp.objs.size)).get? b = some o := fun b o e => Heap.get?_push_of_some _ (Heap.get?_push_of_some _ e)
  have hget : ((hp.push (PySem.W.kdv_tup [])).push (PySem.HandSPX.excO C hp.objs.size)).get? (hp.objs.size + 1) = some (PySem.HandSPX.excO C hp.objs.size) := by heap_get
  refine wpAny_call (PySem.Xv.made D.f hT hC (PySem.W.looks_findIn I.kIn T.ini) (fun self => by rw [D.f.init.bind self]; exact .now) (Nat.zero_le _) ?_)
  refine PySem.HandSPX.init_base D.f hT (k _ _ hC) hget (Nat.zero_le _) fun h' t1 k' hx => ?_
  refine ⟨rfl, ?_⟩
  have J := I.laid (t' := tk) (a := hp.objs.size + 1) (o := exo (hp.objs.size + 1) C none) (h' := h') (fun b o e => k' b o (Nat.ne_of_lt (Nat.lt_succ_of_lt (Heap.lt_size e))) (k b o e)) (Nat.le_succ _) (exo_ok hx)
  exact ⟨.ref (hp.objs.size + 1), _, J, rfl, h _ (I.hok.fresh (Nat.le_succ _))⟩
end
/-! ### the readings and the rules -/
def tMk1 (C : Addr) (f : Str) (ta : TA) : TE := fun σ H Q => ta σ H fun vs H1 => ∃ y, vs = [y] ∧ ∀ a d, H1 a = none → H1 d = none → d ≠ a → Q (.ref a) (upd (upd H1 d (exd d [(f, y)])) a (exo a C (some d)))
def tMk2 (C : Addr) (ta : TA) : TE := fun σ H Q => ta σ H fun vs H1 => ∃ y z, vs = [y, z] ∧ ∀ a d, H1 a = none → H1 d = none → d ≠ a → Q (.ref a) (upd (upd H1 d (exd d [("key", z), ("mode", y)])) a (exo a C (some d)))
def tMk2k (C : Addr) (ta : TA) : TE := fun σ H Q => ta σ H fun vs H1 => ∃ y z, vs = [z, y] ∧ ∀ a d, H1 a = none → H1 d = none → d ≠ a → Q (.ref a) (upd (upd H1 d (exd d [("key", z), ("mode", y)])) a (exo a C (some d)))
def tMk0 (C : Addr) : TE := fun σ H Q => ∀ a, H a = none → Q (.ref a) (upd H a (exo a C none))
section
variable {X : Cx} {C : Addr} {B newId initId : String} {bmB : List Value} {f x : Str} {e : Expr} {es : List Expr} {kws : List Keyword} {ta : TA} {p pos : Pos}
theorem pe_mk1 (D : Bas B newId initId bmB) (T : One X.K C bmB newId f) (hr : Room 1 X.A) (hm : X.mg x = some (.ref C)) (ha : PA X [e] ta) (hg : Gl X x := by rfl) (hdb : (x == ("__debug__" : Str)) = false := by decide)
    (he : starEach (e :: []) X.env = (false, eval e X.env) :: starEach [] X.env := by rfl) (hpl : (backTo pos (starEach [] X.env)).any (·.1) = false := by rfl) :
    PE X (.Call (.Name x p) [e] [] pos) (tMk1 C f ta) := by
  refine ⟨fun pins s σ H Q I h => ?_⟩
  refine wpAny_Call_Name_kw (ld_glob I hg hm ?_ hdb)
  refine PySem.W.callWith_K (h₀ := X.base) I.ok.mod.kin T.ex.kC (thn (ha.run pos pins s σ H _ I h) fun us s1 ⟨vs, H1, I1, r, y, ev, q⟩ => ⟨I1.kIn, ?_⟩) he hpl
  subst ev
  obtain ⟨u, rfl, ru⟩ := vals1 r
  exact run_one D T hr I1 ru (.inl ⟨rfl, rfl⟩) q
theorem pe_mk1k (D : Bas B newId initId bmB) (T : One X.K C bmB newId f) (hr : Room 1 X.A) (hm : X.mg x = some (.ref C)) (hkw : PK X kws ta) (hg : Gl X x := by rfl) (hdb : (x == ("__debug__" : Str)) = false := by decide)
    (hall : (backToKw pos (keywordEach kws X.env)).all (·.1.isSome) = true := by rfl) (hks : (backToKw pos (keywordEach kws X.env)).filterMap (·.1) = [f] := by rfl)
    (hpl : ((backTo pos (starEach [] X.env)).any (·.1) || (backToKw pos (keywordEach kws X.env)).any (·.1.isNone)) = false := by rfl) :
    PE X (.Call (.Name x p) [] kws pos) (tMk1 C f ta) := by
  refine ⟨fun pins s σ H Q I h => ?_⟩
  refine wpAny_Call_Name_kw (ld_glob I hg hm ?_ hdb)
  refine PySem.W.callWith_KW0 (h₀ := X.base) I.ok.mod.kin T.ex.kC hall (thn (hkw.run pos pins s σ H _ I h) fun us s1 ⟨vs, H1, I1, r, y, ev, q⟩ => ⟨I1.kIn, ?_⟩) hpl
  rw [hks]
  subst ev
  obtain ⟨u, rfl, ru⟩ := vals1 r
  exact run_one D T hr I1 ru (.inr ⟨rfl, rfl⟩) q
theorem pe_mk2 (D : Bas B newId initId bmB) (T : Two X.K C bmB newId) (hr : Room 1 X.A) (hm : X.mg x = some (.ref C)) (ha : PA X (e :: es) ta) (hg : Gl X x := by rfl) (hdb : (x == ("__debug__" : Str)) = false := by decide)
    (he : starEach (e :: es) X.env = (false, eval e X.env) :: starEach es X.env := by rfl) (hpl : (backTo pos (starEach es X.env)).any (·.1) = false := by rfl) :
    PE X (.Call (.Name x p) (e :: es) [] pos) (tMk2 C ta) := by
  refine ⟨fun pins s σ H Q I h => ?_⟩
  refine wpAny_Call_Name_kw (ld_glob I hg hm ?_ hdb)
  refine PySem.W.callWith_K (h₀ := X.base) I.ok.mod.kin T.ex.kC (thn (ha.run pos pins s σ H _ I h) fun us s1 ⟨vs, H1, I1, r, y, z, ev, q⟩ => ⟨I1.kIn, ?_⟩) he hpl
  subst ev
  obtain ⟨u, v, rfl, ru, rv⟩ := vals2 r
  exact run_two D T hr I1 ru rv (.inl ⟨rfl, rfl⟩) q
theorem pe_mk2k (D : Bas B newId initId bmB) (T : Two X.K C bmB newId) (hr : Room 1 X.A) (hm : X.mg x = some (.ref C)) (hkw : PK X kws ta) (hg : Gl X x := by rfl) (hdb : (x == ("__debug__" : Str)) = false := by decide)
    (hall : (backToKw pos (keywordEach kws X.env)).all (·.1.isSome) = true := by rfl) (hks : (backToKw pos (keywordEach kws X.env)).filterMap (·.1) = [("key" : Str), "mode"] := by rfl)
    (hpl : ((backTo pos (starEach [] X.env)).any (·.1) || (backToKw pos (keywordEach kws X.env)).any (·.1.isNone)) = false := by rfl) :
    PE X (.Call (.Name x p) [] kws pos) (tMk2k C ta) := by
  refine ⟨fun pins s σ H Q I h => ?_⟩
  refine wpAny_Call_Name_kw (ld_glob I hg hm ?_ hdb)
  refine PySem.W.callWith_KW0 (h₀ := X.base) I.ok.mod.kin T.ex.kC hall (thn (hkw.run pos pins s σ H _ I h) fun us s1 ⟨vs, H1, I1, r, y, z, ev, q⟩ => ⟨I1.kIn, ?_⟩) hpl
  rw [hks]
  subst ev
  obtain ⟨u, v, rfl, ru, rv⟩ := vals2 r
  exact run_two D T hr I1 rv ru (.inr ⟨rfl, rfl⟩) q
theorem pe_mk0 (D : Bas B newId initId bmB) (T : Zero X.K C bmB newId initId) (hm : X.mg x = some (.ref C)) (hg : Gl X x := by rfl) (hdb : (x == ("__debug__" : Str)) = false := by decide) :
    PE X (.Call (.Name x p) [] [] pos) (tMk0 C) := by
  refine ⟨fun pins s σ H Q I h => ?_⟩
  refine wpAny_Call_Name_kw (ld_glob I hg hm ?_ hdb)
  exact PySem.W.callWith_K0 I.kIn T.ex.kC (run_zero D T I h)
end
/-! ### a field read; isinstance -/
def tFx (K : PySem.W.Frag) (f : Str) (te : TE) : TE := fun σ H Q => te σ H fun x H1 => ∃ (a C d : Addr) (bmB : List Value) (newId : String) (fs : List (Str × V)) (v : V), x = .ref a ∧ Exk K C bmB newId ∧ PySem.W.findIn K (.ref C) f = some none ∧ H1 a = some (exo a C (some d)) ∧ H1 d = some (exd d fs) ∧ fs.lookup f = some v ∧ Q v H1
section
variable {X : Cx} {e : Expr} {te : TE} {f : Str} {pos : Pos}
theorem pe_fx (he : PE X e te) (hb : attributeBase e f X.env (eval e X.env) = eval e X.env := by rfl) : PE X (.Attribute e f pos) (tFx X.K f te) := by
  refine ⟨fun pins s σ H Q I h => ?_⟩
  refine attr_of hb (thn (he.run pins s σ H _ I h) fun u s1 ⟨x, H1, I1, rx, a, C, d, bmB, newId, fs, v, ex, T, no, ea, ed, l, q⟩ => ?_)
  subst ex
  obtain rfl : u = Value.ref a := rx
  obtain ⟨t1, ho⟩ := exo_at I1.hok ea
  obtain ⟨mA, hns, rel⟩ := exd_at I1.hok ed
  obtain ⟨od, hod, hl⟩ := lookIn_ns hns
  obtain ⟨w', hw, rw'⟩ := RelO.some_of (v := v) (o := mA f) (by rw [← l]; exact rel f)
  have J : PySem.W.InstAt s1.heap a _ C (some od) := ⟨ho, rfl, rfl, hod⟩
  exact PySem.HandSPX.exc_get I1.kIn J T.ga T.gg T.sub (PySem.W.findObj_own T.sto.hd no rfl (by rw [hl, hw])) (handed_of rw') ⟨v, H1, I1.tok _, rw', q⟩
/-- isinstance(e, c), e an exception of an own class -/
def rIsX (K : PySem.W.Frag) : List V → Hp → VK → Prop := fun xs H Q => ∃ (a C : Addr) (d : Option Addr) (fs : List (Str × V)) (bmB : List Value) (newId : String) (c : V) (u : Value) (b : Bool), xs = [.ref a, c] ∧ Exk K C bmB newId ∧ H a = some (exo a C d) ∧ (∀ dd, d = some dd → H dd = some (exd dd fs)) ∧ ClsV c u ∧ PySem.W.kitOne K (.ref C) u = some b ∧ Q (.bl b) H
theorem call_isX : CallR X (.builtin "isinstance") (rIsX X.K) := by
  intro pins s σ H xs us Q I r h
  obtain ⟨a, C, d, fs, bmB, newId, c, u, b, rfl, T, ea, ed, k, e, q⟩ := h
  obtain ⟨u1, u2, rfl, r1, r2⟩ := vals2 r
  have e2 := k.eq r2
  subst e2
  obtain rfl : u1 = Value.ref a := r1
  obtain ⟨t1, ho⟩ := exo_at I.hok ea
  have J : ∃ od, PySem.W.InstAt s.heap a { cls := .ref C, dict := d, data := .fields #[.ref t1, .none, .none, .none, .bool false, .none] } C od := by
    cases d with
    | none => exact ⟨none, ho, rfl, rfl, trivial⟩
    | some dd =>
      obtain ⟨mA, hns, rel⟩ := exd_at I.hok (ed dd rfl)
      obtain ⟨od, hod, hl⟩ := lookIn_ns hns
      exact ⟨some od, ho, rfl, rfl, hod⟩
  obtain ⟨od, J⟩ := J
  exact PySem.W.kia_one (PySem.W.kitx_exc (od := od) T.cs T.ga T.gg T.sub T.cl T.sg T.tk T.mr) I.kIn J e (fun z => nomatch z) fun tk => ⟨.bl b, H, I.tok tk, rfl, q⟩
end
end L2
end

section
set_option Elab.async false
set_option linter.all false
set_option maxRecDepth 100000
set_option maxHeartbeats 8000000
namespace L2
open PySem PySem.Spec PyProof.Rows
/-! ### defs that are called where nothing is being shown (repr asks it) -/
structure FnG (P : Program) (w : World) (K : PySem.W.Frag) (mg : Str → Option Value) (base : Heap) (CX : CXT) (k : Nat) (f : Addr) (fd : FuncData) (ps : List Str) (sp : Sp) : Prop where
  len : ∀ vs H Q E, sp vs H Q E → vs.length = ps.length
  run : ∀ (A : Around) (outer : List Env) (s : Shared) (H : Hp) (args : Args) (us : List Value) (vs : List V) (Q : VK) (E : XK), A.guards = some [] → Room k A → Env0 P w K mg base A outer s H → BindsTo s fd args (ps.zip us) → Vals vs us → sp vs H Q E →
    codeAny (model P w) A (.call (.ref f) args) (CR CX outer P w H s Q E) s
section
variable {P : Program} {w : World} {K : PySem.W.Frag} {mg : Str → Option Value} {base : Heap}
theorem Fun.okG {x qual : Str} {st : Stmt} {f : Addr} {fd : FuncData} {N ps : List Str} {k : Nat} {sp : Sp} (F : Fun K x qual st f fd) (S : FnScope N ps (defScope st)) (len : ∀ vs H Q E, sp vs H Q E → vs.length = ps.length)
    (hbody : ∀ (cdv : Value) (A : Around) (outer : List Env) (s : Shared) (H : Hp) (vs : List V) (Q : VK) (E : XK), A.guards = some [] → Room k (A.deeper (envOfC qual (defScope st) s.heap.objs.size f cdv)) → sp vs H Q E →
      ∃ t, PSs (cxOf CX0 P w K mg base N qual (defScope st) f cdv A outer s H E).nox (defBody st) t ∧ t { nx := fun _ H' => Q .non H', rt := Q } (start N vs) H) : FnG P w K mg base CX0 (k + 1) f fd ps sp := by
  obtain ⟨oc, od, kV, doc, pm, an, cdv, ct, osl, rfl, lk, hcd⟩ := F.ex
  refine ⟨len, fun A outer s H args us vs Q E hg hr e0 hb r hsp => ?_⟩
  have KX : K.In s.heap := e0.mod.kin.keeps fun b o e => (e0.bs b o e).1
  have lim : s.heap.NoLimit := e0.mod.nolimit.keeps fun b o e => (e0.bs b o e).1
  have kinds : ∀ y ∈ ps.zip us, (defScope st).names.lookup y.1 = some .local ∨ ((defScope st).names.lookup y.1 = some .cell ∧ ((cellsFrom (s.heap.objs.size + 1) (defScope st).names []).lookup y.1).isSome = true) := by
    rintro ⟨n, v⟩ hy
    exact (S.par n (List.of_mem_zip hy).1).imp id fun q => ⟨q, PySem.W.cellsFrom_some _ _ _ (.inl q)⟩
  refine codeAny_call_function hr.depth (KX _ _ lk) rfl S.co S.gen rfl (PySem.W.codeRec_of KX hcd) (hb _ _ _ _ (wpAny_newFunctionEnv_cells S.kind kinds fun env he s1 x => ?_))
  subst he
  obtain ⟨t, ht0, hq⟩ := hbody cdv A outer s H vs Q E hg (hr.deeper _) hsp
  have ht : PSs (cxOf CX0 P w K mg base N qual (defScope st) f cdv A outer s H E) (defBody st) t := ht0.nox
  have I : Inv (cxOf CX0 P w K mg base N qual (defScope st) f cdv A outer s H E) [] (start N vs) H s1 := inv_start S hr.hd e0 (len _ _ _ _ hsp) r x
  refine ⟨lim.keeps x.toInCall.keep, codeAny_func (wpAny_mono (ht.run [] s1 (start N vs) H _ I hq) (fun fl s' hs => ?_) fun e s' hs => hs)⟩
  cases fl with
  | ret u =>
    obtain ⟨v, σ', H', J, rv, q⟩ := hs
    exact ⟨v, H', J.os, J.bare, J.base, J.hok, rv, q⟩
  | next =>
    obtain ⟨σ', H', J, q⟩ := hs
    exact ⟨.non, H', J.os, J.bare, J.base, J.hok, rfl, q⟩
  | brk =>
    obtain ⟨_, _, _, q⟩ := hs
    exact q.elim
  | cont =>
    obtain ⟨_, _, _, q⟩ := hs
    exact q.elim
end
section
variable {X : Cx} {k : Nat} {f : Addr} {fd : FuncData} {ps : List Str} {sp : Sp} {E : XK} {x : Str} {p pos : Pos} {e : Expr} {es : List Expr} {t : TA}
theorem pe_callG (F : FnG X.prog X.w X.K X.mg X.base CX0 k f fd ps sp) (hgd : X.A.guards = some []) (hr : Room k X.A) (hg : Gl X x) (hm : X.mg x = some (.ref f)) (hk : PySem.W.keepIn X.K (.ref f) = true) (hb : Binds X.K fd ps [])
    (ha : PA X (e :: es) t) (hdb : (x == ("__debug__" : Str)) = false := by decide) (he : starEach (e :: es) X.env = (false, eval e X.env) :: starEach es X.env := by rfl) (hpl : (backTo pos (starEach es X.env)).any (·.1) = false := by rfl) :
    PE X (.Call (.Name x p) (e :: es) [] pos) (tCall sp [] E t) := by
  refine ⟨fun pins s σ H Q I h => ?_⟩
  refine wpAny_Call_Name_kw (ld_glob I hg hm ?_ hdb)
  refine PySem.W.callWith_K (h₀ := X.base) I.ok.mod.kin hk (thn (ha.run pos pins s σ H _ I h) fun us s1 ⟨vs, H1, I1, r, q⟩ => ⟨I1.kIn, ?_⟩) he hpl
  have q : sp vs H1 Q E := by
    have z : sp (vs ++ []) H1 Q E := q
    rw [List.append_nil] at z
    exact z
  have hl : us.length = ps.length := by rw [← r.length]; exact F.len _ _ _ _ q
  refine wpAny_call (codeAny_mono (F.run X.A X.stack s1 H1 ⟨us, []⟩ us vs Q E hgd hr I1.env0 (by have z := hb s1 us I1.kIn (by rw [List.append_nil]; exact hl); rw [List.append_nil] at z; exact z) r q) fun r s' hq => ?_)
  cases r with
  | error e => exact False.elim hq
  | ok fl =>
    cases fl with
    | ret u => exact I1.after hq
    | next => exact False.elim hq
    | brk => exact False.elim hq
    | cont => exact False.elim hq
end
/-! ### data with dicts of one text key: what it shows, that it equals itself -/
inductive Dq (K : PySem.W.Frag) (H : Hp) : V → PyData → Prop
  | pl {v : V} {d : PyData} (h : Dp K H v d) (n : d.hasDict = false) (sh : SeqAt.shaped d = true) (e : PyData.eqv d d = true) : Dq K H v d
  | d0 {a : Addr} (h : H a = some (.dK [])) : Dq K H (.ref a) (.dict [])
  | d1 {a : Addr} (h : H a = some (.dK [(.inr "a", .int 1)])) : Dq K H (.ref a) (.dict [(.str "a", .int 1)])
section
variable {X : Cx} {pins : List (Addr × Obj)} {σ : St} {H : Hp} {s : Shared}
theorem Dq.reads (I : Inv X pins σ H s) {v : V} {d : PyData} {u : Value} (q : Dq X.K H v d) (r : RelV v u) : ∃ as, Reads s.heap u d as ∧ (d.hasDict = true → sysModules ∉ as) := by
  cases q with
  | pl h n sh e =>
    obtain ⟨as, z⟩ := Dp.reads I d v u h r
    exact ⟨as, z, PyData.noDict_hsm n⟩
  | @d0 a h =>
    obtain rfl := (show u = Value.ref _ from r)
    obtain ⟨_, ns, vs, kv, o, es, ep, h1, h2, h3, _, h4, _⟩ := (show ObjOk X.prog X.w H s.heap _ (.dK []) from I.hok _ _ h)
    cases kv
    have e : es.toList = [] := by
      cases z : es.toList with
      | nil => rfl
      | cons x l => rw [z] at h4; cases h4
    have R : Reads s.heap (.ref a) (.dict []) (a :: [] ++ []) := Reads.dict h1 h2.1 h3 (by rw [e]; exact .nil) (by rw [e]; exact .nil)
    refine ⟨_, R, fun _ hm => ?_⟩
    have z : sysModules = a := by simpa using hm
    rw [← z] at ns
    simp at ns
  | @d1 a h =>
    obtain rfl := (show u = Value.ref _ from r)
    obtain ⟨_, ns, vs, kv, o, es, ep, h1, h2, h3, _, h4, _⟩ := (show ObjOk X.prog X.w H s.heap _ (.dK [(.inr "a", .int 1)]) from I.hok _ _ h)
    cases kv with
    | @cons _ q0 _ _ p t =>
      cases t
      obtain ⟨k0, w0⟩ := q0
      obtain ⟨p1, p2⟩ := p
      have p1' : (Sum.inr ("a" : Str) : Key) = k0 := p1
      subst p1'
      obtain ⟨t1, ew⟩ := (show ∃ t, w0 = Value.int 1 t from p2)
      cases z : es.toList with
      | nil => rw [z] at h4; cases h4
      | cons x l =>
        rw [z] at h4
        cases h4 with
        | cons i1 i2 i3 =>
          cases l with
          | cons _ _ => cases i3
          | nil =>
            rcases keyIs_shape (show keyIs (Sum.inr ("a" : Str)) x.key = true from i1) with ⟨_, _, q1, _⟩ | ⟨y, t2, q1, q2⟩
            · cases q1
            · cases q1
              have ev : x.val = Value.int 1 t1 := i2.trans ew
              have R : Reads s.heap (.ref a) (.dict [(.str "a", .int 1)]) (a :: ([] ++ []) ++ ([] ++ [])) := Reads.dict h1 h2.1 h3 (by rw [z]; show ReadsAll _ [x.key] _ _; rw [q2]; exact .cons (.str _ _) .nil) (by rw [z]; show ReadsAll _ [x.val] _ _; rw [ev]; exact .cons (.int _ _) .nil)
              refine ⟨_, R, fun _ hm => ?_⟩
              have z : sysModules = a := by simpa using hm
              rw [← z] at ns
              simp at ns
theorem SqT.same {K : PySem.W.Frag} {H H' : Hp} {a : Addr} {xs : List V} (e : Same H H') (h : SqT K H a xs) : SqT K H' a xs := by
  rcases h with (h | ⟨o, h⟩) | h
  · exact .inl (.inl (e _ _ h))
  · exact .inl (.inr ⟨o, e _ _ h⟩)
  · exact .inr h
mutual
theorem Dp.same {K : PySem.W.Frag} {H H' : Hp} (S : Same H H') : ∀ (d : PyData) (v : V), Dp K H v d → Dp K H' v d
  | .none, _, h => by cases h; exact .non
  | .bool b, _, h => by cases h; exact .bl b
  | .int i, _, h => by cases h; exact .int i
  | .str x, _, h => by cases h; exact .str x
  | .list ds, _, h => by
    cases h with
    | lst hs ha => exact .lst (S.seq hs) (Dp.sameAll S ds _ ha)
  | .tuple ds, _, h => by
    cases h with
    | tup hs ha => exact .tup (hs.same S) (Dp.sameAll S ds _ ha)
  | .dict _, _, h => by cases h
theorem Dp.sameAll {K : PySem.W.Frag} {H H' : Hp} (S : Same H H') : ∀ (ds : List PyData) (vs : List V), DpAll K H vs ds → DpAll K H' vs ds
  | [], _, h => by cases h; exact .nil
  | d :: ds, _, h => by
    cases h with
    | cons h1 h2 => exact .cons (Dp.same S d _ h1) (Dp.sameAll S ds _ h2)
end
theorem Dq.same {H' : Hp} {K : PySem.W.Frag} (S : Same H H') {v : V} {d : PyData} (q : Dq K H v d) : Dq K H' v d := by
  cases q with
  | pl h n sh e => exact .pl (Dp.same S d v h) n sh e
  | d0 h => exact .d0 (S _ _ h)
  | d1 h => exact .d1 (S _ _ h)
end
section
variable {X : Cx}
/-- repr(v), v data -/
def rRepr (K : PySem.W.Frag) : List V → Hp → VK → Prop := fun xs H Q => ∃ (v : V) (d : PyData), xs = [v] ∧ Dq K H v d ∧ d.showable = true ∧ d.depth ≤ 10 ∧ d.shown.length ≤ 1000 ∧ Q (.str d.shown) H
theorem call_repr (hgd : X.A.guards = some []) (hu : X.A.units + 64 < cLine) : CallR X (.builtin "repr") (rRepr X.K) := by
  intro pins s σ H xs us Q I r h
  obtain ⟨v, d, rfl, hd, hs, hdep, hsz, q⟩ := h
  obtain ⟨u, rfl, ru⟩ := vals1 r
  obtain ⟨as, R, hsm⟩ := hd.reads I ru
  have hz : d.shown.length ≤ sizeLine := by rw [sizeLine_eq]; omega
  have fin : ∀ t, Inv X pins σ H { s with toks := t } → EP X pins σ Q (.str d.shown s.toks) { s with toks := t } := fun t J => ⟨.str d.shown, H, J, ⟨_, rfl⟩, q⟩
  cases R with
  | none => exact PySem.P.repr_of_none (fin _ (I.tok _))
  | bool b =>
    exact PySem.P.repr_of_bool (by have z := fin _ (I.tok (s.toks + 1)); simp only [PyData.shown] at z; exact z)
  | int i t => exact PySem.P.repr_of_int (by simpa [PyData.showable] using hs) (by have z := fin _ (I.tok (s.toks + 1)); simp only [PyData.shown] at z; exact z)
  | str x t => exact PySem.P.repr_of_str (by have z := fin _ (I.tok (s.toks + 1)); simp only [PyData.shown] at z; exact z) (by simpa [PyData.shown] using hz)
  | list a1 a2 a3 a4 => exact repr_of_reads' (Reads.list a1 a2 a3 a4) hs hsm hgd (by omega) (fun _ _ e => e) (fun h' u tk hk => ⟨.str _, H, I.kept hk, ⟨_, rfl⟩, q⟩) hz
  | tuple a1 a2 a3 a4 => exact repr_of_reads' (Reads.tuple a1 a2 a3 a4) hs hsm hgd (by omega) (fun _ _ e => e) (fun h' u tk hk => ⟨.str _, H, I.kept hk, ⟨_, rfl⟩, q⟩) hz
  | dict a1 a2 a3 a4 a5 => exact repr_of_reads' (Reads.dict a1 a2 a3 a4 a5) hs hsm hgd (by omega) (fun _ _ e => e) (fun h' u tk hk => ⟨.str _, H, I.kept hk, ⟨_, rfl⟩, q⟩) hz
/-- v != v, v data -/
def rNeQ (K : PySem.W.Frag) : R2 := fun x y H Q => x = y ∧ (∃ d, Dq K H x d) ∧ Q (.bl false) H
theorem op_neQ (hu : X.A.units + 64 < cLine) : OpR X (compareOp .NotEq) (rNeQ X.K) := by
  intro pins s σ H x y v u Q I rx ry h
  obtain ⟨rfl, ⟨d, hd⟩, q⟩ := h
  have fin : EP X pins σ Q (.bool false) s := ⟨.bl false, H, I, rfl, q⟩
  cases hd with
  | pl hp n sh e =>
    obtain ⟨as, r1⟩ := Dp.reads I d x v hp rx
    obtain ⟨bs, r2⟩ := Dp.reads I d x u hp ry
    refine SeqAt.compareNe_shaped r1 r2 sh sh hu ?_
    rw [e]
    exact fin
  | d0 h =>
    obtain rfl := (show v = Value.ref _ from rx)
    obtain rfl := (show u = Value.ref _ from ry)
    obtain ⟨_, ns, vs, kv, da⟩ := (show ObjOk X.prog X.w H s.heap _ (.dK []) from I.hok _ _ h)
    cases kv
    exact PySem.W.keq_ne (knd := mixKind X.prog X.w) (r := true) ns ns da da (by omega) (fun _ => .nil) fin
  | d1 h =>
    obtain rfl := (show v = Value.ref _ from rx)
    obtain rfl := (show u = Value.ref _ from ry)
    obtain ⟨_, ns, vs, kv, da⟩ := (show ObjOk X.prog X.w H s.heap _ (.dK [(.inr "a", .int 1)]) from I.hok _ _ h)
    cases kv with
    | cons p t =>
      cases t
      refine PySem.W.keq_ne (knd := mixKind X.prog X.w) (r := true && true) ns ns da da (by omega) (fun _ => ?_) fin
      exact PySem.W.KeqHits.hit (y := _) (by simp [valueAt]) (SeqAt.EqAt.same _) .nil
end
end L2
end

section
set_option Elab.async false
set_option linter.all false
set_option maxRecDepth 100000
set_option maxHeartbeats 8000000
/-! The end of a law whose promise is kept where nothing is being shown. -/
namespace L2
open PySem PySem.Spec PyProof.Rows
section
variable {P : Program} {w : World} {K : PySem.W.Frag} {mg mb : Str → Option Value} {k : Nat} {fa a : Addr} {fd : FuncData} {x : Str} {sp : Sp} {s1 : Shared} {vs : List Value} {ns : List Int}
abbrev Came (s1 : Shared) (r : Result) (s' : Shared) : Prop := r = .ok (.ret (.bool true)) ∧ OldK s1.heap s'.heap ∧ s'.os = s1.os ∧ AllBare s'.gens
/-- from an abstract heap that holds the script at most -/
theorem lawRun (KX : K.In s1.heap) (hns : s1.heap.Ns mainGlobals mg) (hb : s1.heap.Ns builtinsNs mb) (hbb : ∀ x : Str, x ≠ "__name__" → mb x = bootBuiltins x) (hlim : s1.heap.NoLimit) (hg : s1.gens = #[])
    (ha : s1.heap.get? a = some { cls := .type "list", data := .seq vs.toArray }) (hr : Room k callerA)
    (F : ∀ base : Heap, K.In base → base.Ns mainGlobals mg → FnG P w K mg base CX0 k fa fd [x] sp) (hbind : ∀ (s : Shared) (u : Value), BindsTo s fd ⟨[u], []⟩ [(x, u)])
    (H : Hp) (hok : HOk P w H s1.heap) (one : ∀ b, H b = none ∨ (b = a ∧ K.lookup a = none ∧ ∃ o xs, H b = some (.frz o (.lst xs)))) (hsp : sp [.ref a] H (fun v _ => v = .bl true) fun _ _ _ => False) :
    codeAny (model P w) callerA (.call (.ref fa) ⟨[.ref a], []⟩) (Came s1) s1 := by
  have ofDict : ∀ {b : Addr} {o : Obj} {es : Array DictEntry} {ep : Nat}, s1.heap.get? b = some o → o.data = .dict es ep → H b = none := fun {b o es ep} e d => (one b).elim id fun ⟨z, _⟩ => by
    rw [z, ha] at e
    cases e
    cases (show Data.seq vs.toArray _ = Data.dict es ep from d)
  have ns' : ∀ {b : Addr} {m : Str → Option Value}, s1.heap.Ns b m → (hidT s1.heap H).Ns b m := fun ⟨o, es, ep, e, d, r⟩ => ⟨o, es, ep, hidT_get e (ofDict e d), d, r⟩
  have kin : K.In (hidT s1.heap H) := fun b o e => hidT_get (KX b o e) ((one b).elim id fun ⟨z, l, _⟩ => by rw [z, l] at e; cases e)
  have M : Mod K mg (hidT s1.heap H) := ⟨kin, ns' hns, ⟨mb, ns' hb, hbb⟩, let ⟨mc, h1, h2⟩ := hlim; ⟨mc, ns' h1, h2⟩⟩
  have E0 : Env0 P w K mg (hidT s1.heap H) callerA [] s1 H := ⟨rfl, M, fun b o e => of_hidT e, Nat.le_of_eq (hidT_size _ _), trivial, fun b hb => absurd (show b ∈ ([] : List Addr) from hb) (by simp), hok, .of_eq hg⟩
  refine codeAny_mono ((F _ kin (ns' hns)).run callerA [] s1 H ⟨[.ref a], []⟩ [.ref a] [.ref a] _ _ rfl hr E0 (hbind s1 (.ref a)) (.cons rfl .nil) hsp) fun r s' h => ?_
  cases r with
  | error e => exact False.elim h
  | ok fl => ?_
  cases fl with
  | next => exact False.elim h
  | brk => exact False.elim h
  | cont => exact False.elim h
  | ret u => ?_
  obtain ⟨v, H', os, bare, un, hok', rv, q⟩ := h
  cases (show v = .bl true from q)
  cases (show u = Value.bool true from rv)
  refine ⟨rfl, OldK.of_keep fun b o e => ?_, os, bare⟩
  rcases one b with z | ⟨_, _, ob, xs, z⟩
  · exact un.keep b o e z (by intro z; exact absurd (show b ∈ ([] : List Addr) from z) (by simp)) (by simp)
  · have e1 := (hok b _ z).1
    have e2 := (hok' b _ (un.frzs b ob _ z)).1
    rw [e] at e1
    cases e1
    exact e2
theorem lawCall (KX : K.In s1.heap) (hns : s1.heap.Ns mainGlobals mg) (hb : s1.heap.Ns builtinsNs mb) (hbb : ∀ x : Str, x ≠ "__name__" → mb x = bootBuiltins x) (hlim : s1.heap.NoLimit) (hg : s1.gens = #[])
    (ha : s1.heap.get? a = some { cls := .type "list", data := .seq vs.toArray }) (hi : IntsAre vs ns) (hl : ns.length ≤ sizeLine) (hr : Room k callerA)
    (F : ∀ base : Heap, K.In base → base.Ns mainGlobals mg → FnG P w K mg base CX0 k fa fd [x] sp) (hbind : ∀ (s : Shared) (u : Value), BindsTo s fd ⟨[u], []⟩ [(x, u)])
    (hsp : ∀ H : Hp, SqL K H a (ns.map V.int) → sp [.ref a] H (fun v _ => v = .bl true) fun _ _ _ => False) :
    codeAny (model P w) callerA (.call (.ref fa) ⟨[.ref a], []⟩) (Came s1) s1 := by
  have rv := vals_ints hi
  cases hk : K.lookup a with
  | some o =>
    have e := KX a o hk
    rw [ha] at e
    cases e
    exact lawRun KX hns hb hbb hlim hg ha hr F hbind (fun _ => none) (fun b u z => by cases (show (none : Option HO) = some u from z)) (fun _ => .inl rfl)
      (hsp _ (.inr ⟨_, vs.toArray, _, hk, rfl, rfl, rfl, by rw [List.size_toArray, hi.length]; exact hl, by simpa using rv⟩))
  | none =>
    have at1 : ∀ b, b = a → (fun b => if b = a then some (HO.frz { cls := .type "list", data := .seq vs.toArray } (.lst (ns.map V.int))) else none : Hp) b = some (.frz { cls := .type "list", data := .seq vs.toArray } (.lst (ns.map V.int))) := fun b e => if_pos e
    have at0 : ∀ b, b ≠ a → (fun b => if b = a then some (HO.frz { cls := .type "list", data := .seq vs.toArray } (.lst (ns.map V.int))) else none : Hp) b = none := fun b e => if_neg e
    refine lawRun KX hns hb hbb hlim hg ha hr F hbind (fun b => if b = a then some (HO.frz { cls := .type "list", data := .seq vs.toArray } (.lst (ns.map V.int))) else none : Hp) (fun b u z => ?_) (fun b => ?_) (hsp _ (.inl (.inr ⟨_, at1 a rfl⟩)))
    · by_cases e : b = a
      · rw [at1 b e] at z
        cases z
        subst e
        exact ⟨ha, by rw [List.length_map]; exact hl, vs, _, rv, ha⟩
      · rw [at0 b e] at z
        cases z
    · by_cases e : b = a
      · exact .inr ⟨e, hk, _, _, at1 b e⟩
      · exact .inl (at0 b e)
end
/-- the goal that k_head leaves, from such a promise -/
theorem walkG {l : PySem.W.OpenLaw} {n k : Nat} {q : Program} {loose : List Str} {XP : (Str → Option Value) → Heap → Prop} {YP : World → Heap → Prop} {d : DefRec} {K : Params → PySem.W.Frag} {sp : PySem.W.Frag → Sp} {x : Str}
    (hn : l.most = some n) (hn2 : n ≤ sizeLine) (hdf : d.params.defaults = []) (hr : Room k callerA) (hY : ∀ (w : World) (h : Heap), YP w h → (K w.params).In h)
    (F : ∀ (w : World) (mg : Str → Option Value) (fa : Addr) (h : Heap), (K w.params).In h → h.Ns mainGlobals mg → mg d.name = some (.ref fa) →
      ∃ fd : FuncData, (∀ (s : Shared) (u : Value), BindsTo s fd ⟨[u], []⟩ [(x, u)]) ∧ ∀ base : Heap, (K w.params).In base → base.Ns mainGlobals mg → FnG l.prog w (K w.params) mg base CX0 k fa fd [x] (sp (K w.params)))
    (hsp : ∀ (K : PySem.W.Frag) (H : Hp) (a : Addr) (ns : List Int), ns.length ≤ n → SqL K H a (ns.map V.int) → sp K [.ref a] H (fun v _ => v = .bl true) fun _ _ _ => False) :
    PySem.W.WalkO q loose XP YP l.row.toRowW d [] (fun f vs => PySem.call f vs) := by
  refine Att.attach_call hn hdf fun w s₀ s₁ mg mb fa o pm cd doc a vs ns G Y ho hd hcd hmg hobj hints hlen hg => ?_
  have KX := hY w _ Y
  obtain ⟨fd, hb, hF⟩ := F w mg fa _ KX G.T.g hmg
  exact lawCall KX G.T.g G.T.b G.T.builtins G.T.nolimit hg hobj hints (Nat.le_trans hlen hn2) hr hF hb fun H hS => hsp _ H a ns hlen hS
end L2
end

section
set_option Elab.async false
set_option linter.all false
set_option maxRecDepth 100000
set_option maxHeartbeats 4000000
/-! The pen: what it holds, what a draw promises. -/
namespace Pn
open PySem PySem.Spec PyProof.Rows L2
def cs (c : Addr) (s r : Int) : List (Key × V) := [(.inr "cells", .ref c), (.inr "spot", .int s), (.inr "rest", .int r)]
theorem cs_cells (c : Addr) (s r : Int) : valV (cs c s r) (.inr "cells") = some (.ref c) := by rfl
theorem cs_spot (c : Addr) (s r : Int) : valV (cs c s r) (.inr "spot") = some (.int s) := by rfl
theorem cs_rest (c : Addr) (s r : Int) : valV (cs c s r) (.inr "rest") = some (.int r) := by rfl
theorem cs_put_spot (c : Addr) (s r t : Int) : putK (cs c s r) (.inr "spot") (.int t) = cs c t r := by rfl
theorem cs_put_rest (c : Addr) (s r t : Int) : putK (cs c s r) (.inr "rest") (.int t) = cs c s t := by rfl
/-- all but p stands as it was -/
def But (p : Addr) (H H' : Hp) : Prop := ∀ b o, b ≠ p → H b = some o → H' b = some o
theorem But.refl (p : Addr) (H : Hp) : But p H H := fun _ _ _ h => h
theorem But.trans {p : Addr} {H H1 H2 : Hp} (a : But p H H1) (b : But p H1 H2) : But p H H2 := fun c o n h => b c o n (a c o n h)
theorem Same.but {H H' : Hp} (p : Addr) (a : Same H H') : But p H H' := fun c o _ h => a c o h
theorem But.upd {p : Addr} {H H' : Hp} (a : But p H H') (o : HO) : But p H (upd H' p o) := fun c u n h => by
  rw [upd_ne n]
  exact a c u n h
theorem But.new {p q : Addr} {H H' : Hp} {o : HO} (a : But p H H') (hq : H' q = none) : But p H (L2.upd H' q o) := fun c u n h => by
  rw [upd_ne (ne_of_none (a c u n h) hq)]
  exact a c u n h
theorem But.lst {K : PySem.W.Frag} {p t : Addr} {H H' : Hp} {kvs : List (Key × V)} {xs : List V} (a : But p H H') (hp : H p = some (.dK kvs)) (h : SqL K H t xs) : SqL K H' t xs := by
  rcases h with (h | ⟨o, h⟩) | h
  · exact .inl (.inl (a _ _ (ne_of h hp (by intro z; cases z)) h))
  · exact .inl (.inr ⟨o, a _ _ (ne_of h hp (by intro z; cases z)) h⟩)
  · exact .inr h
theorem But.tup {K : PySem.W.Frag} {p t : Addr} {H H' : Hp} {kvs : List (Key × V)} {xs : List V} (a : But p H H') (hp : H p = some (.dK kvs)) (h : SqT K H t xs) : SqT K H' t xs := by
  rcases h with (h | ⟨o, h⟩) | h
  · exact .inl (.inl (a _ _ (ne_of h hp (by intro z; cases z)) h))
  · exact .inl (.inr ⟨o, a _ _ (ne_of h hp (by intro z; cases z)) h⟩)
  · exact .inr h
/-- the pen at p: its cells at c are the ints ns, at most n draws were made -/
def PenAt (H : Hp) (p c : Addr) (ns : List Int) (n : Nat) : Prop := H c = some (.lst (ns.map V.int)) ∧ ∃ s r : Int, H p = some (.dK (cs c s r)) ∧ 0 ≤ s ∧ s ≤ (n : Int)
theorem PenAt.cp {H : Hp} {p c : Addr} {ns : List Int} {n : Nat} (h : PenAt H p c ns n) : c ≠ p := by
  obtain ⟨h1, s, r, h2, _⟩ := h
  exact ne_of h1 h2 (by intro z; cases z)
theorem PenAt.at {H : Hp} {p c : Addr} {ns : List Int} {n : Nat} (h : PenAt H p c ns n) : ∃ kvs, H p = some (.dK kvs) := let ⟨_, s, r, h2, _⟩ := h; ⟨_, h2⟩
theorem PenAt.same {H H' : Hp} {p c : Addr} {ns : List Int} {n : Nat} (h : PenAt H p c ns n) (e : Same H H') : PenAt H' p c ns n := by
  obtain ⟨h1, s, r, h2, h3⟩ := h
  exact ⟨e _ _ h1, s, r, e _ _ h2, h3⟩
theorem PenAt.mono {H : Hp} {p c : Addr} {ns : List Int} {n m : Nat} (h : PenAt H p c ns n) (e : n ≤ m) : PenAt H p c ns m := by
  obtain ⟨h1, s, r, h2, h3, h4⟩ := h
  exact ⟨h1, s, r, h2, h3, by omega⟩
/-! ### the promises -/
def spPen (K : PySem.W.Frag) : Sp := fun vs H Q _ => ∃ (a : Addr) (ns : List Int), vs = [.ref a] ∧ SqL K H a (ns.map V.int) ∧ ns.length ≤ 63 ∧
  ∀ (p c : Addr) (H' : Hp), Same H H' → H p = none → PenAt H' p c ns 0 → Q (.ref p) H'
def spDraw : Sp := fun vs H Q _ => ∃ (p c : Addr) (ns : List Int) (n : Nat) (size : Int), vs = [.ref p, .int size] ∧ PenAt H p c ns n ∧ n ≤ 1000000000 ∧ ns.length ≤ 63 ∧ 0 < size ∧ size < 1073741824 ∧
  ∀ (d : Int) (H' : Hp), 0 ≤ d → d < size → But p H H' → PenAt H' p c ns (n + 1) → Q (.int d) H'
def spPick (K : PySem.W.Frag) : Sp := fun vs H Q _ => ∃ (p c t : Addr) (ns : List Int) (n : Nat) (xs : List V), vs = [.ref p, .ref t] ∧ PenAt H p c ns n ∧ n ≤ 1000000000 ∧ ns.length ≤ 63 ∧ SqL K H t xs ∧ 0 < xs.length ∧ xs.length < 1073741824 ∧
  ∀ (x : V) (H' : Hp), x ∈ xs → But p H H' → PenAt H' p c ns (n + 1) → Q x H'
end Pn
end

section
set_option Elab.async false
set_option linter.all false
set_option maxRecDepth 100000
set_option maxHeartbeats 4000000
namespace Pn
open PySem PySem.Spec PyProof.Rows L2
theorem g_cells {H : Hp} {p c : Addr} {s r : Int} (hp : H p = some (.dK (cs c s r))) : DGet H p (.str "cells") (some (.ref c)) := .k (k := .inr "cells") hp
theorem g_spot {H : Hp} {p c : Addr} {s r : Int} (hp : H p = some (.dK (cs c s r))) : DGet H p (.str "spot") (some (.int s)) := .k (k := .inr "spot") hp
theorem g_rest {H : Hp} {p c : Addr} {s r : Int} (hp : H p = some (.dK (cs c s r))) : DGet H p (.str "rest") (some (.int r)) := .k (k := .inr "rest") hp
theorem p_spot {H : Hp} {p c : Addr} {s r t : Int} (hp : H p = some (.dK (cs c s r))) : DPut H p (.str "spot") (.int t) (upd H p (.dK (cs c t r))) := .k (k := .inr "spot") hp (by show 3 < sizeLine; decide)
theorem p_rest {H : Hp} {p c : Addr} {s r t : Int} (hp : H p = some (.dK (cs c s r))) : DPut H p (.str "rest") (.int t) (upd H p (.dK (cs c s t))) := .k (k := .inr "rest") hp (by show 3 < sizeLine; decide)
theorem cut63 {ns : List Int} (h : ns.length ≤ 63) : cutV (ns.map V.int) none (some 63) = ns.map V.int := by
  have e : HT.sIx (ns.map V.int).length (ns.map V.int).length (some 63) = min 63 (ns.map V.int).length := HT.sIx_nat _ _ 63
  unfold cutV
  rw [HT.sIx_none, List.drop_zero, e, List.take_of_length_le (by rw [List.length_map]; omega)]
theorem fm (x : Int) {m : Int} (h : 0 < m) : 0 ≤ x.fmod m ∧ x.fmod m < m := by
  rw [Int.fmod_eq_emod_of_nonneg x (Int.le_of_lt h)]
  exact ⟨Int.emod_nonneg x (Int.ne_of_gt h), Int.emod_lt_of_pos x h⟩
theorem small64 (x : Int) {m : Int} (h : 0 < m) (h' : m ≤ 4294967296) : -(2 ^ 64) < x.fmod m ∧ x.fmod m < 2 ^ 64 := by
  have := fm x h
  exact ⟨by omega, by omega⟩
theorem item {xs : List V} {d : Int} (h0 : 0 ≤ d) (h1 : d < (xs.length : Int)) : ∃ x, atI xs d = some x ∧ x ∈ xs := by
  obtain ⟨k, rfl⟩ := Int.eq_ofNat_of_zero_le h0
  have hk : k < xs.length := by omega
  exact ⟨xs[k], atI_nat (List.getElem?_eq_getElem hk), List.getElem_mem hk⟩
theorem ints_dp {K : PySem.W.Frag} {H : Hp} : ∀ ns : List Int, DpAll K H (ns.map V.int) (ns.map PyData.int)
  | [] => .nil
  | n :: ns => .cons (.int n) (ints_dp ns)
mutual
theorem dp_map {K : PySem.W.Frag} {H H' : Hp} (f : ∀ a xs, SqL K H a xs → SqL K H' a xs) (g : ∀ a xs, SqT K H a xs → SqT K H' a xs) : ∀ (d : PyData) (v : V), Dp K H v d → Dp K H' v d
  | .none, _, h => by cases h; exact .non
  | .bool b, _, h => by cases h; exact .bl b
  | .int i, _, h => by cases h; exact .int i
  | .str x, _, h => by cases h; exact .str x
  | .list ds, _, h => by
    cases h with
    | lst hs ha => exact .lst (f _ _ hs) (dp_mapAll f g ds _ ha)
  | .tuple ds, _, h => by
    cases h with
    | tup hs ha => exact .tup (g _ _ hs) (dp_mapAll f g ds _ ha)
  | .dict _, _, h => by cases h
theorem dp_mapAll {K : PySem.W.Frag} {H H' : Hp} (f : ∀ a xs, SqL K H a xs → SqL K H' a xs) (g : ∀ a xs, SqT K H a xs → SqT K H' a xs) : ∀ (ds : List PyData) (vs : List V), DpAll K H vs ds → DpAll K H' vs ds
  | [], _, h => by cases h; exact .nil
  | d :: ds, _, h => by
    cases h with
    | cons h1 h2 => exact .cons (dp_map f g d _ h1) (dp_mapAll f g ds _ h2)
end
end Pn
namespace K0
open PySem PySem.Spec PyProof.Rows L2 Pn
def top (i : Nat) : Stmt := PySem.Challenge.pw_onestroke_k00_errors_and_limits.main.body.getD i (.Pass ⟨0, 0, 0, 0⟩)
abbrev sPen : Stmt := top 38
abbrev sDraw : Stmt := top 39
abbrev sPick : Stmt := top 40
abbrev sAny : Stmt := top 41
/-- the built-in names that the text reads stand as built-ins -/
structure Blt (mg : Str → Option Value) : Prop where
  list : mg "list" = none
  int : mg "int" = none
  len : mg "len" = none
  range : mg "range" = none
  repr : mg "repr" = none
  isi : mg "isinstance" = none
section
variable {P : Program} {w : World} {K : PySem.W.Frag} {mg : Str → Option Value} {base : Heap}
theorem scPen : FnScope ["_law_script"] ["_law_script"] (defScope sPen) := ⟨rfl, rfl, rfl, by decide +kernel, rfl, by decide +kernel, by decide +kernel⟩
theorem ok_pen {f : Addr} {fd : FuncData} (F : Fun K "_law_pen" "_law_pen" sPen f fd) (T : Blt mg) : FnOk P w K mg base CX0 1 f fd ["_law_script"] (spPen K) := by
  refine F.ok scPen (fun vs H Q E h => ?_) (fun cdv A outer s H vs Q E hr h => ?_)
  · obtain ⟨a, ns, rfl, _⟩ := h
    rfl
  · obtain ⟨a, ns, rfl, hS, hl, k⟩ := h
    refine ⟨_, pss_one (ps_ret (pe_disp (pps_cons pe_str (pe_callTy call_list_of (by rfl) T.list (by decide +kernel) (pa_cons (pe_slice sl_list (pv 0) po_none (po_some pe_int)) pa_nil)) (pps_cons pe_str pe_int (pps_cons pe_str pe_int pps_nil))) (by rfl) (by rfl) (fun z => by cases z) (by decide))), ?_⟩
    intro p hp
    have S0 : Same H (upd H p (.dK [])) := fun b o e => by rw [upd_ne (ne_of_none e hp)]; exact e
    refine ⟨_, rfl, 63, rfl, a, _, rfl, S0.seq hS, fun q hq => ⟨q, _, rfl, .inl (SqL.of upd_same), fun c hc => ?_⟩⟩
    have pq : p ≠ q := fun z => by rw [← z, upd_same] at hq; cases hq
    have hq0 : H q = none := by rw [upd_ne pq.symm] at hq; exact hq
    have qc : q ≠ c := fun z => by rw [← z, upd_same] at hc; cases hc
    have pc : p ≠ c := fun z => by rw [← z, upd_ne pq, upd_same] at hc; cases hc
    have hc0 : H c = none := by rw [upd_ne qc.symm, upd_ne pc.symm] at hc; exact hc
    refine ⟨by rw [upd_ne pc, upd_ne pq, upd_same], cs c 0 0, rfl, by show 3 ≤ 15; decide, ?_⟩
    refine k p c _ (fun b o e => ?_) hp ⟨?_, 0, 0, by rw [upd_same]; rfl, Int.le_refl _, Int.le_refl _⟩
    · rw [upd_ne (ne_of_none e hp), upd_ne (ne_of_none e hc0), upd_ne (ne_of_none e hq0), upd_ne (ne_of_none e hp)]
      exact e
    · rw [upd_ne pc.symm, upd_same, cut63 hl]
theorem scDraw : FnScope ["_law_pen_here", "_law_size", "_law_digit", "_law_spot", "_law_cell", "_law_mixed"] ["_law_pen_here", "_law_size"] (defScope sDraw) := ⟨rfl, rfl, rfl, by decide +kernel, rfl, by decide +kernel, by decide +kernel⟩
theorem ok_draw {f : Addr} {fd : FuncData} (F : Fun K "_law_draw" "_law_draw" sDraw f fd) (T : Blt mg) : FnOk P w K mg base CX0 1 f fd ["_law_pen_here", "_law_size"] spDraw := by
  refine F.ok scDraw (fun vs H Q E h => ?_) (fun cdv A outer s H vs Q E hr h => ?_)
  · obtain ⟨p, c, ns, n, size, rfl, _⟩ := h
    rfl
  · obtain ⟨p, c, ns, n, size, rfl, ⟨hc, sp0, r0, hp, h0, h1⟩, hn, hl, z0, z1, k⟩ := h
    have hu := hu_of hr
    have zs : size ≠ 0 ∧ size.natAbs < 1073741824 := ⟨by omega, by omega⟩
    have cp : c ≠ p := ne_of hc hp (by intro z; cases z)
    refine ⟨_, (pss_cons (ps_if (pt_cmpR op_ge (pe_dget hu (pv 0) pe_str (fun _ _ => rfl)) (pv 1) (nomark _)) (pss_cons (ps_set (i := 2) scDraw.nd rfl (Or.inl rfl) (pe_op op_modN (pe_callTy call_int1 (by rfl) T.int (by decide +kernel) (pa_cons (pe_dget hu (pv 0) pe_str (fun _ _ => rfl)) pa_nil)) (pv 1)))
        (pss_cons (ps_dput hu (pv 0) pe_str (pe_op op_fdivN (pe_dget hu (pv 0) pe_str (fun _ _ => rfl)) (pv 1)) rfl)
        (pss_one (ps_ret (pv 2))))) pss_nil)
      (pss_cons (ps_set (i := 3) scDraw.nd rfl (Or.inl rfl) (pe_dget hu (pv 0) pe_str (fun _ _ => rfl)))
      (pss_cons (ps_dput hu (pv 0) pe_str (pe_op op_add (pv 3) pe_int) rfl)
      (pss_cons (ps_set (i := 4) scDraw.nd rfl (Or.inl rfl) (pe_op op_add (pe_op op_mul pe_int (pv 3)) pe_int))
      (pss_cons (ps_if (pt_cmpR (op_neD hr.units) (pe_dget hu (pv 0) pe_str (fun _ _ => rfl)) (pe_lst pa_nil) (nomark _)) (pss_one (ps_set (i := 4) scDraw.nd rfl (Or.inl rfl) (pe_ix ix_list (pe_dget hu (pv 0) pe_str (fun _ _ => rfl)) (pe_op op_modN (pe_callTy call_int1 (by rfl) T.int (by decide +kernel) (pa_cons (pv 3) pa_nil)) (pe_callB call_len_seq (by rfl) T.len PySem.boot_len (pa_cons (pe_dget hu (pv 0) pe_str (fun _ _ => rfl)) pa_nil))) (fun _ _ => rfl)))) pss_nil)
      (pss_cons (ps_if (PW.pt (pw_and (pt_cmpR op_lt (pv 3) (pe_callB call_len_seq (by rfl) T.len PySem.boot_len (pa_cons (pe_dget hu (pv 0) pe_str (fun _ _ => rfl)) pa_nil)) (nomark _)) (pw_and1 (pt_cmpR op_ge (pv 4) (pe_op op_pow pe_int pe_int) (nomark _))))) (pss_cons (ps_dput hu (pv 0) pe_str (pe_op op_fdivN (pe_op op_sub (pv 4) (pe_op op_pow pe_int pe_int)) (pv 1)) rfl)
        (pss_one (ps_ret (pe_op op_modN (pe_callTy call_int1 (by rfl) T.int (by decide +kernel) (pa_cons (pe_op op_sub (pv 4) (pe_op op_pow pe_int pe_int)) pa_nil)) (pv 1))))) pss_nil)
      (pss_cons (ps_set (i := 5) scDraw.nd rfl (Or.inl rfl) (pe_op op_mul (pe_op op_modN (pe_callTy call_int1 (by rfl) T.int (by decide +kernel) (pa_cons (pv 4) pa_nil)) pe_int) pe_int))
      (pss_cons (ps_set (i := 5) scDraw.nd rfl (Or.inl rfl) (pe_op op_modN (pe_callTy call_int1 (by rfl) T.int (by decide +kernel) (pa_cons (pe_op op_add (pe_op op_add (pe_op op_add (pv 5) (pe_op op_mul (pe_op op_mul pe_int (pv 3)) (pv 3))) (pe_op op_mul pe_int (pv 3))) pe_int) pa_nil)) pe_int))
      (pss_cons (ps_set (i := 5) scDraw.nd rfl (Or.inl rfl) (pe_op op_modN (pe_callTy call_int1 (by rfl) T.int (by decide +kernel) (pa_cons (pe_op op_mul (pv 5) (pe_op op_add (pv 5) pe_int)) pa_nil)) pe_int))
      (pss_one (ps_ret (pe_op op_modN (pe_callTy call_int1 (by rfl) T.int (by decide +kernel) (pa_cons (pe_op op_fdivN (pe_op op_modN (pe_callTy call_int1 (by rfl) T.int (by decide +kernel) (pa_cons (pe_op op_add (pe_op op_mul (pv 5) (pv 5)) (pe_op op_mul pe_int (pv 5))) pa_nil)) pe_int) pe_int) pa_nil)) (pv 1))))))))))))), ?_⟩
    refine ⟨_, rfl, p, _, rfl, g_rest hp, _, rfl, r0, size, rfl, rfl, _, rfl, ?_⟩
    have ups : ∀ t, upd (upd H p (.dK (cs c t r0))) p (.dK (cs c t r0)) p = some (.dK (cs c t r0)) := fun t => upd_same
    refine ite2 (fun _ => ?_) (fun _ => ?_)
    · refine ⟨_, rfl, p, _, rfl, g_rest hp, .inl ⟨r0, rfl, _, rfl, _, _, rfl, rfl, zs.1, ?_⟩⟩
      refine ⟨_, rfl, p, _, rfl, g_rest hp, _, rfl, r0, size, rfl, rfl, zs, _, rfl, p, _, rfl, p_rest hp, _, rfl, ?_⟩
      have m := fm r0 z0
      exact k _ _ m.1 m.2 ((But.refl p H).upd _) ⟨by rw [upd_ne cp]; exact hc, sp0, _, upd_same, h0, by omega⟩
    · refine ⟨_, rfl, p, _, rfl, g_spot hp, ?_⟩
      refine ⟨_, rfl, sp0, 1, rfl, rfl, _, rfl, p, _, rfl, p_spot hp, ?_⟩
      refine ⟨_, rfl, 71, sp0, rfl, rfl, .inl ⟨by decide, by decide⟩, _, 43, rfl, rfl, ?_⟩
      have hp1 : upd H p (.dK (cs c (sp0 + 1) r0)) p = some (.dK (cs c (sp0 + 1) r0)) := upd_same
      have hc1 : upd H p (.dK (cs c (sp0 + 1) r0)) c = some (.lst (ns.map V.int)) := by rw [upd_ne cp]; exact hc
      have hB1 : But p H (upd H p (.dK (cs c (sp0 + 1) r0))) := (But.refl p H).upd _
      generalize upd H p (.dK (cs c (sp0 + 1) r0)) = H1 at hp1 hc1 hB1 ⊢
      generalize 71 * sp0 + 43 = cell
      refine ⟨_, rfl, p, _, rfl, g_cells hp1, Nat.zero_le _, fun q hq => ⟨_, _, .lst (SqL.of (by rw [upd_ne (ne_of_none hc1 hq)]; exact hc1)) (ints_dp ns), .lst (SqL.of upd_same) .nil, PySem.W.shaped_ints ns, rfl, _, rfl, ?_⟩⟩
      have hp2 : upd H1 q (.lst []) p = some (.dK (cs c (sp0 + 1) r0)) := by rw [upd_ne (ne_of_none hp1 hq)]; exact hp1
      have hc2 : upd H1 q (.lst []) c = some (.lst (ns.map V.int)) := by rw [upd_ne (ne_of_none hc1 hq)]; exact hc1
      have hB2 : But p H (upd H1 q (.lst [])) := hB1.new hq
      generalize upd H1 q (.lst []) = H2 at hp2 hc2 hB2 ⊢
      have fin : ∀ (d t : Int), 0 ≤ d → d < size → Q (.int d) H2 := fun d t a b => k d H2 a b hB2 ⟨hc2, sp0 + 1, r0, hp2, by omega, by omega⟩
      have fin2 : ∀ (d t : Int), 0 ≤ d → d < size → Q (.int d) (upd H2 p (.dK (cs c (sp0 + 1) t))) := fun d t a b => k d _ a b (hB2.upd _) ⟨by rw [upd_ne cp]; exact hc2, sp0 + 1, t, upd_same, by omega, by omega⟩
      have eqn : (!PyData.eqv (.list (ns.map PyData.int)) (.list [])) = !ns.isEmpty := by cases ns <;> rfl
      rw [eqn]
      refine ite2 (fun e => ?a) (fun _ => ?b)
      case' a =>
        have hl0 : (0 : Int) < (((ns.map V.int).length : Nat) : Int) := by
          cases ns with
          | nil => cases e
          | cons a b => simp
        have m := fm sp0 hl0
        obtain ⟨x, hx, hm⟩ := item (xs := ns.map V.int) m.1 m.2
        obtain ⟨z, _, rfl⟩ := List.mem_map.mp hm
        refine ⟨_, rfl, p, _, rfl, g_cells hp2, _, rfl, .inl ⟨sp0, rfl, _, rfl, p, _, rfl, g_cells hp2, c, _, rfl, .inl (SqL.of hc2), sp0, _, rfl, rfl, by omega, c, _, _, _, rfl, rfl, SqL.of hc2, hx, ?_⟩⟩
      all_goals refine ⟨_, rfl, _, rfl, p, _, rfl, g_cells hp2, c, _, rfl, .inl (SqL.of hc2), sp0, _, rfl, rfl, _, rfl, ?_⟩
      all_goals refine ite2 (fun _ => ⟨_, rfl, 10, 18, rfl, rfl, ⟨by decide, by decide, by decide⟩, _, _, rfl, rfl, _, rfl, ?_⟩) (fun _ => iteF ?_)
      case' a.refine_1 => refine ite2 (fun _ => ?x1) (fun _ => ?y1)
      case' b.refine_1 => refine ite2 (fun _ => ?x2) (fun _ => ?y2)
      case x1 | x2 =>
        refine ⟨_, rfl, 10, 18, rfl, rfl, ⟨by decide, by decide, by decide⟩, _, _, rfl, rfl, _, rfl, _, _, rfl, rfl, zs, _, rfl, p, _, rfl, p_rest hp2, ?_⟩
        refine ⟨_, rfl, 10, 18, rfl, rfl, ⟨by decide, by decide, by decide⟩, _, _, rfl, rfl, .inl ⟨_, rfl, _, rfl, _, _, rfl, rfl, zs.1, ?_⟩⟩
        exact fin2 _ _ (fm _ z0).1 (fm _ z0).2
      all_goals
        refine ⟨_, rfl, .inl ⟨_, rfl, _, _, rfl, rfl, (by decide : (2147483269 : Int) ≠ 0), _, 40177, rfl, rfl, .inr ⟨by decide, by decide⟩, ?_⟩⟩
        refine ⟨_, rfl, _, rfl, _, _, rfl, rfl, .inl ⟨by decide, by decide⟩, _, rfl, _, sp0, rfl, rfl, .inr ⟨by omega, by omega⟩, _, _, rfl, rfl, _, rfl, _, _, rfl, rfl, .inl ⟨by decide, by decide⟩, _, _, rfl, rfl, _, _, rfl, rfl, .inl ⟨_, rfl, _, _, rfl, rfl, (by decide : (2147483323 : Int) ≠ 0), ?_⟩⟩
        refine ⟨_, rfl, _, rfl, _, _, rfl, rfl, _, _, rfl, rfl, .inl (small64 _ (by decide) (by decide)), .inl ⟨_, rfl, _, _, rfl, rfl, (by decide : (2147483353 : Int) ≠ 0), ?_⟩⟩
        refine ⟨_, rfl, _, rfl, _, _, rfl, rfl, .inl (small64 _ (by decide) (by decide)), _, rfl, _, _, rfl, rfl, .inl ⟨by decide, by decide⟩, _, _, rfl, rfl, .inl ⟨_, rfl, _, _, rfl, rfl, (by decide : (2147483399 : Int) ≠ 0), _, _, rfl, rfl, ⟨by decide, by decide⟩, .inl ⟨_, rfl, _, rfl, _, _, rfl, rfl, zs.1, ?_⟩⟩⟩
        exact fin _ 0 (fm _ z0).1 (fm _ z0).2
structure Fn (K : PySem.W.Frag) (mg : Str → Option Value) (nm : Str) (f : Addr) : Prop where
  g : mg nm = some (.ref f)
  k : PySem.W.keepIn K (.ref f) = true
theorem scPick : FnScope ["_law_pen_here", "_law_items"] ["_law_pen_here", "_law_items"] (defScope sPick) := ⟨rfl, rfl, rfl, by decide +kernel, rfl, by decide +kernel, by decide +kernel⟩
theorem ok_pick {f fD : Addr} {fd fdD : FuncData} (F : Fun K "_law_pick" "_law_pick" sPick f fd) (T : Blt mg) (FD : Fun K "_law_draw" "_law_draw" sDraw fD fdD) (bD : Binds K fdD ["_law_pen_here", "_law_size"] []) (gD : Fn K mg "_law_draw" fD) :
    FnOk P w K mg base CX0 2 f fd ["_law_pen_here", "_law_items"] (spPick K) := by
  have GD : FnOk P w K mg base CX0 1 fD fdD ["_law_pen_here", "_law_size"] spDraw := ok_draw FD T
  refine F.ok scPick (fun vs H Q E h => ?_) (fun cdv A outer s H vs Q E hr h => ?_)
  · obtain ⟨p, c, t, ns, n, xs, rfl, _⟩ := h
    rfl
  · obtain ⟨p, c, t, ns, n, xs, rfl, hP, hn, hl, hS, x0, x1, k⟩ := h
    have hr1 : Room 1 _ := hr
    refine ⟨_, (pss_one (ps_ret (pe_ix ix_list (pv 1) (pe_call GD hr1 rfl gD.g gD.k bD .nil pass0 (pa_cons (pv 0) (pa_cons (pe_callB call_len_seq (by rfl) T.len PySem.boot_len (pa_cons (pv 1) pa_nil)) pa_nil))) (fun _ _ => rfl)))), ?_⟩
    refine ⟨_, rfl, _, rfl, _, rfl, t, _, rfl, .inl hS, p, c, ns, n, _, rfl, hP, hn, hl, by omega, by omega, fun d H' a b hB hP' => ?_⟩
    obtain ⟨x, hx, hm⟩ := item (xs := xs) a b
    obtain ⟨kvs, hp⟩ := hP.at
    exact ⟨t, xs, d, x, rfl, rfl, hB.lst hp hS, hx, k x H' hm hB hP'⟩
/-- data that is shown in few signs -/
def Good (K : PySem.W.Frag) (H : Hp) (x : V) : Prop := ∃ d : PyData, Dq K H x d ∧ d.showable = true ∧ d.depth ≤ 10 ∧ d.shown.length ≤ 1000 ∧ PyData.strOk d.shown = true
theorem Good.same {H H' : Hp} {x : V} (S : Same H H') (g : Good K H x) : Good K H' x := let ⟨d, q, r⟩ := g; ⟨d, q.same S, r⟩
def All (K : PySem.W.Frag) (H : Hp) (xs : List V) : Prop := ∀ x ∈ xs, Good K H x
theorem All.same {H H' : Hp} {xs : List V} (S : Same H H') (g : All K H xs) : All K H' xs := fun x h => (g x h).same S
theorem All.nil {H : Hp} : All K H [] := fun x h => by cases h
theorem All.cons {H : Hp} {x : V} {xs : List V} (g : Good K H x) (h : All K H xs) : All K H (x :: xs) := fun y m => by
  rcases List.mem_cons.mp m with rfl | m
  · exact g
  · exact h y m
theorem All.app {H : Hp} {xs ys : List V} (g : All K H xs) (h : All K H ys) : All K H (xs ++ ys) := fun y m => (List.mem_append.mp m).elim (g y) (h y)
theorem plain {H : Hp} {x : V} {d : PyData} (h : Dp K H x d) (n : d.hasDict = false) (sh : SeqAt.shaped d = true) (e : PyData.eqv d d = true) (s : d.showable = true) (z : d.depth ≤ 10) (l : d.shown.length ≤ 1000) (o : PyData.strOk d.shown = true) : Good K H x := ⟨d, .pl h n sh e, s, z, l, o⟩
def spAny (K : PySem.W.Frag) : Sp := fun vs H Q _ => ∃ (p c : Addr) (ns : List Int) (n : Nat), vs = [.ref p] ∧ PenAt H p c ns n ∧ n ≤ 1000000000 ∧ ns.length ≤ 63 ∧
  ∀ (x : V) (H' : Hp), Good K H' x → But p H H' → PenAt H' p c ns (n + 1) → Q x H'
theorem Good.but {H H' : Hp} {p c : Addr} {ns : List Int} {n : Nat} {x : V} (hP : PenAt H p c ns n) (B : But p H H') (g : Good K H x) : Good K H' x := by
  obtain ⟨d, q, r⟩ := g
  obtain ⟨_, s, t, hp, _⟩ := hP
  refine ⟨d, ?_, r⟩
  cases q with
  | pl h n sh e => exact .pl (dp_map (fun _ _ z => B.lst hp z) (fun _ _ z => B.tup hp z) d x h) n sh e
  | d0 h => exact .d0 (B _ _ (ne_of h hp (by intro z; cases z)) h)
  | d1 h => exact .d1 (B _ _ (ne_of h hp (by intro z; cases z)) h)
/-- while the values are made: what stood stands, the pen, the first values at l, those that are made so far -/
structure Mk1 (K : PySem.W.Frag) (H0 Hk : Hp) (p c : Addr) (ns : List Int) (n : Nat) (l : Addr) (fs acc : List V) : Prop where
  S : Same H0 Hk
  P : PenAt Hk p c ns n
  L : Hk l = some (.lst fs)
  A : All K Hk acc
theorem same_new {H : Hp} {q : Addr} {o : HO} (h : H q = none) : Same H (upd H q o) := fun b u e => by
  rw [upd_ne (ne_of_none e h)]
  exact e
theorem Mk1.new {H0 Hk : Hp} {p c : Addr} {ns : List Int} {n : Nat} {l : Addr} {fs acc : List V} {q : Addr} (m : Mk1 K H0 Hk p c ns n l fs acc) (h : Hk q = none) (o : HO) : Mk1 K H0 (upd Hk q o) p c ns n l fs acc :=
  ⟨m.S.trans (same_new h), m.P.same (same_new h), same_new h _ _ m.L, m.A.same (same_new h)⟩
theorem Mk1.add {H0 Hk : Hp} {p c : Addr} {ns : List Int} {n : Nat} {l : Addr} {fs acc : List V} {x : V} (m : Mk1 K H0 Hk p c ns n l fs acc) (g : Good K Hk x) : Mk1 K H0 Hk p c ns n l fs (acc ++ [x]) :=
  ⟨m.S, m.P, m.L, m.A.app (.cons g .nil)⟩
theorem Mk1.put {H0 Hk : Hp} {p c : Addr} {ns : List Int} {n : Nat} {l : Addr} {fs acc : List V} {q : Addr} (m : Mk1 K H0 Hk p c ns n l fs acc) (h : Hk q = none) (o : HO) (g : Good K (upd Hk q o) (.ref q)) : Mk1 K H0 (upd Hk q o) p c ns n l fs (acc ++ [.ref q]) := (m.new h o).add g
theorem good_d {H : Hp} {x : V} {d : PyData} (a : Dp K H x d) (n : d.hasDict = false := by decide +kernel) (sh : SeqAt.shaped d = true := by decide +kernel) (e : PyData.eqv d d = true := by decide +kernel)
    (s : d.showable = true := by decide +kernel) (z : d.depth ≤ 10 := by decide +kernel) (l : d.shown.length ≤ 1000 := by decide +kernel) (o : PyData.strOk d.shown = true := by decide +kernel) : Good K H x := plain a n sh e s z l o
theorem good_t {H : Hp} {q : Addr} {xs : List V} {ds : List PyData} (h : H q = some (.tup xs)) (a : DpAll K H xs ds) (n : (PyData.tuple ds).hasDict = false := by decide +kernel) (sh : SeqAt.shaped (.tuple ds) = true := by decide +kernel) (e : PyData.eqv (.tuple ds) (.tuple ds) = true := by decide +kernel)
    (s : (PyData.tuple ds).showable = true := by decide +kernel) (z : (PyData.tuple ds).depth ≤ 10 := by decide +kernel) (l : (PyData.tuple ds).shown.length ≤ 1000 := by decide +kernel) (o : PyData.strOk (PyData.tuple ds).shown = true := by decide +kernel) : Good K H (.ref q) := plain (.tup (SqT.of h) a) n sh e s z l o
theorem good_l {H : Hp} {q : Addr} {xs : List V} {ds : List PyData} (h : H q = some (.lst xs)) (a : DpAll K H xs ds) (n : (PyData.list ds).hasDict = false := by decide +kernel) (sh : SeqAt.shaped (.list ds) = true := by decide +kernel) (e : PyData.eqv (.list ds) (.list ds) = true := by decide +kernel)
    (s : (PyData.list ds).showable = true := by decide +kernel) (z : (PyData.list ds).depth ≤ 10 := by decide +kernel) (l : (PyData.list ds).shown.length ≤ 1000 := by decide +kernel) (o : PyData.strOk (PyData.list ds).shown = true := by decide +kernel) : Good K H (.ref q) := plain (.lst (SqL.of h) a) n sh e s z l o
def first17 : List V := [.non, .bl true, .bl false, .int 0, .int 1, .int 2, .int 3, .int (-1), .int (10 ^ (9 : Int).toNat), .int (10 ^ (9 : Int).toNat + 1), .str "", .str "a", .str "A", .str "ab", .str "abcdefghi", .str "a b", .str "!a"]
theorem good17 {H : Hp} : All K H first17 :=
  .cons (good_d .non) (.cons (good_d (.bl true)) (.cons (good_d (.bl false)) (.cons (good_d (.int 0)) (.cons (good_d (.int 1)) (.cons (good_d (.int 2)) (.cons (good_d (.int 3)) (.cons (good_d (.int (-1)))
  (.cons (good_d (.int (10 ^ (9 : Int).toNat))) (.cons (good_d (.int (10 ^ (9 : Int).toNat + 1))) (.cons (good_d (.str "")) (.cons (good_d (.str "a")) (.cons (good_d (.str "A")) (.cons (good_d (.str "ab")) (.cons (good_d (.str "abcdefghi")) (.cons (good_d (.str "a b")) (.cons (good_d (.str "!a")) .nil))))))))))))))))
theorem scAny : FnScope ["_law_pen_here", "_law_some"] ["_law_pen_here"] (defScope sAny) := ⟨rfl, rfl, rfl, by decide +kernel, rfl, by decide +kernel, by decide +kernel⟩
theorem ok_any {f fP fD : Addr} {fd fdP fdD : FuncData} (F : Fun K "_law_any_value" "_law_any_value" sAny f fd) (T : Blt mg) (FD : Fun K "_law_draw" "_law_draw" sDraw fD fdD) (bD : Binds K fdD ["_law_pen_here", "_law_size"] []) (gD : Fn K mg "_law_draw" fD)
    (FP : Fun K "_law_pick" "_law_pick" sPick fP fdP) (bP : Binds K fdP ["_law_pen_here", "_law_items"] []) (gP : Fn K mg "_law_pick" fP) : FnOk P w K mg base CX0 3 f fd ["_law_pen_here"] (spAny K) := by
  have GP : FnOk P w K mg base CX0 2 fP fdP ["_law_pen_here", "_law_items"] (spPick K) := ok_pick FP T FD bD gD
  refine F.ok scAny (fun vs H Q E h => ?_) (fun cdv A outer s H vs Q E hr h => ?_)
  · obtain ⟨p, c, ns, n, rfl, _⟩ := h
    rfl
  · obtain ⟨p, c, ns, n, rfl, hP, hn, hl, k⟩ := h
    have hr1 : Room 2 _ := hr
    refine ⟨_, (pss_cons (ps_set (i := 1) scAny.nd rfl (Or.inl rfl) (pe_lst (pa_cons pe_non (pa_cons pe_bl (pa_cons pe_bl (pa_cons pe_int (pa_cons pe_int (pa_cons pe_int (pa_cons pe_int (pa_cons (pe_un un_neg pe_int) (pa_cons (pe_op op_pow pe_int pe_int) (pa_cons (pe_op op_add (pe_op op_pow pe_int pe_int) pe_int) (pa_cons pe_str (pa_cons pe_str (pa_cons pe_str (pa_cons pe_str (pa_cons pe_str (pa_cons pe_str (pa_cons pe_str pa_nil)))))))))))))))))))
      (pss_cons (ps_set (i := 1) scAny.nd rfl (Or.inl rfl) (pe_op op_cat (pv 1) (pe_lst (pa_cons (pe_tup pa_nil) (pa_cons (pe_tup (pa_cons pe_str pa_nil)) (pa_cons (pe_lst pa_nil) (pa_cons (pe_lst (pa_cons pe_str pa_nil)) (pa_cons (pe_lst (pa_cons pe_int pa_nil)) (pa_cons pe_dnewK (pa_cons (pe_disp (pps_cons pe_str pe_int pps_nil) (by rfl) (by rfl) (fun z => by cases z) (by decide)) (pa_cons (pe_tup (pa_cons pe_int (pa_cons pe_int pa_nil))) (pa_cons (pe_tup (pa_cons pe_str (pa_cons pe_str pa_nil))) (pa_cons (pe_tup (pa_cons pe_non pa_nil)) (pa_cons (pe_tup (pa_cons pe_str (pa_cons pe_int pa_nil))) (pa_cons (pe_lst (pa_cons (pe_lst (pa_cons pe_str pa_nil)) pa_nil)) (pa_cons pe_str pa_nil))))))))))))))))
      (pss_one (ps_ret (pe_call GP hr1 rfl gP.g gP.k bP .nil pass0 (pa_cons (pv 0) (pa_cons (pv 1) pa_nil))))))), ?_⟩
    refine ⟨1, rfl, 10, 9, rfl, rfl, ⟨by decide, by decide, by decide⟩, 10, 9, rfl, rfl, ⟨by decide, by decide, by decide⟩, _, _, rfl, rfl, (by show 17 ≤ sizeLine; decide), fun l hl0 => ?_⟩
    have m0 : Mk1 K H (upd H l (.lst first17)) p c ns n l first17 [] := ⟨same_new hl0, hP.same (same_new hl0), upd_same, .nil⟩
    refine ⟨_, rfl, Nat.zero_le _, fun a1 h1 => ?_⟩
    have m1 := m0.put h1 (.tup []) (good_t upd_same .nil)
    refine ⟨(by show 1 ≤ sizeLine; decide), fun a2 h2 => ?_⟩
    have m2 := m1.put h2 (.tup [.str "a"]) (good_t upd_same (.cons (.str _) .nil))
    refine ⟨Nat.zero_le _, fun a3 h3 => ?_⟩
    have m3 := m2.put h3 (.lst []) (good_l upd_same .nil)
    refine ⟨(by show 1 ≤ sizeLine; decide), fun a4 h4 => ?_⟩
    have m4 := m3.put h4 (.lst [.str "a"]) (good_l upd_same (.cons (.str _) .nil))
    refine ⟨(by show 1 ≤ sizeLine; decide), fun a5 h5 => ?_⟩
    have m5 := m4.put h5 (.lst [.int 1]) (good_l upd_same (.cons (.int _) .nil))
    intro a6 h6
    have m6 := m5.put h6 (.dK []) ⟨_, .d0 upd_same, rfl, by decide, by decide +kernel, by decide +kernel⟩
    intro a7 h7
    refine ⟨upd_same, [(.inr "a", .int 1)], rfl, by show 1 ≤ 15; decide, ?_⟩
    rw [upd_upd]
    have m7 := m6.put h7 (.dK (mergeK [] [(.inr "a", .int 1)])) ⟨_, .d1 upd_same, rfl, by decide, by decide +kernel, by decide +kernel⟩
    refine ⟨(by show 2 ≤ sizeLine; decide), fun a8 h8 => ?_⟩
    have m8 := m7.put h8 (.tup [.int 1, .int 2]) (good_t upd_same (.cons (.int _) (.cons (.int _) .nil)))
    refine ⟨(by show 2 ≤ sizeLine; decide), fun a9 h9 => ?_⟩
    have m9 := m8.put h9 (.tup [.str "m", .str "a"]) (good_t upd_same (.cons (.str _) (.cons (.str _) .nil)))
    refine ⟨(by show 1 ≤ sizeLine; decide), fun b1 g1 => ?_⟩
    have n1 := m9.put g1 (.tup [.non]) (good_t upd_same (.cons .non .nil))
    refine ⟨(by show 2 ≤ sizeLine; decide), fun b2 g2 => ?_⟩
    have n2 := n1.put g2 (.tup [.str "a", .int 1]) (good_t upd_same (.cons (.str _) (.cons (.int _) .nil)))
    refine ⟨(by show 1 ≤ sizeLine; decide), fun b3 g3 => ?_⟩
    have n3 := n2.new g3 (.lst [.str "a"])
    refine ⟨(by show 1 ≤ sizeLine; decide), fun b4 g4 => ?_⟩
    have n4 := n3.put g4 (.lst [.ref b3]) (good_l upd_same (.cons (.lst (ds := [.str "a"]) (SqL.of (by rw [upd_ne (ne_of_none upd_same g4)]; exact upd_same)) (.cons (.str _) .nil)) .nil))
    have n5 := n4.add (x := .str "2(a)") (good_d (.str "2(a)"))
    refine ⟨(by show 13 ≤ sizeLine; decide), fun r1 j1 => ?_⟩
    have n6 := n5.new j1 (.lst [.ref a1, .ref a2, .ref a3, .ref a4, .ref a5, .ref a6, .ref a7, .ref a8, .ref a9, .ref b1, .ref b2, .ref b4, .str "2(a)"])
    refine ⟨l, r1, first17, _, rfl, rfl, n6.L, upd_same, (by show 30 ≤ sizeLine; decide), fun r2 j2 => ?_⟩
    have n7 := n6.new j2 (.lst (first17 ++ [.ref a1, .ref a2, .ref a3, .ref a4, .ref a5, .ref a6, .ref a7, .ref a8, .ref a9, .ref b1, .ref b2, .ref b4, .str "2(a)"]))
    refine ⟨_, rfl, _, rfl, p, c, r2, ns, n, _, rfl, n7.P, hn, hl, SqL.of upd_same, (by show 0 < 30; decide), (by show 30 < 1073741824; decide), fun x H' hm hB hP' => ?_⟩
    have all : All K _ _ := good17.app n7.A
    exact k x H' ((all x hm).but n7.P hB) ((Same.but p n7.S).trans hB) hP'
end
end K0
end

section
set_option Elab.async false
set_option linter.all false
set_option maxRecDepth 100000
set_option maxHeartbeats 8000000
namespace K0
open PySem PySem.Spec PyProof.Rows L2 Pn
def nm : Nat → Str
  | 0 => "InvalidWords" | 1 => "InvalidItem" | 2 => "InvalidText" | 3 => "InvalidMode" | 4 => "InvalidStroke" | 5 => "InvalidBodies" | 6 => "InvalidPattern" | 7 => "InvalidPressed" | 8 => "CommandError"
  | 9 => "NotAnItem" | 10 => "NotABody" | 11 => "NotABook" | 12 => "OutOfRange" | 13 => "UnknownStroke" | 14 => "UnknownState" | 15 => "TooMany" | 16 => "TooFew" | 17 => "TooDeep" | 18 => "TooLong"
  | 19 => "NeverEnds" | 20 => "Unlike" | 21 => "Endless" | 22 => "Clash" | 23 => "TooBig" | 24 => "NotBeginning" | _ => "InTrial"
def fld : Nat → Str
  | 1 => "field" | 2 => "index" | 9 => "index" | 11 => "index" | 15 => "limit" | 16 => "limit" | 17 => "limit" | 18 => "limit" | 19 => "key" | 20 => "pressed" | 21 => "pressed" | _ => "value"
def bas : Nat → Nat
  | 9 => 1 | 10 => 1 | 11 => 1 | 12 => 2 | 13 => 2 | 14 => 2 | 15 => 3 | 16 => 3 | 17 => 3 | 18 => 3 | 19 => 4 | 20 => 4 | 21 => 4 | 23 => 4 | 25 => 4 | _ => 0
def bnm : Nat → String
  | 0 => "ValueError" | 1 => "TypeError" | 2 => "LookupError" | 3 => "OverflowError" | _ => "RuntimeError"
def bmro : Nat → List Value
  | 0 => [.type "ValueError", .type "Exception", .type "BaseException", .type "object"]
  | 1 => [.type "TypeError", .type "Exception", .type "BaseException", .type "object"]
  | 2 => [.type "LookupError", .type "Exception", .type "BaseException", .type "object"]
  | 3 => [.type "OverflowError", .type "ArithmeticError", .type "Exception", .type "BaseException", .type "object"]
  | _ => [.type "RuntimeError", .type "Exception", .type "BaseException", .type "object"]
def bnew : Nat → String
  | 0 => "ValueError.__new__" | 1 => "TypeError.__new__" | 2 => "LookupError.__new__" | 3 => "OverflowError.__new__" | _ => "RuntimeError.__new__"
def bini : Nat → String
  | 0 => "ValueError.__init__" | 1 => "TypeError.__init__" | 2 => "LookupError.__init__" | 3 => "OverflowError.__init__" | _ => "RuntimeError.__init__"
theorem basOk : ∀ b : Nat, Bas (bnm b) (bnew b) (bini b) (bmro b)
  | 0 => ⟨F.excBase_ValueError, F.store_ValueError⟩
  | 1 => ⟨F.excBase_TypeError, F.store_TypeError⟩
  | 2 => ⟨F.excBase_LookupError, F.store_LookupError⟩
  | 3 => ⟨F.excBase_OverflowError, F.store_OverflowError⟩
  | _ + 4 => ⟨F.excBase_RuntimeError, F.store_RuntimeError⟩
/-- the twenty-six classes, c i the i-th one's place -/
structure Errs (K : PySem.W.Frag) (mg : Str → Option Value) (c : Nat → Addr) : Prop where
  gl : ∀ i, i < 26 → mg (nm i) = some (.ref (c i))
  ex : ∀ i, i < 26 → Exk K (c i) (bmro (bas i)) (bnew (bas i))
  kit : ∀ i j, i < 26 → j < 26 → PySem.W.kitOne K (.ref (c i)) (.ref (c j)) = some (decide (i = j))
  kib : ∀ i b, i < 26 → b < 5 → PySem.W.kitOne K (.ref (c i)) (.type (bnm b)) = some (decide (bas i = b))
  one : ∀ i, i < 22 → One K (c i) (bmro (bas i)) (bnew (bas i)) (fld i)
  t22 : Two K (c 22) (bmro 0) (bnew 0)
  t23 : Two K (c 23) (bmro 4) (bnew 4)
  z24 : Zero K (c 24) (bmro 0) (bnew 0) (bini 0)
  z25 : Zero K (c 25) (bmro 4) (bnew 4) (bini 4)
  bl : ∀ b, b < 5 → mg (Str.ofString (bnm b)) = none
/-- at a: an exception of the i-th class, with the fields fs (none: no dict) -/
def Err (c : Nat → Addr) (H : Hp) (a : Addr) (i : Nat) (fs : List (Str × V)) : Prop := i < 26 ∧ ∃ d : Option Addr, H a = some (exo a (c i) d) ∧ (∀ dd, d = some dd → H dd = some (exd dd fs)) ∧ (fs ≠ [] → d ≠ none)
theorem Err.same {c : Nat → Addr} {H H' : Hp} {a : Addr} {i : Nat} {fs : List (Str × V)} (S : Same H H') (e : Err c H a i fs) : Err c H' a i fs := by
  obtain ⟨h, d, h1, h2, h3⟩ := e
  exact ⟨h, d, S _ _ h1, fun dd z => S _ _ (h2 dd z), h3⟩
section
variable {P : Program} {w : World} {K : PySem.W.Frag} {mg : Str → Option Value} {base : Heap} {c : Nat → Addr}
theorem isx (T : Errs K mg c) {H : Hp} {a : Addr} {i : Nat} {fs : List (Str × V)} {Q : VK} (e : Err c H a i fs) (j : Nat) (hj : j < 26) (q : Q (.bl (decide (i = j))) H) : rIsX K [.ref a, .ref (c j)] H Q := by
  obtain ⟨h, d, h1, h2, h3⟩ := e
  exact ⟨a, c i, d, fs, _, _, .ref (c j), .ref (c j), _, rfl, T.ex i h, h1, h2, .own _, T.kit i j h hj, q⟩
theorem isb (T : Errs K mg c) {H : Hp} {a : Addr} {i : Nat} {fs : List (Str × V)} {Q : VK} (e : Err c H a i fs) (b : Nat) (hb : b < 5) (q : Q (.bl (decide (bas i = b))) H) : rIsX K [.ref a, .ty (bnm b)] H Q := by
  obtain ⟨h, d, h1, h2, h3⟩ := e
  exact ⟨a, c i, d, fs, _, _, .ty (bnm b), .type (bnm b), _, rfl, T.ex i h, h1, h2, .ty _, T.kib i b h hb, q⟩
end
end K0
end

section
set_option Elab.async false
set_option linter.all false
set_option maxRecDepth 100000
set_option maxHeartbeats 8000000
namespace K0
open PySem PySem.Spec PyProof.Rows L2 Pn
abbrev sOnes : Stmt := top 42
abbrev sOwn : Stmt := top 43
abbrev sShown : Stmt := top 44
abbrev sAbove : Stmt := top 45
def spOwn (c : Nat → Addr) : Sp := fun vs H Q _ => ∃ (a : Addr) (i : Nat) (fs : List (Str × V)), vs = [.ref a] ∧ Err c H a i fs ∧ ∀ p H', Same H H' → H' p = some (.lst ((List.range 26).map fun j => V.bl (decide (i = j)))) → Q (.ref p) H'
def spAbove (c : Nat → Addr) : Sp := fun vs H Q _ => ∃ (a : Addr) (i : Nat) (fs : List (Str × V)), vs = [.ref a] ∧ Err c H a i fs ∧ ∀ p H', Same H H' → H' p = some (.lst ((List.range 5).map fun j => V.bl (decide (bas i = j)))) → Q (.ref p) H'
def spShown (c : Nat → Addr) : Sp := fun vs H Q _ => ∃ (a : Addr) (k : Nat) (v : V), vs = [.ref a, .int k] ∧ k < 22 ∧ Err c H a k [(fld k, v)] ∧ ∀ H', Same H H' → Q v H'
/-- the list found so far -/
structure Fnd (c : Nat → Addr) (H0 H : Hp) (a : Addr) (i : Nat) (fs : List (Str × V)) (l : Addr) (xs : List V) : Prop where
  S : Same H0 H
  E : Err c H a i fs
  L : H l = some (.lst xs)
theorem Fnd.first {c : Nat → Addr} {H : Hp} {a : Addr} {i : Nat} {fs : List (Str × V)} (e : Err c H a i fs) {l : Addr} (h : H l = none) (xs : List V) : Fnd c H (upd H l (.lst xs)) a i fs l xs := ⟨same_new h, e.same (same_new h), upd_same⟩
theorem Fnd.more {c : Nat → Addr} {H0 H : Hp} {a : Addr} {i : Nat} {fs : List (Str × V)} {l p r : Addr} {xs ys : List V} (f : Fnd c H0 H a i fs l xs) (hp : H p = none) (hr : upd H p (.lst ys) r = none) :
    Fnd c H0 (upd (upd H p (.lst ys)) r (.lst (xs ++ ys))) a i fs r (xs ++ ys) :=
  ⟨(f.S.trans (same_new hp)).trans (same_new hr), (f.E.same (same_new hp)).same (same_new hr), upd_same⟩
theorem Fnd.at {c : Nat → Addr} {H0 H : Hp} {a : Addr} {i : Nat} {fs : List (Str × V)} {l p : Addr} {xs ys : List V} (f : Fnd c H0 H a i fs l xs) (hp : H p = none) : upd H p (.lst ys) l = some (.lst xs) := same_new hp _ _ f.L
section
variable {P : Program} {w : World} {K : PySem.W.Frag} {mg : Str → Option Value} {base : Heap} {c : Nat → Addr}
theorem rdb (T : Errs K mg c) {H : Hp} {a : Addr} {i : Nat} {fs : List (Str × V)} {Q : VK} {σ : L2.St} (e : Err c H a i fs) (b : Nat) (hb : b < 5) {n : String} (hn : n = bnm b) (hσ : σ[0]? = some (some (.ref a))) (q : Q (.bl (decide (bas i = b))) H) :
    tCB (rIsX K) (tCons (tVar 0) (tCons (tC (.ty n)) tNil)) σ H Q := by
  subst hn
  exact ⟨_, hσ, isb T e b hb q⟩
theorem rdx (T : Errs K mg c) {H : Hp} {a : Addr} {i : Nat} {fs : List (Str × V)} {Q : VK} {σ : L2.St} (e : Err c H a i fs) (j : Nat) (hj : j < 26) (hσ : σ[0]? = some (some (.ref a))) (q : Q (.bl (decide (i = j))) H) :
    tCB (rIsX K) (tCons (tVar 0) (tCons (tC (.ref (c j))) tNil)) σ H Q := ⟨_, hσ, isx T e j hj q⟩
theorem scAbove : FnScope ["_law_e", "_law_found"] ["_law_e"] (defScope sAbove) := ⟨rfl, rfl, rfl, by decide +kernel, rfl, by decide +kernel, by decide +kernel⟩
theorem ok_above {f : Addr} {fd : FuncData} (F : Fun K "_law_above" "_law_above" sAbove f fd) (B : Blt mg) (T : Errs K mg c) : FnOk P w K mg base CX0 1 f fd ["_law_e"] (spAbove c) := by
  refine F.ok scAbove (fun vs H Q E h => ?_) (fun cdv A outer s H vs Q E hr h => ?_)
  · obtain ⟨a, i, fs, rfl, _⟩ := h
    rfl
  · obtain ⟨a, i, fs, rfl, e, k⟩ := h
    refine ⟨_, (pss_cons (ps_set (i := 1) scAbove.nd rfl (Or.inl rfl) (pe_lst (pa_cons (pe_callB call_isX (by rfl) B.isi (by decide +kernel) (pa_cons (pv 0) (pa_cons (pe_bltn (v := .ty "ValueError") (by rfl) (T.bl 0 (by decide)) (by decide +kernel) rfl) pa_nil))) (pa_cons (pe_callB call_isX (by rfl) B.isi (by decide +kernel) (pa_cons (pv 0) (pa_cons (pe_bltn (v := .ty "TypeError") (by rfl) (T.bl 1 (by decide)) (by decide +kernel) rfl) pa_nil))) (pa_cons (pe_callB call_isX (by rfl) B.isi (by decide +kernel) (pa_cons (pv 0) (pa_cons (pe_bltn (v := .ty "LookupError") (by rfl) (T.bl 2 (by decide)) (by decide +kernel) rfl) pa_nil))) pa_nil)))))
      (pss_one (ps_ret (pe_op op_cat (pv 1) (pe_lst (pa_cons (pe_callB call_isX (by rfl) B.isi (by decide +kernel) (pa_cons (pv 0) (pa_cons (pe_bltn (v := .ty "OverflowError") (by rfl) (T.bl 3 (by decide)) (by decide +kernel) rfl) pa_nil))) (pa_cons (pe_callB call_isX (by rfl) B.isi (by decide +kernel) (pa_cons (pv 0) (pa_cons (pe_bltn (v := .ty "RuntimeError") (by rfl) (T.bl 4 (by decide)) (by decide +kernel) rfl) pa_nil))) pa_nil))))))), ?_⟩
    refine rdb T e 0 (by decide) rfl rfl (rdb T e 1 (by decide) rfl rfl (rdb T e 2 (by decide) rfl rfl ⟨(by show 3 ≤ sizeLine; decide), fun l h1 => ?_⟩))
    have f1 := Fnd.first e h1 [.bl (decide (bas i = 0)), .bl (decide (bas i = 1)), .bl (decide (bas i = 2))]
    refine ⟨_, rfl, rdb T f1.E 3 (by decide) rfl rfl (rdb T f1.E 4 (by decide) rfl rfl ⟨(by show 2 ≤ sizeLine; decide), fun p hp => ?_⟩)⟩
    refine ⟨l, p, _, _, rfl, rfl, f1.at hp, upd_same, (by show 5 ≤ sizeLine; decide), fun r hr' => ?_⟩
    have f2 := f1.more hp hr'
    exact k _ _ f2.S f2.L
theorem scOwn : FnScope ["_law_e", "_law_found"] ["_law_e"] (defScope sOwn) := ⟨rfl, rfl, rfl, by decide +kernel, rfl, by decide +kernel, by decide +kernel⟩
theorem ok_own {f : Addr} {fd : FuncData} (F : Fun K "_law_own" "_law_own" sOwn f fd) (B : Blt mg) (T : Errs K mg c) : FnOk P w K mg base CX0 1 f fd ["_law_e"] (spOwn c) := by
  refine F.ok scOwn (fun vs H Q E h => ?_) (fun cdv A outer s H vs Q E hr h => ?_)
  · obtain ⟨a, i, fs, rfl, _⟩ := h
    rfl
  · obtain ⟨a, i, fs, rfl, e, k⟩ := h
    refine ⟨_, (pss_cons (ps_set (i := 1) scOwn.nd rfl (Or.inl rfl) (pe_lst (pa_cons (pe_callB call_isX (by rfl) B.isi (by decide +kernel) (pa_cons (pv 0) (pa_cons (pe_glob (v := .ref (c 0)) rfl (T.gl 0 (by decide)) rfl) pa_nil))) (pa_cons (pe_callB call_isX (by rfl) B.isi (by decide +kernel) (pa_cons (pv 0) (pa_cons (pe_glob (v := .ref (c 1)) rfl (T.gl 1 (by decide)) rfl) pa_nil))) (pa_cons (pe_callB call_isX (by rfl) B.isi (by decide +kernel) (pa_cons (pv 0) (pa_cons (pe_glob (v := .ref (c 2)) rfl (T.gl 2 (by decide)) rfl) pa_nil))) pa_nil)))))
      (pss_cons (ps_set (i := 1) scOwn.nd rfl (Or.inl rfl) (pe_op op_cat (pv 1) (pe_lst (pa_cons (pe_callB call_isX (by rfl) B.isi (by decide +kernel) (pa_cons (pv 0) (pa_cons (pe_glob (v := .ref (c 3)) rfl (T.gl 3 (by decide)) rfl) pa_nil))) (pa_cons (pe_callB call_isX (by rfl) B.isi (by decide +kernel) (pa_cons (pv 0) (pa_cons (pe_glob (v := .ref (c 4)) rfl (T.gl 4 (by decide)) rfl) pa_nil))) (pa_cons (pe_callB call_isX (by rfl) B.isi (by decide +kernel) (pa_cons (pv 0) (pa_cons (pe_glob (v := .ref (c 5)) rfl (T.gl 5 (by decide)) rfl) pa_nil))) pa_nil))))))
      (pss_cons (ps_set (i := 1) scOwn.nd rfl (Or.inl rfl) (pe_op op_cat (pv 1) (pe_lst (pa_cons (pe_callB call_isX (by rfl) B.isi (by decide +kernel) (pa_cons (pv 0) (pa_cons (pe_glob (v := .ref (c 6)) rfl (T.gl 6 (by decide)) rfl) pa_nil))) (pa_cons (pe_callB call_isX (by rfl) B.isi (by decide +kernel) (pa_cons (pv 0) (pa_cons (pe_glob (v := .ref (c 7)) rfl (T.gl 7 (by decide)) rfl) pa_nil))) (pa_cons (pe_callB call_isX (by rfl) B.isi (by decide +kernel) (pa_cons (pv 0) (pa_cons (pe_glob (v := .ref (c 8)) rfl (T.gl 8 (by decide)) rfl) pa_nil))) pa_nil))))))
      (pss_cons (ps_set (i := 1) scOwn.nd rfl (Or.inl rfl) (pe_op op_cat (pv 1) (pe_lst (pa_cons (pe_callB call_isX (by rfl) B.isi (by decide +kernel) (pa_cons (pv 0) (pa_cons (pe_glob (v := .ref (c 9)) rfl (T.gl 9 (by decide)) rfl) pa_nil))) (pa_cons (pe_callB call_isX (by rfl) B.isi (by decide +kernel) (pa_cons (pv 0) (pa_cons (pe_glob (v := .ref (c 10)) rfl (T.gl 10 (by decide)) rfl) pa_nil))) (pa_cons (pe_callB call_isX (by rfl) B.isi (by decide +kernel) (pa_cons (pv 0) (pa_cons (pe_glob (v := .ref (c 11)) rfl (T.gl 11 (by decide)) rfl) pa_nil))) pa_nil))))))
      (pss_cons (ps_set (i := 1) scOwn.nd rfl (Or.inl rfl) (pe_op op_cat (pv 1) (pe_lst (pa_cons (pe_callB call_isX (by rfl) B.isi (by decide +kernel) (pa_cons (pv 0) (pa_cons (pe_glob (v := .ref (c 12)) rfl (T.gl 12 (by decide)) rfl) pa_nil))) (pa_cons (pe_callB call_isX (by rfl) B.isi (by decide +kernel) (pa_cons (pv 0) (pa_cons (pe_glob (v := .ref (c 13)) rfl (T.gl 13 (by decide)) rfl) pa_nil))) (pa_cons (pe_callB call_isX (by rfl) B.isi (by decide +kernel) (pa_cons (pv 0) (pa_cons (pe_glob (v := .ref (c 14)) rfl (T.gl 14 (by decide)) rfl) pa_nil))) pa_nil))))))
      (pss_cons (ps_set (i := 1) scOwn.nd rfl (Or.inl rfl) (pe_op op_cat (pv 1) (pe_lst (pa_cons (pe_callB call_isX (by rfl) B.isi (by decide +kernel) (pa_cons (pv 0) (pa_cons (pe_glob (v := .ref (c 15)) rfl (T.gl 15 (by decide)) rfl) pa_nil))) (pa_cons (pe_callB call_isX (by rfl) B.isi (by decide +kernel) (pa_cons (pv 0) (pa_cons (pe_glob (v := .ref (c 16)) rfl (T.gl 16 (by decide)) rfl) pa_nil))) (pa_cons (pe_callB call_isX (by rfl) B.isi (by decide +kernel) (pa_cons (pv 0) (pa_cons (pe_glob (v := .ref (c 17)) rfl (T.gl 17 (by decide)) rfl) pa_nil))) pa_nil))))))
      (pss_cons (ps_set (i := 1) scOwn.nd rfl (Or.inl rfl) (pe_op op_cat (pv 1) (pe_lst (pa_cons (pe_callB call_isX (by rfl) B.isi (by decide +kernel) (pa_cons (pv 0) (pa_cons (pe_glob (v := .ref (c 18)) rfl (T.gl 18 (by decide)) rfl) pa_nil))) (pa_cons (pe_callB call_isX (by rfl) B.isi (by decide +kernel) (pa_cons (pv 0) (pa_cons (pe_glob (v := .ref (c 19)) rfl (T.gl 19 (by decide)) rfl) pa_nil))) (pa_cons (pe_callB call_isX (by rfl) B.isi (by decide +kernel) (pa_cons (pv 0) (pa_cons (pe_glob (v := .ref (c 20)) rfl (T.gl 20 (by decide)) rfl) pa_nil))) pa_nil))))))
      (pss_cons (ps_set (i := 1) scOwn.nd rfl (Or.inl rfl) (pe_op op_cat (pv 1) (pe_lst (pa_cons (pe_callB call_isX (by rfl) B.isi (by decide +kernel) (pa_cons (pv 0) (pa_cons (pe_glob (v := .ref (c 21)) rfl (T.gl 21 (by decide)) rfl) pa_nil))) (pa_cons (pe_callB call_isX (by rfl) B.isi (by decide +kernel) (pa_cons (pv 0) (pa_cons (pe_glob (v := .ref (c 22)) rfl (T.gl 22 (by decide)) rfl) pa_nil))) (pa_cons (pe_callB call_isX (by rfl) B.isi (by decide +kernel) (pa_cons (pv 0) (pa_cons (pe_glob (v := .ref (c 23)) rfl (T.gl 23 (by decide)) rfl) pa_nil))) pa_nil))))))
      (pss_cons (ps_set (i := 1) scOwn.nd rfl (Or.inl rfl) (pe_op op_cat (pv 1) (pe_lst (pa_cons (pe_callB call_isX (by rfl) B.isi (by decide +kernel) (pa_cons (pv 0) (pa_cons (pe_glob (v := .ref (c 24)) rfl (T.gl 24 (by decide)) rfl) pa_nil))) (pa_cons (pe_callB call_isX (by rfl) B.isi (by decide +kernel) (pa_cons (pv 0) (pa_cons (pe_glob (v := .ref (c 25)) rfl (T.gl 25 (by decide)) rfl) pa_nil))) pa_nil)))))
      (pss_one (ps_ret (pv 1)))))))))))), ?_⟩
    refine rdx T e 0 (by decide) rfl (rdx T e 1 (by decide) rfl (rdx T e 2 (by decide) rfl ⟨(by show 3 ≤ sizeLine; decide), fun l0 h0 => ?_⟩))
    have f1 := Fnd.first e h0 [V.bl (decide (i = 0)), V.bl (decide (i = 1)), V.bl (decide (i = 2))]
    refine ⟨_, rfl, rdx T f1.E 3 (by decide) rfl (rdx T f1.E 4 (by decide) rfl (rdx T f1.E 5 (by decide) rfl ⟨(by show 3 ≤ sizeLine; decide), fun p1 hp1 => ?_⟩))⟩
    refine ⟨_, p1, _, [V.bl (decide (i = 3)), V.bl (decide (i = 4)), V.bl (decide (i = 5))], rfl, rfl, f1.at hp1, upd_same, (by show 6 ≤ sizeLine; decide), fun r1 hr1 => ?_⟩
    have f2 := f1.more hp1 hr1
    refine ⟨_, rfl, rdx T f2.E 6 (by decide) rfl (rdx T f2.E 7 (by decide) rfl (rdx T f2.E 8 (by decide) rfl ⟨(by show 3 ≤ sizeLine; decide), fun p2 hp2 => ?_⟩))⟩
    refine ⟨_, p2, _, [V.bl (decide (i = 6)), V.bl (decide (i = 7)), V.bl (decide (i = 8))], rfl, rfl, f2.at hp2, upd_same, (by show 9 ≤ sizeLine; decide), fun r2 hr2 => ?_⟩
    have f3 := f2.more hp2 hr2
    refine ⟨_, rfl, rdx T f3.E 9 (by decide) rfl (rdx T f3.E 10 (by decide) rfl (rdx T f3.E 11 (by decide) rfl ⟨(by show 3 ≤ sizeLine; decide), fun p3 hp3 => ?_⟩))⟩
    refine ⟨_, p3, _, [V.bl (decide (i = 9)), V.bl (decide (i = 10)), V.bl (decide (i = 11))], rfl, rfl, f3.at hp3, upd_same, (by show 12 ≤ sizeLine; decide), fun r3 hr3 => ?_⟩
    have f4 := f3.more hp3 hr3
    refine ⟨_, rfl, rdx T f4.E 12 (by decide) rfl (rdx T f4.E 13 (by decide) rfl (rdx T f4.E 14 (by decide) rfl ⟨(by show 3 ≤ sizeLine; decide), fun p4 hp4 => ?_⟩))⟩
    refine ⟨_, p4, _, [V.bl (decide (i = 12)), V.bl (decide (i = 13)), V.bl (decide (i = 14))], rfl, rfl, f4.at hp4, upd_same, (by show 15 ≤ sizeLine; decide), fun r4 hr4 => ?_⟩
    have f5 := f4.more hp4 hr4
    refine ⟨_, rfl, rdx T f5.E 15 (by decide) rfl (rdx T f5.E 16 (by decide) rfl (rdx T f5.E 17 (by decide) rfl ⟨(by show 3 ≤ sizeLine; decide), fun p5 hp5 => ?_⟩))⟩
    refine ⟨_, p5, _, [V.bl (decide (i = 15)), V.bl (decide (i = 16)), V.bl (decide (i = 17))], rfl, rfl, f5.at hp5, upd_same, (by show 18 ≤ sizeLine; decide), fun r5 hr5 => ?_⟩
    have f6 := f5.more hp5 hr5
    refine ⟨_, rfl, rdx T f6.E 18 (by decide) rfl (rdx T f6.E 19 (by decide) rfl (rdx T f6.E 20 (by decide) rfl ⟨(by show 3 ≤ sizeLine; decide), fun p6 hp6 => ?_⟩))⟩
    refine ⟨_, p6, _, [V.bl (decide (i = 18)), V.bl (decide (i = 19)), V.bl (decide (i = 20))], rfl, rfl, f6.at hp6, upd_same, (by show 21 ≤ sizeLine; decide), fun r6 hr6 => ?_⟩
    have f7 := f6.more hp6 hr6
    refine ⟨_, rfl, rdx T f7.E 21 (by decide) rfl (rdx T f7.E 22 (by decide) rfl (rdx T f7.E 23 (by decide) rfl ⟨(by show 3 ≤ sizeLine; decide), fun p7 hp7 => ?_⟩))⟩
    refine ⟨_, p7, _, [V.bl (decide (i = 21)), V.bl (decide (i = 22)), V.bl (decide (i = 23))], rfl, rfl, f7.at hp7, upd_same, (by show 24 ≤ sizeLine; decide), fun r7 hr7 => ?_⟩
    have f8 := f7.more hp7 hr7
    refine ⟨_, rfl, rdx T f8.E 24 (by decide) rfl (rdx T f8.E 25 (by decide) rfl ⟨(by show 2 ≤ sizeLine; decide), fun p8 hp8 => ?_⟩)⟩
    refine ⟨_, p8, _, [V.bl (decide (i = 24)), V.bl (decide (i = 25))], rfl, rfl, f8.at hp8, upd_same, (by show 26 ≤ sizeLine; decide), fun r8 hr8 => ?_⟩
    have f9 := f8.more hp8 hr8
    exact ⟨_, rfl, k _ _ f9.S f9.L⟩
end
end K0
end

section
set_option Elab.async false
set_option linter.all false
set_option maxRecDepth 100000
set_option maxHeartbeats 8000000
namespace K0
open PySem PySem.Spec PyProof.Rows L2 Pn
section
variable {P : Program} {w : World} {K : PySem.W.Frag} {mg : Str → Option Value} {base : Heap} {c : Nat → Addr}
theorem scShown : FnScope ["_law_e", "_law_k"] ["_law_e", "_law_k"] (defScope sShown) := ⟨rfl, rfl, rfl, by decide +kernel, rfl, by decide +kernel, by decide +kernel⟩
theorem rfx (T : Errs K mg c) {H : Hp} {a : Addr} {k : Nat} {v : V} {Q : VK} {σ : L2.St} (hk : k < 22) (e : Err c H a k [(fld k, v)]) {f : Str} (hf : f = fld k) (hσ : σ[0]? = some (some (.ref a))) (q : Q v H) : tFx K f (tVar 0) σ H Q := by
  subst hf
  obtain ⟨h, d, h1, h2, h3⟩ := e
  cases d with
  | none => exact absurd rfl (h3 (by simp))
  | some d => exact ⟨_, hσ, a, c k, d, _, _, _, v, rfl, T.ex k h, (T.one k hk).no, h1, h2 d rfl, by simp [List.lookup], q⟩
theorem ok_shown {f : Addr} {fd : FuncData} (F : Fun K "_law_shown" "_law_shown" sShown f fd) (B : Blt mg) (T : Errs K mg c) : FnOk P w K mg base CX0 1 f fd ["_law_e", "_law_k"] (spShown c) := by
  refine F.ok scShown (fun vs H Q E h => ?_) (fun cdv A outer s H vs Q E hr h => ?_)
  · obtain ⟨a, k, v, rfl, _⟩ := h
    rfl
  · obtain ⟨a, n, v, rfl, hn, e, k⟩ := h
    refine ⟨_, (pss_cons (ps_if (pt_cmpR op_in_seq (pv 1) (pe_tup (pa_cons pe_int (pa_cons pe_int (pa_cons pe_int (pa_cons pe_int pa_nil))))) rfl) (pss_one (ps_ret (pe_ifExp (pt_cmpR op_eq (pv 1) pe_int (nomark _)) (pe_fx (pv 0)) (pe_fx (pv 0))))) pss_nil)
      (pss_cons (ps_if (pt_cmpR op_in_seq (pv 1) (pe_tup (pa_cons pe_int (pa_cons pe_int (pa_cons pe_int (pa_cons pe_int pa_nil))))) rfl) (pss_one (ps_ret (pe_fx (pv 0)))) pss_nil)
      (pss_cons (ps_if (pt_cmpR op_gt (pv 1) pe_int (nomark _)) (pss_one (ps_ret (pe_ifExp (pt_cmpR op_eq (pv 1) pe_int (nomark _)) (pe_fx (pv 0)) (pe_fx (pv 0))))) pss_nil)
      (pss_one (ps_ret (pe_fx (pv 0))))))), ?_⟩
    refine ⟨_, rfl, (by show 4 ≤ sizeLine; decide), fun p hp => ⟨p, _, rfl, .inr (SqT.of upd_same), rfl, rfl, _, rfl, ?_⟩⟩
    have e1 := e.same (same_new (o := .tup [.int 1, .int 2, .int 9, .int 11]) hp)
    have two : ∀ {H' : Hp} {p' : Addr} (o : HO), Same H H' → H' p' = none → Same H (upd H' p' o) := fun o S h => S.trans (same_new h)
    have cases22 : n = 0 ∨ n = 1 ∨ n = 2 ∨ n = 3 ∨ n = 4 ∨ n = 5 ∨ n = 6 ∨ n = 7 ∨ n = 8 ∨ n = 9 ∨ n = 10 ∨ n = 11 ∨ n = 12 ∨ n = 13 ∨ n = 14 ∨ n = 15 ∨ n = 16 ∨ n = 17 ∨ n = 18 ∨ n = 19 ∨ n = 20 ∨ n = 21 := by omega
    rcases cases22 with rfl | rfl | rfl | rfl | rfl | rfl | rfl | rfl | rfl | rfl | rfl | rfl | rfl | rfl | rfl | rfl | rfl | rfl | rfl | rfl | rfl | rfl
    case inr.inl => exact iteT ⟨_, rfl, rfl, _, rfl, iteT (rfx T hn e1 rfl rfl (k _ (same_new hp)))⟩
    all_goals first
      | exact iteT ⟨_, rfl, rfl, _, rfl, iteF (rfx T hn e1 rfl rfl (k _ (same_new hp)))⟩
      | (refine iteF ⟨_, rfl, (by show 4 ≤ sizeLine; decide), fun p2 hp2 => ⟨p2, _, rfl, .inr (SqT.of upd_same), rfl, rfl, _, rfl, ?_⟩⟩
         have e2 := e1.same (same_new (o := .tup [.int 15, .int 16, .int 17, .int 18]) hp2)
         have s2 := two (.tup [.int 15, .int 16, .int 17, .int 18]) (same_new (o := .tup [.int 1, .int 2, .int 9, .int 11]) hp) hp2
         first
           | exact iteT (rfx T hn e2 rfl rfl (k _ s2))
           | exact iteF ⟨_, rfl, _, _, rfl, rfl, _, rfl, iteT ⟨_, rfl, rfl, _, rfl, iteT (rfx T hn e2 rfl rfl (k _ s2))⟩⟩
           | exact iteF ⟨_, rfl, _, _, rfl, rfl, _, rfl, iteT ⟨_, rfl, rfl, _, rfl, iteF (rfx T hn e2 rfl rfl (k _ s2))⟩⟩
           | exact iteF ⟨_, rfl, _, _, rfl, rfl, _, rfl, iteF (rfx T hn e2 rfl rfl (k _ s2))⟩)
end
end K0
end

section
set_option Elab.async false
set_option linter.all false
set_option maxRecDepth 100000
set_option maxHeartbeats 8000000
namespace K0
open PySem PySem.Spec PyProof.Rows L2 Pn
def PairAt (c : Nat → Addr) (H : Hp) (t : Addr) (j : Nat) (v : V) : Prop := ∃ a b, H t = some (.tup [.ref a, .ref b]) ∧ Err c H a j [(fld j, v)] ∧ Err c H b j [(fld j, v)]
theorem PairAt.same {c : Nat → Addr} {H H' : Hp} {t : Addr} {j : Nat} {v : V} (p : PairAt c H t j v) (S : Same H H') : PairAt c H' t j v := by
  obtain ⟨a, b, h1, h2, h3⟩ := p
  exact ⟨a, b, S _ _ h1, h2.same S, h3.same S⟩
structure Ons (c : Nat → Addr) (H0 H : Hp) (l : Addr) (xs : List V) (v : V) : Prop where
  S : Same H0 H
  L : H l = some (.lst xs)
  A : ∀ (k : Nat) (x : V), xs[k]? = some x → ∃ t, x = .ref t ∧ PairAt c H t k v
def spOnes (c : Nat → Addr) : Sp := fun vs H Q _ => ∃ v, vs = [v] ∧ ∀ p H', Same H H' → (∃ xs, H' p = some (.lst xs) ∧ xs.length = 22 ∧ ∀ (k : Nat) (x : V), xs[k]? = some x → ∃ t, x = .ref t ∧ PairAt c H' t k v) → Q (.ref p) H'
theorem Ons.first {c : Nat → Addr} {H0 H : Hp} {t u l : Addr} {v : V} (S : Same H0 H) (p : PairAt c H t 0 v) (q : PairAt c H u 1 v) (h : H l = none) : Ons c H0 (upd H l (.lst [.ref t, .ref u])) l [.ref t, .ref u] v := by
  refine ⟨S.trans (same_new h), upd_same, fun k x e => ?_⟩
  match k, e with
  | 0, e => cases e; exact ⟨t, rfl, p.same (same_new h)⟩
  | 1, e => cases e; exact ⟨u, rfl, q.same (same_new h)⟩
theorem Ons.at {c : Nat → Addr} {H0 H H1 : Hp} {l p : Addr} {xs ys : List V} {v : V} (o : Ons c H0 H l xs v) (S : Same H H1) (h : H1 p = none) : upd H1 p (.lst ys) l = some (.lst xs) := same_new h _ _ (S _ _ o.L)
theorem Ons.more {c : Nat → Addr} {H0 H H1 : Hp} {l p r t u : Addr} {xs : List V} {v : V} {j : Nat} (o : Ons c H0 H l xs v) (hj : xs.length = j) (S : Same H H1) (a : PairAt c H1 t j v) (b : PairAt c H1 u (j + 1) v) (hp : H1 p = none)
    (hr : upd H1 p (.lst [.ref t, .ref u]) r = none) : Ons c H0 (upd (upd H1 p (.lst [.ref t, .ref u])) r (.lst (xs ++ [.ref t, .ref u]))) r (xs ++ [.ref t, .ref u]) v := by
  have S1 : Same H1 (upd (upd H1 p (.lst [.ref t, .ref u])) r (.lst (xs ++ [.ref t, .ref u]))) := (same_new hp).trans (same_new hr)
  refine ⟨(o.S.trans S).trans S1, upd_same, fun k x e => ?_⟩
  by_cases hk : k < xs.length
  · rw [List.getElem?_append_left hk] at e
    obtain ⟨t', e1, e2⟩ := o.A k x e
    exact ⟨t', e1, e2.same (S.trans S1)⟩
  · rw [List.getElem?_append_right (by omega)] at e
    have hk2 : k - xs.length < 2 := by
      have z := (List.getElem?_eq_some_iff.mp e).1
      simpa using z
    rcases (by omega : k - xs.length = 0 ∨ k - xs.length = 1) with z | z
    · rw [z] at e
      cases e
      have : k = j := by omega
      subst this
      exact ⟨t, rfl, a.same S1⟩
    · rw [z] at e
      cases e
      have : k = j + 1 := by omega
      subst this
      exact ⟨u, rfl, b.same S1⟩
section
variable {P : Program} {w : World} {K : PySem.W.Frag} {mg : Str → Option Value} {base : Heap} {c : Nat → Addr}
abbrev ex1 (c : Nat → Addr) (H : Hp) (a d : Addr) (j : Nat) (v : V) : Hp := upd (upd H d (exd d [(fld j, v)])) a (exo a (c j) (some d))
theorem rm (T : Errs K mg c) {H : Hp} {v : V} {a d : Addr} (j : Nat) (hj : j < 22) (ha : H a = none) (hd : H d = none) (ne : d ≠ a) : Same H (ex1 c H a d j v) ∧ Err c (ex1 c H a d j v) a j [(fld j, v)] := by
  have hd' : upd H d (exd d [(fld j, v)]) a = none := by rw [upd_ne ne.symm]; exact ha
  exact ⟨(same_new hd).trans (same_new hd'), ⟨by omega, some d, upd_same, fun dd e => by cases e; exact (upd_ne ne).trans upd_same, fun _ z => by cases z⟩⟩
theorem rp (T : Errs K mg c) {H : Hp} {v : V} {a d b e t : Addr} (j : Nat) (hj : j < 22) (ha : H a = none) (hd : H d = none) (ne : d ≠ a) (hb : ex1 c H a d j v b = none) (he : ex1 c H a d j v e = none) (nf : e ≠ b) (ht : ex1 c (ex1 c H a d j v) b e j v t = none) :
    Same H (upd (ex1 c (ex1 c H a d j v) b e j v) t (.tup [.ref a, .ref b])) ∧ PairAt c (upd (ex1 c (ex1 c H a d j v) b e j v) t (.tup [.ref a, .ref b])) t j v := by
  obtain ⟨S1, e1⟩ := rm T (v := v) j hj ha hd ne
  obtain ⟨S2, e2⟩ := rm T (v := v) j hj hb he nf
  exact ⟨(S1.trans S2).trans (same_new ht), a, b, upd_same, (e1.same S2).same (same_new ht), e2.same (same_new ht)⟩
theorem scOnes : FnScope ["_law_odd", "_law_found"] ["_law_odd"] (defScope sOnes) := ⟨rfl, rfl, rfl, by decide +kernel, rfl, by decide +kernel, by decide +kernel⟩
theorem ok_ones {f : Addr} {fd : FuncData} (F : Fun K "_law_ones" "_law_ones" sOnes f fd) (T : Errs K mg c) : FnOk P w K mg base CX0 2 f fd ["_law_odd"] (spOnes c) := by
  refine F.ok scOnes (fun vs H Q E h => ?_) (fun cdv A outer s H vs Q E hr h => ?_)
  · obtain ⟨v, rfl, _⟩ := h
    rfl
  · obtain ⟨v, rfl, k⟩ := h
    have hr1 : Room 1 _ := hr
    refine ⟨_, (pss_cons (ps_set (i := 1) scOnes.nd rfl (Or.inl rfl) (pe_lst (pa_cons (pe_tup (pa_cons (pe_mk1 (basOk (bas 0)) (T.one 0 (by decide)) hr1 (T.gl 0 (by decide)) (pa_cons (pv 0) pa_nil)) (pa_cons (pe_mk1k (basOk (bas 0)) (T.one 0 (by decide)) hr1 (T.gl 0 (by decide)) (pk_cons (pv 0) pk_nil)) pa_nil))) (pa_cons (pe_tup (pa_cons (pe_mk1 (basOk (bas 1)) (T.one 1 (by decide)) hr1 (T.gl 1 (by decide)) (pa_cons (pv 0) pa_nil)) (pa_cons (pe_mk1k (basOk (bas 1)) (T.one 1 (by decide)) hr1 (T.gl 1 (by decide)) (pk_cons (pv 0) pk_nil)) pa_nil))) pa_nil))))
      (pss_cons (ps_set (i := 1) scOnes.nd rfl (Or.inl rfl) (pe_op op_cat (pv 1) (pe_lst (pa_cons (pe_tup (pa_cons (pe_mk1 (basOk (bas 2)) (T.one 2 (by decide)) hr1 (T.gl 2 (by decide)) (pa_cons (pv 0) pa_nil)) (pa_cons (pe_mk1k (basOk (bas 2)) (T.one 2 (by decide)) hr1 (T.gl 2 (by decide)) (pk_cons (pv 0) pk_nil)) pa_nil))) (pa_cons (pe_tup (pa_cons (pe_mk1 (basOk (bas 3)) (T.one 3 (by decide)) hr1 (T.gl 3 (by decide)) (pa_cons (pv 0) pa_nil)) (pa_cons (pe_mk1k (basOk (bas 3)) (T.one 3 (by decide)) hr1 (T.gl 3 (by decide)) (pk_cons (pv 0) pk_nil)) pa_nil))) pa_nil)))))
      (pss_cons (ps_set (i := 1) scOnes.nd rfl (Or.inl rfl) (pe_op op_cat (pv 1) (pe_lst (pa_cons (pe_tup (pa_cons (pe_mk1 (basOk (bas 4)) (T.one 4 (by decide)) hr1 (T.gl 4 (by decide)) (pa_cons (pv 0) pa_nil)) (pa_cons (pe_mk1k (basOk (bas 4)) (T.one 4 (by decide)) hr1 (T.gl 4 (by decide)) (pk_cons (pv 0) pk_nil)) pa_nil))) (pa_cons (pe_tup (pa_cons (pe_mk1 (basOk (bas 5)) (T.one 5 (by decide)) hr1 (T.gl 5 (by decide)) (pa_cons (pv 0) pa_nil)) (pa_cons (pe_mk1k (basOk (bas 5)) (T.one 5 (by decide)) hr1 (T.gl 5 (by decide)) (pk_cons (pv 0) pk_nil)) pa_nil))) pa_nil)))))
      (pss_cons (ps_set (i := 1) scOnes.nd rfl (Or.inl rfl) (pe_op op_cat (pv 1) (pe_lst (pa_cons (pe_tup (pa_cons (pe_mk1 (basOk (bas 6)) (T.one 6 (by decide)) hr1 (T.gl 6 (by decide)) (pa_cons (pv 0) pa_nil)) (pa_cons (pe_mk1k (basOk (bas 6)) (T.one 6 (by decide)) hr1 (T.gl 6 (by decide)) (pk_cons (pv 0) pk_nil)) pa_nil))) (pa_cons (pe_tup (pa_cons (pe_mk1 (basOk (bas 7)) (T.one 7 (by decide)) hr1 (T.gl 7 (by decide)) (pa_cons (pv 0) pa_nil)) (pa_cons (pe_mk1k (basOk (bas 7)) (T.one 7 (by decide)) hr1 (T.gl 7 (by decide)) (pk_cons (pv 0) pk_nil)) pa_nil))) pa_nil)))))
      (pss_cons (ps_set (i := 1) scOnes.nd rfl (Or.inl rfl) (pe_op op_cat (pv 1) (pe_lst (pa_cons (pe_tup (pa_cons (pe_mk1 (basOk (bas 8)) (T.one 8 (by decide)) hr1 (T.gl 8 (by decide)) (pa_cons (pv 0) pa_nil)) (pa_cons (pe_mk1k (basOk (bas 8)) (T.one 8 (by decide)) hr1 (T.gl 8 (by decide)) (pk_cons (pv 0) pk_nil)) pa_nil))) (pa_cons (pe_tup (pa_cons (pe_mk1 (basOk (bas 9)) (T.one 9 (by decide)) hr1 (T.gl 9 (by decide)) (pa_cons (pv 0) pa_nil)) (pa_cons (pe_mk1k (basOk (bas 9)) (T.one 9 (by decide)) hr1 (T.gl 9 (by decide)) (pk_cons (pv 0) pk_nil)) pa_nil))) pa_nil)))))
      (pss_cons (ps_set (i := 1) scOnes.nd rfl (Or.inl rfl) (pe_op op_cat (pv 1) (pe_lst (pa_cons (pe_tup (pa_cons (pe_mk1 (basOk (bas 10)) (T.one 10 (by decide)) hr1 (T.gl 10 (by decide)) (pa_cons (pv 0) pa_nil)) (pa_cons (pe_mk1k (basOk (bas 10)) (T.one 10 (by decide)) hr1 (T.gl 10 (by decide)) (pk_cons (pv 0) pk_nil)) pa_nil))) (pa_cons (pe_tup (pa_cons (pe_mk1 (basOk (bas 11)) (T.one 11 (by decide)) hr1 (T.gl 11 (by decide)) (pa_cons (pv 0) pa_nil)) (pa_cons (pe_mk1k (basOk (bas 11)) (T.one 11 (by decide)) hr1 (T.gl 11 (by decide)) (pk_cons (pv 0) pk_nil)) pa_nil))) pa_nil)))))
      (pss_cons (ps_set (i := 1) scOnes.nd rfl (Or.inl rfl) (pe_op op_cat (pv 1) (pe_lst (pa_cons (pe_tup (pa_cons (pe_mk1 (basOk (bas 12)) (T.one 12 (by decide)) hr1 (T.gl 12 (by decide)) (pa_cons (pv 0) pa_nil)) (pa_cons (pe_mk1k (basOk (bas 12)) (T.one 12 (by decide)) hr1 (T.gl 12 (by decide)) (pk_cons (pv 0) pk_nil)) pa_nil))) (pa_cons (pe_tup (pa_cons (pe_mk1 (basOk (bas 13)) (T.one 13 (by decide)) hr1 (T.gl 13 (by decide)) (pa_cons (pv 0) pa_nil)) (pa_cons (pe_mk1k (basOk (bas 13)) (T.one 13 (by decide)) hr1 (T.gl 13 (by decide)) (pk_cons (pv 0) pk_nil)) pa_nil))) pa_nil)))))
      (pss_cons (ps_set (i := 1) scOnes.nd rfl (Or.inl rfl) (pe_op op_cat (pv 1) (pe_lst (pa_cons (pe_tup (pa_cons (pe_mk1 (basOk (bas 14)) (T.one 14 (by decide)) hr1 (T.gl 14 (by decide)) (pa_cons (pv 0) pa_nil)) (pa_cons (pe_mk1k (basOk (bas 14)) (T.one 14 (by decide)) hr1 (T.gl 14 (by decide)) (pk_cons (pv 0) pk_nil)) pa_nil))) (pa_cons (pe_tup (pa_cons (pe_mk1 (basOk (bas 15)) (T.one 15 (by decide)) hr1 (T.gl 15 (by decide)) (pa_cons (pv 0) pa_nil)) (pa_cons (pe_mk1k (basOk (bas 15)) (T.one 15 (by decide)) hr1 (T.gl 15 (by decide)) (pk_cons (pv 0) pk_nil)) pa_nil))) pa_nil)))))
      (pss_cons (ps_set (i := 1) scOnes.nd rfl (Or.inl rfl) (pe_op op_cat (pv 1) (pe_lst (pa_cons (pe_tup (pa_cons (pe_mk1 (basOk (bas 16)) (T.one 16 (by decide)) hr1 (T.gl 16 (by decide)) (pa_cons (pv 0) pa_nil)) (pa_cons (pe_mk1k (basOk (bas 16)) (T.one 16 (by decide)) hr1 (T.gl 16 (by decide)) (pk_cons (pv 0) pk_nil)) pa_nil))) (pa_cons (pe_tup (pa_cons (pe_mk1 (basOk (bas 17)) (T.one 17 (by decide)) hr1 (T.gl 17 (by decide)) (pa_cons (pv 0) pa_nil)) (pa_cons (pe_mk1k (basOk (bas 17)) (T.one 17 (by decide)) hr1 (T.gl 17 (by decide)) (pk_cons (pv 0) pk_nil)) pa_nil))) pa_nil)))))
      (pss_cons (ps_set (i := 1) scOnes.nd rfl (Or.inl rfl) (pe_op op_cat (pv 1) (pe_lst (pa_cons (pe_tup (pa_cons (pe_mk1 (basOk (bas 18)) (T.one 18 (by decide)) hr1 (T.gl 18 (by decide)) (pa_cons (pv 0) pa_nil)) (pa_cons (pe_mk1k (basOk (bas 18)) (T.one 18 (by decide)) hr1 (T.gl 18 (by decide)) (pk_cons (pv 0) pk_nil)) pa_nil))) (pa_cons (pe_tup (pa_cons (pe_mk1 (basOk (bas 19)) (T.one 19 (by decide)) hr1 (T.gl 19 (by decide)) (pa_cons (pv 0) pa_nil)) (pa_cons (pe_mk1k (basOk (bas 19)) (T.one 19 (by decide)) hr1 (T.gl 19 (by decide)) (pk_cons (pv 0) pk_nil)) pa_nil))) pa_nil)))))
      (pss_cons (ps_set (i := 1) scOnes.nd rfl (Or.inl rfl) (pe_op op_cat (pv 1) (pe_lst (pa_cons (pe_tup (pa_cons (pe_mk1 (basOk (bas 20)) (T.one 20 (by decide)) hr1 (T.gl 20 (by decide)) (pa_cons (pv 0) pa_nil)) (pa_cons (pe_mk1k (basOk (bas 20)) (T.one 20 (by decide)) hr1 (T.gl 20 (by decide)) (pk_cons (pv 0) pk_nil)) pa_nil))) (pa_cons (pe_tup (pa_cons (pe_mk1 (basOk (bas 21)) (T.one 21 (by decide)) hr1 (T.gl 21 (by decide)) (pa_cons (pv 0) pa_nil)) (pa_cons (pe_mk1k (basOk (bas 21)) (T.one 21 (by decide)) hr1 (T.gl 21 (by decide)) (pk_cons (pv 0) pk_nil)) pa_nil))) pa_nil)))))
      (pss_one (ps_ret (pv 1)))))))))))))), ?_⟩
    refine ⟨_, rfl, _, rfl, fun a0_0 d0_0 ha0_0 hd0_0 ne0_0 => ⟨_, rfl, _, rfl, fun b0_0 e0_0 hb0_0 he0_0 nf0_0 => ⟨(by show 2 ≤ sizeLine; decide), fun t0 ht0_0 => ?_⟩⟩⟩
    have q0 := rp T 0 (by decide) ha0_0 hd0_0 ne0_0 hb0_0 he0_0 nf0_0 ht0_0 (v := v)
    refine ⟨_, rfl, _, rfl, fun a0_1 d0_1 ha0_1 hd0_1 ne0_1 => ⟨_, rfl, _, rfl, fun b0_1 e0_1 hb0_1 he0_1 nf0_1 => ⟨(by show 2 ≤ sizeLine; decide), fun u0 ht0_1 => ?_⟩⟩⟩
    have w0 := rp T 1 (by decide) ha0_1 hd0_1 ne0_1 hb0_1 he0_1 nf0_1 ht0_1 (v := v)
    refine ⟨(by show 2 ≤ sizeLine; decide), fun l0 h0 => ?_⟩
    have o0 := Ons.first (q0.1.trans w0.1) (q0.2.same w0.1) w0.2 h0
    refine ⟨_, rfl, ?_⟩
    refine ⟨_, rfl, _, rfl, fun a1_0 d1_0 ha1_0 hd1_0 ne1_0 => ⟨_, rfl, _, rfl, fun b1_0 e1_0 hb1_0 he1_0 nf1_0 => ⟨(by show 2 ≤ sizeLine; decide), fun t1 ht1_0 => ?_⟩⟩⟩
    have q1 := rp T 2 (by decide) ha1_0 hd1_0 ne1_0 hb1_0 he1_0 nf1_0 ht1_0 (v := v)
    refine ⟨_, rfl, _, rfl, fun a1_1 d1_1 ha1_1 hd1_1 ne1_1 => ⟨_, rfl, _, rfl, fun b1_1 e1_1 hb1_1 he1_1 nf1_1 => ⟨(by show 2 ≤ sizeLine; decide), fun u1 ht1_1 => ?_⟩⟩⟩
    have w1 := rp T 3 (by decide) ha1_1 hd1_1 ne1_1 hb1_1 he1_1 nf1_1 ht1_1 (v := v)
    refine ⟨(by show 2 ≤ sizeLine; decide), fun l1 h1 => ?_⟩
    refine ⟨_, l1, _, [.ref t1, .ref u1], rfl, rfl, o0.at (q1.1.trans w1.1) h1, upd_same, (by show 4 ≤ sizeLine; decide), fun r1 g1 => ?_⟩
    have o1 := o0.more (j := 2) rfl (q1.1.trans w1.1) (q1.2.same w1.1) w1.2 h1 g1
    refine ⟨_, rfl, ?_⟩
    refine ⟨_, rfl, _, rfl, fun a2_0 d2_0 ha2_0 hd2_0 ne2_0 => ⟨_, rfl, _, rfl, fun b2_0 e2_0 hb2_0 he2_0 nf2_0 => ⟨(by show 2 ≤ sizeLine; decide), fun t2 ht2_0 => ?_⟩⟩⟩
    have q2 := rp T 4 (by decide) ha2_0 hd2_0 ne2_0 hb2_0 he2_0 nf2_0 ht2_0 (v := v)
    refine ⟨_, rfl, _, rfl, fun a2_1 d2_1 ha2_1 hd2_1 ne2_1 => ⟨_, rfl, _, rfl, fun b2_1 e2_1 hb2_1 he2_1 nf2_1 => ⟨(by show 2 ≤ sizeLine; decide), fun u2 ht2_1 => ?_⟩⟩⟩
    have w2 := rp T 5 (by decide) ha2_1 hd2_1 ne2_1 hb2_1 he2_1 nf2_1 ht2_1 (v := v)
    refine ⟨(by show 2 ≤ sizeLine; decide), fun l2 h2 => ?_⟩
    refine ⟨_, l2, _, [.ref t2, .ref u2], rfl, rfl, o1.at (q2.1.trans w2.1) h2, upd_same, (by show 6 ≤ sizeLine; decide), fun r2 g2 => ?_⟩
    have o2 := o1.more (j := 4) rfl (q2.1.trans w2.1) (q2.2.same w2.1) w2.2 h2 g2
    refine ⟨_, rfl, ?_⟩
    refine ⟨_, rfl, _, rfl, fun a3_0 d3_0 ha3_0 hd3_0 ne3_0 => ⟨_, rfl, _, rfl, fun b3_0 e3_0 hb3_0 he3_0 nf3_0 => ⟨(by show 2 ≤ sizeLine; decide), fun t3 ht3_0 => ?_⟩⟩⟩
    have q3 := rp T 6 (by decide) ha3_0 hd3_0 ne3_0 hb3_0 he3_0 nf3_0 ht3_0 (v := v)
    refine ⟨_, rfl, _, rfl, fun a3_1 d3_1 ha3_1 hd3_1 ne3_1 => ⟨_, rfl, _, rfl, fun b3_1 e3_1 hb3_1 he3_1 nf3_1 => ⟨(by show 2 ≤ sizeLine; decide), fun u3 ht3_1 => ?_⟩⟩⟩
    have w3 := rp T 7 (by decide) ha3_1 hd3_1 ne3_1 hb3_1 he3_1 nf3_1 ht3_1 (v := v)
    refine ⟨(by show 2 ≤ sizeLine; decide), fun l3 h3 => ?_⟩
    refine ⟨_, l3, _, [.ref t3, .ref u3], rfl, rfl, o2.at (q3.1.trans w3.1) h3, upd_same, (by show 8 ≤ sizeLine; decide), fun r3 g3 => ?_⟩
    have o3 := o2.more (j := 6) rfl (q3.1.trans w3.1) (q3.2.same w3.1) w3.2 h3 g3
    refine ⟨_, rfl, ?_⟩
    refine ⟨_, rfl, _, rfl, fun a4_0 d4_0 ha4_0 hd4_0 ne4_0 => ⟨_, rfl, _, rfl, fun b4_0 e4_0 hb4_0 he4_0 nf4_0 => ⟨(by show 2 ≤ sizeLine; decide), fun t4 ht4_0 => ?_⟩⟩⟩
    have q4 := rp T 8 (by decide) ha4_0 hd4_0 ne4_0 hb4_0 he4_0 nf4_0 ht4_0 (v := v)
    refine ⟨_, rfl, _, rfl, fun a4_1 d4_1 ha4_1 hd4_1 ne4_1 => ⟨_, rfl, _, rfl, fun b4_1 e4_1 hb4_1 he4_1 nf4_1 => ⟨(by show 2 ≤ sizeLine; decide), fun u4 ht4_1 => ?_⟩⟩⟩
    have w4 := rp T 9 (by decide) ha4_1 hd4_1 ne4_1 hb4_1 he4_1 nf4_1 ht4_1 (v := v)
    refine ⟨(by show 2 ≤ sizeLine; decide), fun l4 h4 => ?_⟩
    refine ⟨_, l4, _, [.ref t4, .ref u4], rfl, rfl, o3.at (q4.1.trans w4.1) h4, upd_same, (by show 10 ≤ sizeLine; decide), fun r4 g4 => ?_⟩
    have o4 := o3.more (j := 8) rfl (q4.1.trans w4.1) (q4.2.same w4.1) w4.2 h4 g4
    refine ⟨_, rfl, ?_⟩
    refine ⟨_, rfl, _, rfl, fun a5_0 d5_0 ha5_0 hd5_0 ne5_0 => ⟨_, rfl, _, rfl, fun b5_0 e5_0 hb5_0 he5_0 nf5_0 => ⟨(by show 2 ≤ sizeLine; decide), fun t5 ht5_0 => ?_⟩⟩⟩
    have q5 := rp T 10 (by decide) ha5_0 hd5_0 ne5_0 hb5_0 he5_0 nf5_0 ht5_0 (v := v)
    refine ⟨_, rfl, _, rfl, fun a5_1 d5_1 ha5_1 hd5_1 ne5_1 => ⟨_, rfl, _, rfl, fun b5_1 e5_1 hb5_1 he5_1 nf5_1 => ⟨(by show 2 ≤ sizeLine; decide), fun u5 ht5_1 => ?_⟩⟩⟩
    have w5 := rp T 11 (by decide) ha5_1 hd5_1 ne5_1 hb5_1 he5_1 nf5_1 ht5_1 (v := v)
    refine ⟨(by show 2 ≤ sizeLine; decide), fun l5 h5 => ?_⟩
    refine ⟨_, l5, _, [.ref t5, .ref u5], rfl, rfl, o4.at (q5.1.trans w5.1) h5, upd_same, (by show 12 ≤ sizeLine; decide), fun r5 g5 => ?_⟩
    have o5 := o4.more (j := 10) rfl (q5.1.trans w5.1) (q5.2.same w5.1) w5.2 h5 g5
    refine ⟨_, rfl, ?_⟩
    refine ⟨_, rfl, _, rfl, fun a6_0 d6_0 ha6_0 hd6_0 ne6_0 => ⟨_, rfl, _, rfl, fun b6_0 e6_0 hb6_0 he6_0 nf6_0 => ⟨(by show 2 ≤ sizeLine; decide), fun t6 ht6_0 => ?_⟩⟩⟩
    have q6 := rp T 12 (by decide) ha6_0 hd6_0 ne6_0 hb6_0 he6_0 nf6_0 ht6_0 (v := v)
    refine ⟨_, rfl, _, rfl, fun a6_1 d6_1 ha6_1 hd6_1 ne6_1 => ⟨_, rfl, _, rfl, fun b6_1 e6_1 hb6_1 he6_1 nf6_1 => ⟨(by show 2 ≤ sizeLine; decide), fun u6 ht6_1 => ?_⟩⟩⟩
    have w6 := rp T 13 (by decide) ha6_1 hd6_1 ne6_1 hb6_1 he6_1 nf6_1 ht6_1 (v := v)
    refine ⟨(by show 2 ≤ sizeLine; decide), fun l6 h6 => ?_⟩
    refine ⟨_, l6, _, [.ref t6, .ref u6], rfl, rfl, o5.at (q6.1.trans w6.1) h6, upd_same, (by show 14 ≤ sizeLine; decide), fun r6 g6 => ?_⟩
    have o6 := o5.more (j := 12) rfl (q6.1.trans w6.1) (q6.2.same w6.1) w6.2 h6 g6
    refine ⟨_, rfl, ?_⟩
    refine ⟨_, rfl, _, rfl, fun a7_0 d7_0 ha7_0 hd7_0 ne7_0 => ⟨_, rfl, _, rfl, fun b7_0 e7_0 hb7_0 he7_0 nf7_0 => ⟨(by show 2 ≤ sizeLine; decide), fun t7 ht7_0 => ?_⟩⟩⟩
    have q7 := rp T 14 (by decide) ha7_0 hd7_0 ne7_0 hb7_0 he7_0 nf7_0 ht7_0 (v := v)
    refine ⟨_, rfl, _, rfl, fun a7_1 d7_1 ha7_1 hd7_1 ne7_1 => ⟨_, rfl, _, rfl, fun b7_1 e7_1 hb7_1 he7_1 nf7_1 => ⟨(by show 2 ≤ sizeLine; decide), fun u7 ht7_1 => ?_⟩⟩⟩
    have w7 := rp T 15 (by decide) ha7_1 hd7_1 ne7_1 hb7_1 he7_1 nf7_1 ht7_1 (v := v)
    refine ⟨(by show 2 ≤ sizeLine; decide), fun l7 h7 => ?_⟩
    refine ⟨_, l7, _, [.ref t7, .ref u7], rfl, rfl, o6.at (q7.1.trans w7.1) h7, upd_same, (by show 16 ≤ sizeLine; decide), fun r7 g7 => ?_⟩
    have o7 := o6.more (j := 14) rfl (q7.1.trans w7.1) (q7.2.same w7.1) w7.2 h7 g7
    refine ⟨_, rfl, ?_⟩
    refine ⟨_, rfl, _, rfl, fun a8_0 d8_0 ha8_0 hd8_0 ne8_0 => ⟨_, rfl, _, rfl, fun b8_0 e8_0 hb8_0 he8_0 nf8_0 => ⟨(by show 2 ≤ sizeLine; decide), fun t8 ht8_0 => ?_⟩⟩⟩
    have q8 := rp T 16 (by decide) ha8_0 hd8_0 ne8_0 hb8_0 he8_0 nf8_0 ht8_0 (v := v)
    refine ⟨_, rfl, _, rfl, fun a8_1 d8_1 ha8_1 hd8_1 ne8_1 => ⟨_, rfl, _, rfl, fun b8_1 e8_1 hb8_1 he8_1 nf8_1 => ⟨(by show 2 ≤ sizeLine; decide), fun u8 ht8_1 => ?_⟩⟩⟩
    have w8 := rp T 17 (by decide) ha8_1 hd8_1 ne8_1 hb8_1 he8_1 nf8_1 ht8_1 (v := v)
    refine ⟨(by show 2 ≤ sizeLine; decide), fun l8 h8 => ?_⟩
    refine ⟨_, l8, _, [.ref t8, .ref u8], rfl, rfl, o7.at (q8.1.trans w8.1) h8, upd_same, (by show 18 ≤ sizeLine; decide), fun r8 g8 => ?_⟩
    have o8 := o7.more (j := 16) rfl (q8.1.trans w8.1) (q8.2.same w8.1) w8.2 h8 g8
    refine ⟨_, rfl, ?_⟩
    refine ⟨_, rfl, _, rfl, fun a9_0 d9_0 ha9_0 hd9_0 ne9_0 => ⟨_, rfl, _, rfl, fun b9_0 e9_0 hb9_0 he9_0 nf9_0 => ⟨(by show 2 ≤ sizeLine; decide), fun t9 ht9_0 => ?_⟩⟩⟩
    have q9 := rp T 18 (by decide) ha9_0 hd9_0 ne9_0 hb9_0 he9_0 nf9_0 ht9_0 (v := v)
    refine ⟨_, rfl, _, rfl, fun a9_1 d9_1 ha9_1 hd9_1 ne9_1 => ⟨_, rfl, _, rfl, fun b9_1 e9_1 hb9_1 he9_1 nf9_1 => ⟨(by show 2 ≤ sizeLine; decide), fun u9 ht9_1 => ?_⟩⟩⟩
    have w9 := rp T 19 (by decide) ha9_1 hd9_1 ne9_1 hb9_1 he9_1 nf9_1 ht9_1 (v := v)
    refine ⟨(by show 2 ≤ sizeLine; decide), fun l9 h9 => ?_⟩
    refine ⟨_, l9, _, [.ref t9, .ref u9], rfl, rfl, o8.at (q9.1.trans w9.1) h9, upd_same, (by show 20 ≤ sizeLine; decide), fun r9 g9 => ?_⟩
    have o9 := o8.more (j := 18) rfl (q9.1.trans w9.1) (q9.2.same w9.1) w9.2 h9 g9
    refine ⟨_, rfl, ?_⟩
    refine ⟨_, rfl, _, rfl, fun a10_0 d10_0 ha10_0 hd10_0 ne10_0 => ⟨_, rfl, _, rfl, fun b10_0 e10_0 hb10_0 he10_0 nf10_0 => ⟨(by show 2 ≤ sizeLine; decide), fun t10 ht10_0 => ?_⟩⟩⟩
    have q10 := rp T 20 (by decide) ha10_0 hd10_0 ne10_0 hb10_0 he10_0 nf10_0 ht10_0 (v := v)
    refine ⟨_, rfl, _, rfl, fun a10_1 d10_1 ha10_1 hd10_1 ne10_1 => ⟨_, rfl, _, rfl, fun b10_1 e10_1 hb10_1 he10_1 nf10_1 => ⟨(by show 2 ≤ sizeLine; decide), fun u10 ht10_1 => ?_⟩⟩⟩
    have w10 := rp T 21 (by decide) ha10_1 hd10_1 ne10_1 hb10_1 he10_1 nf10_1 ht10_1 (v := v)
    refine ⟨(by show 2 ≤ sizeLine; decide), fun l10 h10 => ?_⟩
    refine ⟨_, l10, _, [.ref t10, .ref u10], rfl, rfl, o9.at (q10.1.trans w10.1) h10, upd_same, (by show 22 ≤ sizeLine; decide), fun r10 g10 => ?_⟩
    have o10 := o9.more (j := 20) rfl (q10.1.trans w10.1) (q10.2.same w10.1) w10.2 h10 g10
    exact ⟨_, rfl, k _ _ o10.S ⟨_, o10.L, rfl, o10.A⟩⟩
end
end K0
end

section
set_option Elab.async false
set_option linter.all false
set_option maxRecDepth 100000
set_option maxHeartbeats 8000000
namespace K0
open PySem PySem.Spec PyProof.Rows L2 Pn
abbrev sRight : Stmt := top 46
theorem bls_dp {K : PySem.W.Frag} {H : Hp} : ∀ bs : List Bool, DpAll K H (bs.map V.bl) (bs.map PyData.bool)
  | [] => .nil
  | b :: bs => .cons (.bl b) (bls_dp bs)
theorem bls_eqAll : ∀ bs : List Bool, PyData.eqvAll (bs.map PyData.bool) (bs.map PyData.bool) = true
  | [] => rfl
  | b :: bs => by
    show (PyData.eqv (.bool b) (.bool b) && PyData.eqvAll (bs.map PyData.bool) (bs.map PyData.bool)) = true
    rw [bls_eqAll bs]
    simp [PyData.eqv]
theorem bls_eq (bs : List Bool) : PyData.eqv (.list (bs.map PyData.bool)) (.list (bs.map PyData.bool)) = true := bls_eqAll bs
theorem bls_depth : ∀ bs : List Bool, PyData.depthAll (bs.map PyData.bool) = 0
  | [] => rfl
  | b :: bs => by
    show max (PyData.depth (.bool b)) (PyData.depthAll (bs.map PyData.bool)) = 0
    rw [bls_depth bs]
    rfl
theorem bls_can : ∀ bs : List Bool, PyData.canLayAll0 (bs.map PyData.bool) = true
  | [] => rfl
  | b :: bs => by
    show (PyData.canLay0 (.bool b) && PyData.canLayAll0 (bs.map PyData.bool)) = true
    rw [bls_can bs]
    rfl
theorem bls_shaped (bs : List Bool) : SeqAt.shaped (.list (bs.map PyData.bool)) = true := by
  have h1 := bls_depth bs
  have h2 : PyData.depth (.list (bs.map PyData.bool)) ≤ 64 := by simp only [PyData.depth]; omega
  show (PyData.canLay0 (.list (bs.map PyData.bool)) && decide (PyData.depth (.list (bs.map PyData.bool)) ≤ 64)) = true
  rw [Bool.and_eq_true]
  exact ⟨by simp only [PyData.canLay0]; exact bls_can bs, decide_eq_true h2⟩
def spRight (c : Nat → Addr) : Sp := fun vs H Q _ => ∃ (a : Addr) (i : Nat) (fs : List (Str × V)), vs = [.ref a, .int (i : Int), .int (bas i : Int)] ∧ Err c H a i fs ∧ ∀ H', Same H H' → Q (.bl true) H'
theorem jb (i j : Nat) : decide (V.int (0 + (j : Int)) = V.int (i : Int)) = decide (i = j) := by
  rw [dec_int]
  by_cases e : i = j
  · subst e; simp
  · rw [decide_eq_false e]
    simp only [beq_eq_false_iff_ne]
    omega
theorem rangeSnoc (f : Nat → V) (k : Nat) : (List.range (k + 1)).map f = (List.range k).map f ++ [f k] := by
  rw [List.range_succ, List.map_append]
  rfl
/-- what stands while the list of truths is made -/
def Tru (H0 : Hp) (D : Addr) (b k : Nat) (H' : Hp) : Prop := Same H0 H' ∧ H' D = some (.lst ((List.range k).map fun j => V.bl (decide (b = j))))
section
variable {P : Program} {w : World} {K : PySem.W.Frag} {mg : Str → Option Value} {base : Heap} {c : Nat → Addr}
theorem mapbl (b n : Nat) : ((List.range n).map fun j => V.bl (decide (b = j))) = (((List.range n).map fun j => decide (b = j)).map V.bl) := by
  rw [List.map_map]
  rfl
theorem scRight : FnScope ["_law_e", "_law_place", "_law_base", "_law_j"] ["_law_e", "_law_place", "_law_base"] (defScope sRight) := ⟨rfl, rfl, rfl, by decide +kernel, rfl, by decide +kernel, by decide +kernel⟩
theorem ok_right {f fA fO : Addr} {fd fdA fdO : FuncData} (F : Fun K "_law_is_right" "_law_is_right" sRight f fd) (B : Blt mg) (T : Errs K mg c) (FA : Fun K "_law_above" "_law_above" sAbove fA fdA) (bA : Binds K fdA ["_law_e"] []) (gA : Fn K mg "_law_above" fA)
    (FO : Fun K "_law_own" "_law_own" sOwn fO fdO) (bO : Binds K fdO ["_law_e"] []) (gO : Fn K mg "_law_own" fO) : FnOk P w K mg base CX0 2 f fd ["_law_e", "_law_place", "_law_base"] (spRight c) := by
  have GA : FnOk P w K mg base CX0 1 fA fdA ["_law_e"] (spAbove c) := ok_above FA B T
  have GO : FnOk P w K mg base CX0 1 fO fdO ["_law_e"] (spOwn c) := ok_own FO B T
  refine F.ok scRight (fun vs H Q E h => ?_) (fun cdv A outer s H vs Q E hr h => ?_)
  · obtain ⟨a, i, fs, rfl, _⟩ := h
    rfl
  · obtain ⟨a, i, fs, rfl, e, k⟩ := h
    have hr1 : Room 1 _ := hr
    refine ⟨_, (pss_cons (ps_if (pt_cmpR (op_neD hr.units) (pe_call GA hr1 rfl gA.g gA.k bA .nil pass0 (pa_cons (pv 0) pa_nil)) (pe_lc (own := [("_law_j", 3)]) (g := gName 3) (tt := tYes) rfl scRight.nd (pi_range1 (by rfl) B.range (pa_cons pe_int pa_nil)) (blkOk_by (N := ["_law_e", "_law_place", "_law_base", "_law_j"]) (sc := defScope sRight) (by decide +kernel)) (fun _ _ _ _ _ => pg_name (i := 3) scRight.nd rfl (Or.inl rfl)) (fun _ _ _ _ _ => pts_nil) (fun _ _ _ _ _ => pe_cmpR op_eq (pv 3) (pv 2) (nomark _))) (nomark _)) (pss_one (ps_ret pe_bl)) pss_nil)
      (pss_one (ps_ret (pe_cmpR (op_eqD hr.units) (pe_call GO hr1 rfl gO.g gO.k bO .nil pass0 (pa_cons (pv 0) pa_nil)) (pe_lc (own := [("_law_j", 3)]) (g := gName 3) (tt := tYes) rfl scRight.nd (pi_range1 (by rfl) B.range (pa_cons pe_int pa_nil)) (blkOk_by (N := ["_law_e", "_law_place", "_law_base", "_law_j"]) (sc := defScope sRight) (by decide +kernel)) (fun _ _ _ _ _ => pg_name (i := 3) scRight.nd rfl (Or.inl rfl)) (fun _ _ _ _ _ => pts_nil) (fun _ _ _ _ _ => pe_cmpR op_eq (pv 3) (pv 1) (nomark _))) (nomark _))))), ?_⟩
    refine ⟨_, rfl, a, i, fs, rfl, e, fun l H1 S1 M1 => ?_⟩
    refine ⟨5, rfl, by decide, by decide, fun D hD => ?_⟩
    refine lc_range (lo := 0) (n := 5) (Tru H1 D (bas i)) ⟨same_new hD, upd_same⟩ ?_ ?_
    · rintro k H2 hk ⟨S2, M2⟩
      refine ⟨rfl, _, rfl, _, rfl, rfl, _, M2, by rw [List.length_map, List.length_range]; exact small1000 (by omega), fun b o q => ?_, ?_⟩
      · rw [upd_ne (ne_of_none q hD)]
        exact S2 _ _ q
      · rw [upd_same, jb, rangeSnoc]
    · rintro H2 ⟨S2, M2⟩
      have M1' := S2 _ _ M1
      rw [mapbl] at M2 M1'
      refine ⟨_, _, .lst (SqL.of M1') (bls_dp _), .lst (SqL.of M2) (bls_dp _), bls_shaped _, bls_shaped _, _, rfl, ?_⟩
      rw [bls_eq]
      refine iteF ?_
      have e2 := (e.same S1).same S2
      refine ⟨_, rfl, a, i, fs, rfl, e2, fun l3 H3 S3 M3 => ?_⟩
      refine ⟨26, rfl, by decide, by decide, fun D3 hD3 => ?_⟩
      refine lc_range (lo := 0) (n := 26) (Tru H3 D3 i) ⟨same_new hD3, upd_same⟩ ?_ ?_
      · rintro k H4 hk ⟨S4, M4⟩
        refine ⟨rfl, _, rfl, _, rfl, rfl, _, M4, by rw [List.length_map, List.length_range]; exact small1000 (by omega), fun b o q => ?_, ?_⟩
        · rw [upd_ne (ne_of_none q hD3)]
          exact S4 _ _ q
        · rw [upd_same, jb, rangeSnoc]
      · rintro H4 ⟨S4, M4⟩
        have M3' := S4 _ _ M3
        rw [mapbl] at M4 M3'
        refine ⟨_, _, .lst (SqL.of M3') (bls_dp _), .lst (SqL.of M4) (bls_dp _), bls_shaped _, bls_shaped _, ?_⟩
        rw [bls_eq]
        exact k _ (((S1.trans S2).trans S3).trans S4)
end
end K0
end

section
set_option Elab.async false
set_option linter.all false
set_option maxRecDepth 100000
set_option maxHeartbeats 8000000
namespace K0
open PySem PySem.Spec PyProof.Rows L2 Pn
abbrev sTwos : Stmt := top 47
abbrev sPower : Stmt := top 48
def spPower : Sp := fun vs H Q _ => ∃ n : Nat, vs = [.int (n : Int)] ∧ n ≤ 100000 ∧ Q (.int ((10 ^ n : Nat) : Int)) H
def spTwos (K : PySem.W.Frag) : Sp := fun vs H Q _ => ∃ v u, vs = [v, u] ∧ Good K H v ∧ Good K H u ∧ ∀ H', Same H H' → Q (.bl true) H'
/-- a tuple of an exception with two fields, its place, its base -/
def TwoAt (c : Nat → Addr) (H : Hp) (t : Addr) (j : Nat) (v u : V) : Prop := ∃ a, H t = some (.tup [.ref a, .int (j : Int), .int (bas j : Int)]) ∧ Err c H a j [("key", u), ("mode", v)]
theorem TwoAt.same {c : Nat → Addr} {H H' : Hp} {t : Addr} {j : Nat} {v u : V} (p : TwoAt c H t j v u) (S : Same H H') : TwoAt c H' t j v u := by
  obtain ⟨a, h1, h2⟩ := p
  exact ⟨a, S _ _ h1, h2.same S⟩
abbrev ex2 (c : Nat → Addr) (H : Hp) (a d : Addr) (j : Nat) (v u : V) : Hp := upd (upd H d (exd d [("key", u), ("mode", v)])) a (exo a (c j) (some d))
theorem two_new (c : Nat → Addr) {H : Hp} {v u : V} {a d t : Addr} (j : Nat) (hj : j < 26) (ha : H a = none) (hd : H d = none) (ne : d ≠ a) (ht : ex2 c H a d j v u t = none) :
    Same H (upd (ex2 c H a d j v u) t (.tup [.ref a, .int (j : Int), .int (bas j : Int)])) ∧ TwoAt c (upd (ex2 c H a d j v u) t (.tup [.ref a, .int (j : Int), .int (bas j : Int)])) t j v u := by
  have hd' : upd H d (exd d [("key", u), ("mode", v)]) a = none := by rw [upd_ne ne.symm]; exact ha
  have S : Same H (ex2 c H a d j v u) := (same_new hd).trans (same_new hd')
  have e : Err c (ex2 c H a d j v u) a j [("key", u), ("mode", v)] := ⟨hj, some d, upd_same, fun dd e => by cases e; exact (upd_ne ne).trans upd_same, fun _ z => by cases z⟩
  exact ⟨S.trans (same_new ht), a, upd_same, e.same (same_new ht)⟩
structure Tw (c : Nat → Addr) (H H' : Hp) (l t1 t2 t3 t4 : Addr) (v u : V) : Prop where
  S : Same H H'
  L : H' l = some (.lst [.ref t1, .ref t2, .ref t3, .ref t4])
  T1 : TwoAt c H' t1 22 v u
  T2 : TwoAt c H' t2 22 v u
  T3 : TwoAt c H' t3 23 v u
  T4 : TwoAt c H' t4 23 v u
theorem Tw.same {c : Nat → Addr} {H H' H2 : Hp} {l t1 t2 t3 t4 : Addr} {v u : V} (w : Tw c H H' l t1 t2 t3 t4 v u) (S : Same H' H2) : Tw c H H2 l t1 t2 t3 t4 v u :=
  ⟨w.S.trans S, S _ _ w.L, w.T1.same S, w.T2.same S, w.T3.same S, w.T4.same S⟩
theorem Tw.item {c : Nat → Addr} {H H' : Hp} {l t1 t2 t3 t4 : Addr} {v u : V} (w : Tw c H H' l t1 t2 t3 t4 v u) {i : Nat} {y : V} (h : [V.ref t1, .ref t2, .ref t3, .ref t4][i]? = some y) :
    ∃ t j, y = .ref t ∧ (j = 22 ∨ j = 23) ∧ TwoAt c H' t j v u := by
  match i, h with
  | 0, h => cases h; exact ⟨_, _, rfl, .inl rfl, w.T1⟩
  | 1, h => cases h; exact ⟨_, _, rfl, .inl rfl, w.T2⟩
  | 2, h => cases h; exact ⟨_, _, rfl, .inr rfl, w.T3⟩
  | 3, h => cases h; exact ⟨_, _, rfl, .inr rfl, w.T4⟩
theorem shaped2 {x y : Str} (hx : PyData.strOk x = true) (hy : PyData.strOk y = true) : SeqAt.shaped (.list [.str x, .str y]) = true := by
  show (PyData.canLay0 (.list [.str x, .str y]) && decide (PyData.depth (.list [.str x, .str y]) ≤ 64)) = true
  rw [Bool.and_eq_true]
  refine ⟨?_, decide_eq_true (by simp [PyData.depth, PyData.depthAll])⟩
  show (PyData.strOk x && (PyData.strOk y && true)) = true
  rw [hx, hy]
  rfl
theorem eq2 (x y : Str) : PyData.eqv (.list [.str x, .str y]) (.list [.str x, .str y]) = true := by
  show (PyData.eqv (.str x) (.str x) && (PyData.eqv (.str y) (.str y) && true)) = true
  simp [PyData.eqv]
theorem Errs.no2 {K : PySem.W.Frag} {mg : Str → Option Value} {c : Nat → Addr} (T : Errs K mg c) {j : Nat} (h : j = 22 ∨ j = 23) : PySem.W.findIn K (.ref (c j)) "mode" = some none ∧ PySem.W.findIn K (.ref (c j)) "key" = some none := by
  rcases h with rfl | rfl
  · exact ⟨T.t22.no1, T.t22.no2⟩
  · exact ⟨T.t23.no1, T.t23.no2⟩
section
variable {P : Program} {w : World} {K : PySem.W.Frag} {mg : Str → Option Value} {base : Heap} {c : Nat → Addr}
theorem scPower : FnScope ["_law_size", "_law_found", "_law_k"] ["_law_size"] (defScope sPower) := ⟨rfl, rfl, rfl, by decide +kernel, rfl, by decide +kernel, by decide +kernel⟩
theorem ok_power {f : Addr} {fd : FuncData} (F : Fun K "_law_power" "_law_power" sPower f fd) (B : Blt mg) : FnOk P w K mg base CX0 1 f fd ["_law_size"] spPower := by
  refine F.ok scPower (fun vs H Q E h => ?_) (fun cdv A outer s H vs Q E hr h => ?_)
  · obtain ⟨n, rfl, _⟩ := h
    rfl
  · obtain ⟨n, rfl, hn, k⟩ := h
    refine ⟨_, (pss_cons (ps_set (i := 1) scPower.nd rfl (Or.inl rfl) pe_int)
      (pss_cons (ps_for PassesOwn.never rfl (pi_range1 (by rfl) B.range (pa_cons (pv 0) pa_nil)) (pg_name (i := 2) scPower.nd rfl (Or.inl rfl)) (pss_one (ps_set (i := 1) scPower.nd rfl (Or.inl rfl) (pe_op op_mul (pv 1) pe_int))))
      (pss_one (ps_ret (pv 1))))), ?_⟩
    refine ⟨_, rfl, (n : Int), rfl, by omega, by omega, for_range (n := n) (fun i σ H' => ∃ v, σ = [some (.int (n : Int)), some (.int ((10 ^ i : Nat) : Int)), v] ∧ H' = H) ⟨none, rfl, rfl⟩ ?_ ?_⟩
    · rintro i σ H' hi ⟨v, rfl, rfl⟩
      refine ⟨_, rfl, _, 10, rfl, rfl, .inr ⟨by decide, by decide⟩, ?_⟩
      refine ⟨some (.int (0 + (i : Int))), ?_, rfl⟩
      have e : ((10 ^ i : Nat) : Int) * 10 = ((10 ^ (i + 1) : Nat) : Int) := by
        rw [Nat.pow_succ]
        push_cast
        rfl
      show [some (V.int (n : Int)), some (V.int (((10 ^ i : Nat) : Int) * 10)), some (V.int (0 + (i : Int)))] = _
      rw [e]
    · rintro σ H' ⟨v, rfl, rfl⟩
      exact ⟨_, rfl, k⟩
theorem scTwos : FnScope ["_law_odd", "_law_more", "_law_some", "_law_e", "_law_place", "_law_base"] ["_law_odd", "_law_more"] (defScope sTwos) := ⟨rfl, rfl, rfl, by decide +kernel, rfl, by decide +kernel, by decide +kernel⟩
theorem ok_twos {f fR fA fO : Addr} {fd fdR fdA fdO : FuncData} (F : Fun K "_law_twos_right" "_law_twos_right" sTwos f fd) (B : Blt mg) (T : Errs K mg c)
    (GR : FnOk P w K mg base CX0 2 fR fdR ["_law_e", "_law_place", "_law_base"] (spRight c)) (bR : Binds K fdR ["_law_e", "_law_place", "_law_base"] []) (gR : Fn K mg "_law_is_right" fR) : FnG P w K mg base CX0 3 f fd ["_law_odd", "_law_more"] (spTwos K) := by
  refine F.okG scTwos (fun vs H Q E h => ?_) (fun cdv A outer s H vs Q E hg hr h => ?_)
  · obtain ⟨v, u, rfl, _⟩ := h
    rfl
  · obtain ⟨v, u, rfl, gv, gu, k⟩ := h
    have hr2 : Room 2 _ := hr
    have hr1 : Room 1 (A.deeper (envOfC "_law_twos_right" (defScope sTwos) s.heap.objs.size f cdv)) := hr2.mono (by decide)
    have hgd : (A.deeper (envOfC "_law_twos_right" (defScope sTwos) s.heap.objs.size f cdv)).guards = some [] := hg
    refine ⟨_, (pss_cons (ps_set (i := 2) scTwos.nd rfl (Or.inl rfl) (pe_lst (pa_cons (pe_tup (pa_cons (pe_mk2 (basOk 0) T.t22 hr1 (T.gl 22 (by decide)) (pa_cons (pv 0) (pa_cons (pv 1) pa_nil))) (pa_cons pe_int (pa_cons pe_int pa_nil)))) (pa_cons (pe_tup (pa_cons (pe_mk2k (basOk 0) T.t22 hr1 (T.gl 22 (by decide)) (pk_cons (pv 1) (pk_cons (pv 0) pk_nil))) (pa_cons pe_int (pa_cons pe_int pa_nil)))) pa_nil))))
      (pss_cons (ps_for PassesOwn.never rfl (pi_list (pe_op op_cat (pv 2) (pe_lst (pa_cons (pe_tup (pa_cons (pe_mk2 (basOk 4) T.t23 hr1 (T.gl 23 (by decide)) (pa_cons (pv 0) (pa_cons (pv 1) pa_nil))) (pa_cons pe_int (pa_cons pe_int pa_nil)))) (pa_cons (pe_tup (pa_cons (pe_mk2k (basOk 4) T.t23 hr1 (T.gl 23 (by decide)) (pk_cons (pv 1) (pk_cons (pv 0) pk_nil))) (pa_cons pe_int (pa_cons pe_int pa_nil)))) pa_nil))))) (pg_tup (by rfl) (pgs_cons (pg_name (i := 3) scTwos.nd rfl (Or.inl rfl)) (pgs_cons (pg_name (i := 4) scTwos.nd rfl (Or.inl rfl)) (pgs_cons (pg_name (i := 5) scTwos.nd rfl (Or.inl rfl)) pgs_nil)))) (pss_one (ps_if (PW.pt (pw_or (pt_not (pt_val (pe_call GR hr2 rfl gR.g gR.k bR .nil pass0 (pa_cons (pv 3) (pa_cons (pv 4) (pa_cons (pv 5) pa_nil)))))) (pw_or1 (pt_cmpR (op_neD hr.units) (pe_lst (pa_cons (pe_callB (call_repr hgd hr.units) (by rfl) B.repr (by decide +kernel) (pa_cons (pe_fx (pv 3)) pa_nil)) (pa_cons (pe_callB (call_repr hgd hr.units) (by rfl) B.repr (by decide +kernel) (pa_cons (pe_fx (pv 3)) pa_nil)) pa_nil))) (pe_lst (pa_cons (pe_callB (call_repr hgd hr.units) (by rfl) B.repr (by decide +kernel) (pa_cons (pv 0) pa_nil)) (pa_cons (pe_callB (call_repr hgd hr.units) (by rfl) B.repr (by decide +kernel) (pa_cons (pv 1) pa_nil)) pa_nil))) (nomark _))))) (pss_one (ps_ret pe_bl)) pss_nil)))
      (pss_one (ps_ret (pe_and (pe_call GR hr2 rfl gR.g gR.k bR .nil pass0 (pa_cons (pe_mk0 (basOk 0) T.z24 (T.gl 24 (by decide))) (pa_cons pe_int (pa_cons pe_int pa_nil)))) (pe_one (pe_call GR hr2 rfl gR.g gR.k bR .nil pass0 (pa_cons (pe_mk0 (basOk 4) T.z25 (T.gl 25 (by decide))) (pa_cons pe_int (pa_cons pe_int pa_nil)))))))))), ?_⟩
    refine ⟨_, rfl, _, rfl, _, _, rfl, fun a1 d1 ha1 hd1 ne1 => ⟨(by show 3 ≤ sizeLine; decide), fun t1 ht1 => ?_⟩⟩
    have w1 := two_new c (v := v) (u := u) 22 (by decide) ha1 hd1 ne1 ht1
    refine ⟨_, rfl, _, rfl, _, _, rfl, fun a2 d2 ha2 hd2 ne2 => ⟨(by show 3 ≤ sizeLine; decide), fun t2 ht2 => ?_⟩⟩
    have w2 := two_new c (v := v) (u := u) 22 (by decide) ha2 hd2 ne2 ht2
    refine ⟨(by show 2 ≤ sizeLine; decide), fun l1 h1 => ?_⟩
    have n1 := same_new h1 (o := .lst [.ref t1, .ref t2])
    refine ⟨_, rfl, _, rfl, _, rfl, _, _, rfl, fun a3 d3 ha3 hd3 ne3 => ⟨(by show 3 ≤ sizeLine; decide), fun t3 ht3 => ?_⟩⟩
    have w3 := two_new c (v := v) (u := u) 23 (by decide) ha3 hd3 ne3 ht3
    refine ⟨_, rfl, _, rfl, _, _, rfl, fun a4 d4 ha4 hd4 ne4 => ⟨(by show 3 ≤ sizeLine; decide), fun t4 ht4 => ?_⟩⟩
    have w4 := two_new c (v := v) (u := u) 23 (by decide) ha4 hd4 ne4 ht4
    refine ⟨(by show 2 ≤ sizeLine; decide), fun l2 h2 => ?_⟩
    have n2 := same_new h2 (o := .lst [.ref t3, .ref t4])
    refine ⟨l1, l2, [.ref t1, .ref t2], [.ref t3, .ref t4], rfl, rfl, n2 _ _ (w4.1 _ _ (w3.1 _ _ upd_same)), upd_same, (by show 4 ≤ sizeLine; decide), fun l3 h3 => ?_⟩
    have n3 := same_new h3 (o := .lst ([.ref t1, .ref t2] ++ [.ref t3, .ref t4]))
    have S4 : Same H _ := ((((((w1.1.trans w2.1).trans n1).trans w3.1).trans w4.1).trans n2).trans n3)
    have T4 := w4.2.same (n2.trans n3)
    have T3 := w3.2.same ((w4.1.trans n2).trans n3)
    have T2 := w2.2.same (((n1.trans w3.1).trans w4.1).trans (n2.trans n3))
    have T1 := w1.2.same ((w2.1.trans n1).trans ((w3.1.trans w4.1).trans (n2.trans n3)))
    have tw : Tw c H _ l3 t1 t2 t3 t4 v u := ⟨S4, upd_same, T1, T2, T3, T4⟩
    obtain ⟨dv, qv, sv, zv, lv, ov⟩ := gv
    obtain ⟨du, qu, su, zu, lu, ou⟩ := gu
    refine ⟨l3, rfl, ⟨_, SqL.of tw.L⟩, for_list (K := K) (a := l3) (xs := [.ref t1, .ref t2, .ref t3, .ref t4]) (fun i σ H' => (∃ x y z, σ = [some v, some u, some (.ref l1), x, y, z]) ∧ Tw c H H' l3 t1 t2 t3 t4 v u) ⟨⟨none, none, none, rfl⟩, tw⟩ (fun i σ H' _ h => SqL.of h.2.L) ?_ ?_⟩
    · rintro i y σ H1 hi ⟨⟨x0, y0, z0, rfl⟩, tw1⟩
      obtain ⟨t, j, rfl, hj, a, ht, he⟩ := tw1.item hi
      refine ⟨t, _, rfl, SqT.of ht, rfl, _, _, rfl, _, _, rfl, _, _, rfl, rfl, ?_⟩
      refine ⟨_, rfl, _, rfl, _, rfl, a, j, _, rfl, he, fun H2 S2 => ⟨true, rfl, iteF ?_⟩⟩
      have tw2 := tw1.same S2
      obtain ⟨h26, d, g1, g2, g3⟩ := he.same S2
      obtain ⟨dd, rfl⟩ : ∃ dd, d = some dd := by
        cases d with
        | none => exact absurd rfl (g3 (by simp))
        | some dd => exact ⟨dd, rfl⟩
      have no := T.no2 hj
      have qv2 := qv.same tw2.S
      have qu2 := qu.same tw2.S
      refine ⟨_, rfl, a, c j, dd, _, _, _, v, rfl, T.ex j h26, no.1, g1, g2 dd rfl, by rfl, v, dv, rfl, qv2, sv, zv, lv, ?_⟩
      refine ⟨_, rfl, a, c j, dd, _, _, _, u, rfl, T.ex j h26, no.2, g1, g2 dd rfl, by rfl, u, du, rfl, qu2, su, zu, lu, (by show 2 ≤ sizeLine; decide), fun l5 h5 => ?_⟩
      have n5 := same_new h5 (o := .lst [.str dv.shown, .str du.shown])
      refine ⟨_, rfl, v, dv, rfl, qv2.same n5, sv, zv, lv, _, rfl, u, du, rfl, qu2.same n5, su, zu, lu, (by show 2 ≤ sizeLine; decide), fun l6 h6 => ?_⟩
      have n6 := same_new h6 (o := .lst [.str dv.shown, .str du.shown])
      refine ⟨_, _, .lst (SqL.of (n6 _ _ upd_same)) (.cons (.str _) (.cons (.str _) .nil)), .lst (SqL.of upd_same) (.cons (.str _) (.cons (.str _) .nil)), shaped2 ov ou, shaped2 ov ou, _, rfl, ?_⟩
      rw [eq2]
      exact iteF ⟨⟨_, _, _, rfl⟩, tw2.same (n5.trans n6)⟩
    · rintro σ H1 ⟨⟨x0, y0, z0, rfl⟩, tw1⟩
      intro a ha
      refine ⟨a, 24, [], rfl, ⟨by decide, none, upd_same, (fun dd z => by cases z), fun z => absurd rfl z⟩, fun H2 S2 => ⟨true, rfl, iteT ?_⟩⟩
      intro b hb
      exact ⟨b, 25, [], rfl, ⟨by decide, none, upd_same, (fun dd z => by cases z), fun z => absurd rfl z⟩, fun H3 S3 => k _ ((((tw1.S.trans (same_new ha)).trans S2).trans (same_new hb)).trans S3)⟩
end
end K0
end

section
set_option Elab.async false
set_option linter.all false
set_option maxRecDepth 100000
set_option maxHeartbeats 8000000
namespace K0
open PySem PySem.Spec PyProof.Rows L2 Pn
abbrev sLaw : Stmt := top 49
/-- the limits as they stand -/
structure Cst (mg : Str → Option Value) : Prop where
  MODES : ∃ t, mg "MODES" = some (.int 6 t)
  KEYS : ∃ t, mg "KEYS" = some (.int 6 t)
  ITEMS : ∃ t, mg "ITEMS" = some (.int 6 t)
  DEPTH : ∃ t, mg "DEPTH" = some (.int 2 t)
  NUMBER : ∃ t, mg "NUMBER" = some (.int 1000000000 t)
  BOOKS : ∃ t, mg "BOOKS" = some (.int 3 t)
  STATES : ∃ t, mg "STATES" = some (.int 36 t)
  PATTERN : ∃ t, mg "PATTERN" = some (.int 8 t)
  GOAL : ∃ t, mg "GOAL" = some (.int 200 t)
  SIZE : ∃ t, mg "SIZE" = some (.int ((10 ^ 4000 : Nat) : Int) t)
theorem pe_cst {X : Cx} {x : Str} {i : Int} {pos : Pos} (hg : Gl X x) (h : ∃ t, X.mg x = some (.int i t)) (hd : (x == ("__debug__" : Str)) = false := by decide) : PE X (.Name x pos) (tC (.int i)) := by
  obtain ⟨t, h⟩ := h
  exact pe_glob hg h ⟨_, rfl⟩ hd
def spLaw (K : PySem.W.Frag) : Sp := fun vs H Q _ => ∃ (a : Addr) (ns : List Int), vs = [.ref a] ∧ SqL K H a (ns.map V.int) ∧ ns.length ≤ 63 ∧ ∀ H', Q (.bl true) H'
def bsL : List V := [.int 0, .int 0, .int 0, .int 0, .int 0, .int 0, .int 0, .int 0, .int 0, .int 1, .int 1, .int 1, .int 2, .int 2, .int 2, .int 3, .int 3, .int 3, .int 3, .int 4, .int 4, .int 4]
theorem bsL_at : ∀ k, k < 22 → bsL[k]? = some (.int (bas k : Int)) := by decide +kernel
section
variable {P : Program} {w : World} {K : PySem.W.Frag} {mg : Str → Option Value} {base : Heap} {c : Nat → Addr}
theorem scLaw : FnScope ["_law_script", "_law_pen_here", "_law_bases", "_law_lap", "_law_odd", "_law_more", "_law_answer", "_law_k", "_law_e"] ["_law_script"] (defScope sLaw) := ⟨rfl, rfl, rfl, by decide +kernel, rfl, by decide +kernel, by decide +kernel⟩
theorem ok_law {f fP1 fV fN fR fS fT fW : Addr} {fd fdP1 fdV fdN fdR fdS fdT fdW : FuncData} (F : Fun K "law" "law" sLaw f fd) (B : Blt mg) (T : Errs K mg c) (C : Cst mg)
    (GP1 : FnOk P w K mg base CX0 1 fP1 fdP1 ["_law_script"] (spPen K)) (bP1 : Binds K fdP1 ["_law_script"] []) (gP1 : Fn K mg "_law_pen" fP1)
    (GV : FnOk P w K mg base CX0 3 fV fdV ["_law_pen_here"] (spAny K)) (bV : Binds K fdV ["_law_pen_here"] []) (gV : Fn K mg "_law_any_value" fV)
    (GN : FnOk P w K mg base CX0 2 fN fdN ["_law_odd"] (spOnes c)) (bN : Binds K fdN ["_law_odd"] []) (gN : Fn K mg "_law_ones" fN)
    (GR : FnOk P w K mg base CX0 2 fR fdR ["_law_e", "_law_place", "_law_base"] (spRight c)) (bR : Binds K fdR ["_law_e", "_law_place", "_law_base"] []) (gR : Fn K mg "_law_is_right" fR)
    (GS : FnOk P w K mg base CX0 1 fS fdS ["_law_e", "_law_k"] (spShown c)) (bS : Binds K fdS ["_law_e", "_law_k"] []) (gS : Fn K mg "_law_shown" fS)
    (GT : FnG P w K mg base CX0 3 fT fdT ["_law_odd", "_law_more"] (spTwos K)) (bT : Binds K fdT ["_law_odd", "_law_more"] []) (gT : Fn K mg "_law_twos_right" fT)
    (GW : FnOk P w K mg base CX0 1 fW fdW ["_law_size"] spPower) (bW : Binds K fdW ["_law_size"] []) (gW : Fn K mg "_law_power" fW) :
    FnG P w K mg base CX0 4 f fd ["_law_script"] (spLaw K) := by
  refine F.okG scLaw (fun vs H Q E h => ?_) (fun cdv A outer s H vs Q E hg hr h => ?_)
  · obtain ⟨a, ns, rfl, _⟩ := h
    rfl
  · obtain ⟨a, ns, rfl, hS, hl, k⟩ := h
    have hr2 : Room 2 (A.deeper (envOfC "law" (defScope sLaw) s.heap.objs.size f cdv)) := hr.mono (by decide)
    have hr1 : Room 1 (A.deeper (envOfC "law" (defScope sLaw) s.heap.objs.size f cdv)) := hr.mono (by decide)
    have hgd : (A.deeper (envOfC "law" (defScope sLaw) s.heap.objs.size f cdv)).guards = some [] := hg
    refine ⟨_, (pss_cons (ps_set (i := 1) scLaw.nd rfl (Or.inl rfl) (pe_call GP1 hr1 rfl gP1.g gP1.k bP1 .nil pass0 (pa_cons (pv 0) pa_nil)))
      (pss_cons (ps_set (i := 2) scLaw.nd rfl (Or.inl rfl) (pe_lst (pa_cons pe_int (pa_cons pe_int (pa_cons pe_int (pa_cons pe_int (pa_cons pe_int (pa_cons pe_int (pa_cons pe_int (pa_cons pe_int (pa_cons pe_int (pa_cons pe_int (pa_cons pe_int (pa_cons pe_int (pa_cons pe_int (pa_cons pe_int (pa_cons pe_int (pa_cons pe_int (pa_cons pe_int (pa_cons pe_int (pa_cons pe_int (pa_cons pe_int (pa_cons pe_int (pa_cons pe_int pa_nil))))))))))))))))))))))))
      (pss_cons (ps_for PassesOwn.never rfl (pi_range1 (by rfl) B.range (pa_cons pe_int pa_nil)) (pg_name (i := 3) scLaw.nd rfl (Or.inl rfl)) (pss_cons (ps_par (i := 4) (j := 5) (by rfl) scLaw.nd rfl rfl (by decide) rfl rfl (pa_cons (pe_call GV hr rfl gV.g gV.k bV .nil pass0 (pa_cons (pv 1) pa_nil)) (pa_cons (pe_call GV hr rfl gV.g gV.k bV .nil pass0 (pa_cons (pv 1) pa_nil)) pa_nil)) (by rfl))
        (pss_cons (ps_set (i := 6) scLaw.nd rfl (Or.inl rfl) (pe_call GN hr2 rfl gN.g gN.k bN .nil pass0 (pa_cons (pv 4) pa_nil)))
        (pss_cons (ps_for PassesOwn.never rfl (pi_range1 (by rfl) B.range (pa_cons (pe_callB call_len_seq (by rfl) B.len PySem.boot_len (pa_cons (pv 6) pa_nil)) pa_nil)) (pg_name (i := 7) scLaw.nd rfl (Or.inl rfl)) (pss_one (ps_for PassesOwn.never rfl (pi_tup (pe_ix ix_list (pv 6) (pv 7) (fun _ _ => rfl))) (pg_name (i := 8) scLaw.nd rfl (Or.inl rfl)) (pss_cons (ps_if (pt_not (pt_val (pe_call GR hr2 rfl gR.g gR.k bR .nil pass0 (pa_cons (pv 8) (pa_cons (pv 7) (pa_cons (pe_ix ix_list (pv 2) (pv 7) (fun _ _ => rfl)) pa_nil)))))) (pss_one (ps_ret pe_bl)) pss_nil)
            (pss_one (ps_if (PW.pt (pw_or (pt_cmpR op_ne (pe_callB (call_repr hgd hr.units) (by rfl) B.repr (by decide +kernel) (pa_cons (pe_call GS hr1 rfl gS.g gS.k bS .nil pass0 (pa_cons (pv 8) (pa_cons (pv 7) pa_nil))) pa_nil)) (pe_callB (call_repr hgd hr.units) (by rfl) B.repr (by decide +kernel) (pa_cons (pv 4) pa_nil)) (nomark _)) (pw_or1 (pt_cmpR (op_neQ hr.units) (pe_call GS hr1 rfl gS.g gS.k bS .nil pass0 (pa_cons (pv 8) (pa_cons (pv 7) pa_nil))) (pv 4) (nomark _))))) (pss_one (ps_ret pe_bl)) pss_nil))))))
        (pss_one (ps_if (pt_not (pt_val (pe_callG (E := E0) GT hgd hr rfl gT.g gT.k bT (pa_cons (pv 4) (pa_cons (pv 5) pa_nil))))) (pss_one (ps_ret pe_bl)) pss_nil))))))
      (pss_cons (ps_if (pt_cmpR (op_neD hr.units) (pe_lst (pa_cons (pe_cst rfl C.MODES) (pa_cons (pe_cst rfl C.KEYS) (pa_cons (pe_cst rfl C.ITEMS) (pa_cons (pe_cst rfl C.DEPTH) (pa_cons (pe_cst rfl C.NUMBER) (pa_cons (pe_cst rfl C.BOOKS) pa_nil))))))) (pe_lst (pa_cons pe_int (pa_cons pe_int (pa_cons pe_int (pa_cons pe_int (pa_cons (pe_op op_pow pe_int pe_int) (pa_cons pe_int pa_nil))))))) (nomark _)) (pss_one (ps_ret pe_bl)) pss_nil)
      (pss_one (ps_ret (pe_and (pe_cmpR (op_eqD hr.units) (pe_lst (pa_cons (pe_cst rfl C.STATES) (pa_cons (pe_cst rfl C.PATTERN) (pa_cons (pe_cst rfl C.GOAL) pa_nil)))) (pe_lst (pa_cons pe_int (pa_cons pe_int (pa_cons pe_int pa_nil)))) (nomark _)) (pe_one (pe_cmpR op_eq (pe_cst rfl C.SIZE) (pe_call GW hr1 rfl gW.g gW.k bW .nil pass0 (pa_cons pe_int pa_nil)) (nomark _)))))))))), ?_⟩
    refine ⟨_, rfl, a, ns, rfl, hS, hl, fun p q H1 S1 hp P1 => ?_⟩
    refine ⟨(by show 22 ≤ sizeLine; decide), fun b hb => ?_⟩
    have P2 := P1.same (same_new hb (o := .lst bsL))
    refine ⟨4, rfl, by decide, by decide, for_range (n := 4) (fun i σ H' => (∃ v3 v4 v5 v6 v7 v8, σ = [some (.ref a), some (.ref p), some (.ref b), v3, v4, v5, v6, v7, v8]) ∧ PenAt H' p q ns (2 * i) ∧ H' b = some (.lst bsL)) ⟨⟨_, _, _, _, _, _, rfl⟩, P2, upd_same⟩ ?_ ?_⟩
    · rintro i σ H2 hi ⟨⟨v3, v4, v5, v6, v7, v8, rfl⟩, P3, L3⟩
      refine ⟨_, rfl, p, q, ns, _, rfl, P3, by omega, hl, fun x H3 gx B3 P4 => ?_⟩
      refine ⟨_, rfl, p, q, ns, _, rfl, P4, by omega, hl, fun y H4 gy B4 P5 => ?_⟩
      have bp : b ≠ p := ne_of L3 P3.2.choose_spec.choose_spec.1 (by intro z; cases z)
      have L5 := B4 _ _ bp (B3 _ _ bp L3)
      have gx4 := gx.but P4 B4
      refine ⟨_, _, rfl, ?_⟩
      refine ⟨_, rfl, x, rfl, fun l H5 S5 hL => ?_⟩
      obtain ⟨xs, hl5, h22, hA⟩ := hL
      have P6 := P5.same S5
      have L6 := S5 _ _ L5
      obtain ⟨dx, qx, sx, zx, lx, ox⟩ := gx4.same S5
      refine ⟨_, rfl, l, _, rfl, .inl (SqL.of hl5), (xs.length : Int), rfl, by omega, by omega, for_range (n := xs.length) (fun k σ H' => (∃ w7 w8, σ = [some (.ref a), some (.ref p), some (.ref b), some (.int (0 + (i : Int))), some x, some y, some (.ref l), w7, w8]) ∧ Same H5 H') ⟨⟨_, _, rfl⟩, Same.refl _⟩ ?_ ?_⟩
      · rintro n σ H6 hn ⟨⟨w7, w8, rfl⟩, S6⟩
        have hn22 : n < 22 := by omega
        obtain ⟨t, ht, a1, b1, ht1, e1, e2⟩ := hA n _ (List.getElem?_eq_getElem hn)
        rw [Int.zero_add]
        refine ⟨_, rfl, _, rfl, l, xs, _, _, rfl, rfl, SqL.of (S6 _ _ hl5), atI_nat (List.getElem?_eq_getElem hn), ?_⟩
        rw [ht]
        refine ⟨t, rfl, ⟨_, SqT.of (S6 _ _ ht1)⟩, for_tup (K := K) (a := t) (xs := [.ref a1, .ref b1]) (fun m σ H' => (∃ u8, σ = [some (.ref a), some (.ref p), some (.ref b), some (.int (0 + (i : Int))), some x, some y, some (.ref l), some (.int (n : Int)), u8]) ∧ Same H5 H') ⟨⟨_, rfl⟩, S6⟩ (fun m σ H' _ h => SqT.of (h.2 _ _ ht1)) ?_ ?_⟩
        · rintro m z σ H7 hz ⟨⟨u8, rfl⟩, S7⟩
          obtain ⟨e, rfl, he⟩ : ∃ e, z = .ref e ∧ Err c H7 e n [(fld n, x)] := by
            match m, hz with
            | 0, hz => cases hz; exact ⟨_, rfl, e1.same S7⟩
            | 1, hz => cases hz; exact ⟨_, rfl, e2.same S7⟩
          refine ⟨_, rfl, _, rfl, _, rfl, _, rfl, b, bsL, _, _, rfl, rfl, SqL.of (S7 _ _ L6), atI_nat (bsL_at n hn22), e, n, _, rfl, he, fun H8 S8 => ⟨true, rfl, iteF ?_⟩⟩
          have he8 := he.same S8
          refine ⟨_, rfl, _, rfl, e, n, x, rfl, hn22, he8, fun H9 S9 => ?_⟩
          have T9 := (S7.trans S8).trans S9
          refine ⟨x, dx, rfl, qx.same T9, sx, zx, lx, _, rfl, x, dx, rfl, qx.same T9, sx, zx, lx, rfl, _, rfl, iteNS rfl ?_⟩
          refine ⟨_, rfl, _, rfl, e, n, x, rfl, hn22, he8.same S9, fun Ha Sa => ?_⟩
          refine ⟨_, rfl, rfl, ⟨dx, qx.same (T9.trans Sa)⟩, _, rfl, iteF ⟨⟨_, rfl⟩, T9.trans Sa⟩⟩
        · rintro σ H7 ⟨⟨u8, rfl⟩, S7⟩
          exact ⟨⟨_, _, rfl⟩, S7⟩
      · rintro σ H6 ⟨⟨w7, w8, rfl⟩, S6⟩
        refine ⟨_, rfl, _, rfl, x, y, rfl, ⟨dx, qx.same S6, sx, zx, lx, ox⟩, gy.same (S5.trans S6), fun H7 S7 => ⟨true, rfl, iteF ?_⟩⟩
        exact ⟨⟨_, _, _, _, _, _, rfl⟩, (P6.same (S6.trans S7)).mono (by omega), S7 _ _ (S6 _ _ L6)⟩
    · rintro σ H2 ⟨⟨v3, v4, v5, v6, v7, v8, rfl⟩, P3, L3⟩
      refine ⟨(by show 6 ≤ sizeLine; decide), fun l1 h1 => ?_⟩
      refine ⟨10, 9, rfl, rfl, ⟨by decide, by decide, by decide⟩, (by show 6 ≤ sizeLine; decide), fun l2 h2 => ?_⟩
      refine ⟨.list [.int 6, .int 6, .int 6, .int 2, .int 1000000000, .int 3], .list [.int 6, .int 6, .int 6, .int 2, .int (10 ^ (9 : Int).toNat), .int 3], .lst (SqL.of (same_new h2 _ _ upd_same)) (.cons (.int _) (.cons (.int _) (.cons (.int _) (.cons (.int _) (.cons (.int _) (.cons (.int _) .nil)))))),
        .lst (SqL.of upd_same) (.cons (.int _) (.cons (.int _) (.cons (.int _) (.cons (.int _) (.cons (.int _) (.cons (.int _) .nil)))))), by decide +kernel, by decide +kernel, _, rfl, ?_⟩
      rw [show PyData.eqv (.list [.int 6, .int 6, .int 6, .int 2, .int 1000000000, .int 3]) (.list [.int 6, .int 6, .int 6, .int 2, .int (10 ^ (9 : Int).toNat), .int 3]) = true by decide +kernel]
      refine iteF ?_
      refine ⟨(by show 3 ≤ sizeLine; decide), fun l3 h3 => ⟨(by show 3 ≤ sizeLine; decide), fun l4 h4 => ?_⟩⟩
      refine ⟨.list [.int 36, .int 8, .int 200], .list [.int 36, .int 8, .int 200], .lst (SqL.of (same_new h4 _ _ upd_same)) (.cons (.int _) (.cons (.int _) (.cons (.int _) .nil))), .lst (SqL.of upd_same) (.cons (.int _) (.cons (.int _) (.cons (.int _) .nil))), by decide +kernel, by decide +kernel, true, by decide +kernel, iteT ?_⟩
      refine ⟨4000, rfl, by decide, rfl, ?_⟩
      rw [decide_eq_true rfl]
      exact k _
end
end K0
end

section
set_option Elab.async false
set_option linter.all false
set_option maxRecDepth 100000
set_option maxHeartbeats 8000000
namespace K0
open PySem PySem.Spec PyProof.Rows L2 Pn
/-! ### the facts of the top, looked up at once -/
def exB (K : PySem.W.Frag) (C : Addr) (bm : List Value) (nw : String) : Bool :=
  decide (PySem.W.findIn K (.ref C) "__setattr__" = some (some (.builtin "object.__setattr__"))) && PySem.W.excOver K C bm && PySem.W.hasDictIn K C &&
  decide (PySem.W.findIn K (.ref C) "__getattribute__" = some (some (.builtin "BaseException.__getattribute__"))) && decide (PySem.W.findIn K (.ref C) "__getattr__" = some none) &&
  decide (PySem.W.subIn K (.ref C) (.type "BaseException") = some true) && decide (PySem.W.findIn K (.ref C) "__class__" = some (some (.builtin "object.__class__"))) &&
  decide (PySem.W.specialIn K (.builtin "object.__class__") "__get__" = some (some (.builtin "getset_descriptor.__get__"))) && decide (PySem.W.takesIn K (.builtin "object.__class__") = some true) &&
  decide (PySem.W.mroIn K C (.type "object") = some true) && (PySem.W.clsIn K C).isSome && PySem.W.keepIn K (.ref C) && PySem.W.excInitIn K C bm nw
theorem exB_ok {K : PySem.W.Frag} {C : Addr} {bm : List Value} {nw : String} (h : exB K C bm nw = true) : Exk K C bm nw := by
  simp only [exB, Bool.and_eq_true, decide_eq_true_eq] at h
  obtain ⟨⟨⟨⟨⟨⟨⟨⟨⟨⟨⟨⟨h1, h2⟩, h3⟩, h4⟩, h5⟩, h6⟩, h7⟩, h8⟩, h9⟩, h10⟩, h11⟩, h12⟩, h13⟩ := h
  exact ⟨⟨h1, h2, h3⟩, h4, h5, h6, h7, h8, h9, h10, h11, h12, h13⟩
def noB (K : PySem.W.Frag) (C : Addr) (f : Str) : Bool := decide (PySem.W.findIn K (.ref C) f = some none) && decide (PySem.W.takerIn K C f = some none)
def allB (K : PySem.W.Frag) (cs : List Addr) : Bool :=
  (List.range 26).all (fun i => exB K (cs.getD i 0) (bmro (bas i)) (bnew (bas i))) &&
  (List.range 26).all (fun i => (List.range 26).all fun j => decide (PySem.W.kitOne K (.ref (cs.getD i 0)) (.ref (cs.getD j 0)) = some (decide (i = j)))) &&
  (List.range 26).all (fun i => (List.range 5).all fun b => decide (PySem.W.kitOne K (.ref (cs.getD i 0)) (.type (bnm b)) = some (decide (bas i = b)))) &&
  (List.range 22).all (fun i => noB K (cs.getD i 0) (fld i)) && noB K (cs.getD 22 0) "mode" && noB K (cs.getD 22 0) "key" && noB K (cs.getD 23 0) "mode" && noB K (cs.getD 23 0) "key" &&
  decide (PySem.W.findIn K (.ref (cs.getD 24 0)) "__init__" = some (some (.builtin (bini 0)))) && decide (PySem.W.findIn K (.ref (cs.getD 25 0)) "__init__" = some (some (.builtin (bini 4)))) &&
  (List.range 5).all (fun b => decide (PySem.W.nsIn K mainGlobals (Str.ofString (bnm b)) = some none)) &&
  decide (PySem.W.nsIn K mainGlobals "list" = some none) && decide (PySem.W.nsIn K mainGlobals "int" = some none) && decide (PySem.W.nsIn K mainGlobals "len" = some none) && decide (PySem.W.nsIn K mainGlobals "range" = some none) &&
  decide (PySem.W.nsIn K mainGlobals "repr" = some none) && decide (PySem.W.nsIn K mainGlobals "isinstance" = some none)
theorem all_lt {n : Nat} {p : Nat → Bool} (h : (List.range n).all p = true) {i : Nat} (hi : i < n) : p i = true := List.all_eq_true.mp h i (List.mem_range.mpr hi)
structure Ini (K : PySem.W.Frag) (C : Addr) (st : Stmt) (qual : Str) : Prop where
  h : ∃ (f : Addr) (oc doc pm cdv ct : Value) (od an : Option Addr) (osl : Array (Option Value)), PySem.W.findIn K (.ref C) "__init__" = some (some (.ref f)) ∧ PySem.W.typeIn K (.ref f) = some (.type "function") ∧
    K.lookup f = some ⟨oc, od, .func (PySem.W.fnOf "__init__" qual (defArgs st) (defBody st) (defScope st) .none .none doc pm an cdv ct), osl⟩ ∧ PySem.W.codeIn K cdv qual = true
structure Sh1 (st : Stmt) (f : Str) : Prop where
  h : ∃ p1 p2 q1 q2 q3 q4 : Pos, defArgs st = PySem.Xv.a1 f p1 p2 ∧ defBody st = PySem.Xv.b1 f q1 q2 q3 q4 ∧ defScope st = PySem.Xv.s1 f
structure Sh2 (st : Stmt) : Prop where
  h : ∃ p1 p2 p3 q1 q2 q3 q4 r1 r2 r3 r4 : Pos, defArgs st = PySem.Xv.a2 p1 p2 p3 ∧ defBody st = PySem.Xv.b2 q1 q2 q3 q4 r1 r2 r3 r4 ∧ defScope st = PySem.Xv.s2
theorem one_of {K : PySem.W.Frag} {C : Addr} {bm : List Value} {nw : String} {f : Str} {st : Stmt} {qual : Str} (e : Exk K C bm nw) (ff : PySem.Xv.Field f) (n : noB K C f = true) (s : Sh1 st f) (i : Ini K C st qual) : One K C bm nw f := by
  obtain ⟨fI, oc, doc, pm, cdv, ct, od, an, osl, i1, i2, i3, i4⟩ := i.h
  obtain ⟨p1, p2, q1, q2, q3, q4, a, b, c⟩ := s.h
  rw [a, b, c] at i3
  simp only [noB, Bool.and_eq_true, decide_eq_true_eq] at n
  exact ⟨e, ff, n.1, n.2, fI, qual, oc, doc, pm, cdv, ct, od, an, osl, p1, p2, q1, q2, q3, q4, i1, i2, i3, i4⟩
theorem two_of {K : PySem.W.Frag} {C : Addr} {bm : List Value} {nw : String} {st : Stmt} {qual : Str} (e : Exk K C bm nw) (n1 : noB K C "mode" = true) (n2 : noB K C "key" = true) (s : Sh2 st) (i : Ini K C st qual) : Two K C bm nw := by
  obtain ⟨fI, oc, doc, pm, cdv, ct, od, an, osl, i1, i2, i3, i4⟩ := i.h
  obtain ⟨p1, p2, p3, q1, q2, q3, q4, r1, r2, r3, r4, a, b, c⟩ := s.h
  rw [a, b, c] at i3
  simp only [noB, Bool.and_eq_true, decide_eq_true_eq] at n1 n2
  exact ⟨e, n1.1, n1.2, n2.1, n2.2, fI, qual, oc, doc, pm, cdv, ct, od, an, osl, p1, p2, p3, q1, q2, q3, q4, r1, r2, r3, r4, i1, i2, i3, i4⟩
theorem sh0 : Sh1 (inClass (top 1) 0) (fld 0) := ⟨_, _, _, _, _, _, rfl, rfl, rfl⟩
theorem sh1 : Sh1 (inClass (top 2) 0) (fld 1) := ⟨_, _, _, _, _, _, rfl, rfl, rfl⟩
theorem sh2 : Sh1 (inClass (top 3) 0) (fld 2) := ⟨_, _, _, _, _, _, rfl, rfl, rfl⟩
theorem sh3 : Sh1 (inClass (top 4) 0) (fld 3) := ⟨_, _, _, _, _, _, rfl, rfl, rfl⟩
theorem sh4 : Sh1 (inClass (top 5) 0) (fld 4) := ⟨_, _, _, _, _, _, rfl, rfl, rfl⟩
theorem sh5 : Sh1 (inClass (top 6) 0) (fld 5) := ⟨_, _, _, _, _, _, rfl, rfl, rfl⟩
theorem sh6 : Sh1 (inClass (top 7) 0) (fld 6) := ⟨_, _, _, _, _, _, rfl, rfl, rfl⟩
theorem sh7 : Sh1 (inClass (top 8) 0) (fld 7) := ⟨_, _, _, _, _, _, rfl, rfl, rfl⟩
theorem sh8 : Sh1 (inClass (top 11) 0) (fld 8) := ⟨_, _, _, _, _, _, rfl, rfl, rfl⟩
theorem sh9 : Sh1 (inClass (top 12) 0) (fld 9) := ⟨_, _, _, _, _, _, rfl, rfl, rfl⟩
theorem sh10 : Sh1 (inClass (top 13) 0) (fld 10) := ⟨_, _, _, _, _, _, rfl, rfl, rfl⟩
theorem sh11 : Sh1 (inClass (top 14) 0) (fld 11) := ⟨_, _, _, _, _, _, rfl, rfl, rfl⟩
theorem sh12 : Sh1 (inClass (top 15) 0) (fld 12) := ⟨_, _, _, _, _, _, rfl, rfl, rfl⟩
theorem sh13 : Sh1 (inClass (top 16) 0) (fld 13) := ⟨_, _, _, _, _, _, rfl, rfl, rfl⟩
theorem sh14 : Sh1 (inClass (top 17) 0) (fld 14) := ⟨_, _, _, _, _, _, rfl, rfl, rfl⟩
theorem sh15 : Sh1 (inClass (top 18) 0) (fld 15) := ⟨_, _, _, _, _, _, rfl, rfl, rfl⟩
theorem sh16 : Sh1 (inClass (top 19) 0) (fld 16) := ⟨_, _, _, _, _, _, rfl, rfl, rfl⟩
theorem sh17 : Sh1 (inClass (top 20) 0) (fld 17) := ⟨_, _, _, _, _, _, rfl, rfl, rfl⟩
theorem sh18 : Sh1 (inClass (top 21) 0) (fld 18) := ⟨_, _, _, _, _, _, rfl, rfl, rfl⟩
theorem sh19 : Sh1 (inClass (top 22) 0) (fld 19) := ⟨_, _, _, _, _, _, rfl, rfl, rfl⟩
theorem sh20 : Sh1 (inClass (top 23) 0) (fld 20) := ⟨_, _, _, _, _, _, rfl, rfl, rfl⟩
theorem sh21 : Sh1 (inClass (top 24) 0) (fld 21) := ⟨_, _, _, _, _, _, rfl, rfl, rfl⟩
theorem sh22 : Sh2 (inClass (top 10) 0) := ⟨_, _, _, _, _, _, _, _, _, _, _, rfl, rfl, rfl⟩
theorem sh23 : Sh2 (inClass (top 25) 0) := ⟨_, _, _, _, _, _, _, _, _, _, _, rfl, rfl, rfl⟩
structure Def (K : PySem.W.Frag) (nm : Str) (st : Stmt) (f : Addr) : Prop where
  g : PySem.W.nsIn K mainGlobals nm = some (some (.ref f))
  h : ∃ (oc kV doc pm cdv ct : Value) (od an : Option Addr) (osl : Array (Option Value)), K.lookup f = some ⟨oc, od, .func (PySem.W.fnOf nm nm (defArgs st) (defBody st) (defScope st) .none kV doc pm an cdv ct), osl⟩ ∧ PySem.W.codeIn K cdv nm = true
  k : PySem.W.keepIn K (.ref f) = true
theorem Def.mk1 {K : PySem.W.Frag} {nm : Str} {st : Stmt} {f : Addr} {oc kV doc pm cdv ct : Value} {od an : Option Addr} {osl : Array (Option Value)} (g : PySem.W.nsIn K mainGlobals nm = some (some (.ref f)))
    (l : K.lookup f = some ⟨oc, od, .func (PySem.W.fnOf nm nm (defArgs st) (defBody st) (defScope st) .none kV doc pm an cdv ct), osl⟩) (c : PySem.W.codeIn K cdv nm = true) (k : PySem.W.keepIn K (.ref f) = true) : Def K nm st f := ⟨g, ⟨_, _, _, _, _, _, _, _, _, l, c⟩, k⟩
theorem Ini.mk1 {K : PySem.W.Frag} {C f : Addr} {st : Stmt} {qual : Str} {oc doc pm cdv ct : Value} {od an : Option Addr} {osl : Array (Option Value)} (i : PySem.W.findIn K (.ref C) "__init__" = some (some (.ref f))) (t : PySem.W.typeIn K (.ref f) = some (.type "function"))
    (l : K.lookup f = some ⟨oc, od, .func (PySem.W.fnOf "__init__" qual (defArgs st) (defBody st) (defScope st) .none .none doc pm an cdv ct), osl⟩) (c : PySem.W.codeIn K cdv qual = true) : Ini K C st qual := ⟨_, _, _, _, _, _, _, _, _, i, t, l, c⟩
theorem Def.fun {K : PySem.W.Frag} {nm : Str} {st : Stmt} {f : Addr} (d : Def K nm st f) : ∃ fd : FuncData, Fun K nm nm st f fd := by
  obtain ⟨oc, kV, doc, pm, cdv, ct, od, an, osl, l, c⟩ := d.h
  exact ⟨_, fun_mk (st := st) l c d.k⟩
/-- what k_is finds, one by one -/
structure Lk (K : PySem.W.Frag) (cs : List Addr) : Prop where
  c : PySem.W.nsIn K mainGlobals (nm 0) = some (some (.ref (cs.getD 0 0))) ∧ PySem.W.nsIn K mainGlobals (nm 1) = some (some (.ref (cs.getD 1 0))) ∧ PySem.W.nsIn K mainGlobals (nm 2) = some (some (.ref (cs.getD 2 0))) ∧ PySem.W.nsIn K mainGlobals (nm 3) = some (some (.ref (cs.getD 3 0))) ∧ PySem.W.nsIn K mainGlobals (nm 4) = some (some (.ref (cs.getD 4 0))) ∧ PySem.W.nsIn K mainGlobals (nm 5) = some (some (.ref (cs.getD 5 0))) ∧ PySem.W.nsIn K mainGlobals (nm 6) = some (some (.ref (cs.getD 6 0))) ∧ PySem.W.nsIn K mainGlobals (nm 7) = some (some (.ref (cs.getD 7 0))) ∧ PySem.W.nsIn K mainGlobals (nm 8) = some (some (.ref (cs.getD 8 0))) ∧ PySem.W.nsIn K mainGlobals (nm 9) = some (some (.ref (cs.getD 9 0))) ∧ PySem.W.nsIn K mainGlobals (nm 10) = some (some (.ref (cs.getD 10 0))) ∧ PySem.W.nsIn K mainGlobals (nm 11) = some (some (.ref (cs.getD 11 0))) ∧ PySem.W.nsIn K mainGlobals (nm 12) = some (some (.ref (cs.getD 12 0))) ∧ PySem.W.nsIn K mainGlobals (nm 13) = some (some (.ref (cs.getD 13 0))) ∧ PySem.W.nsIn K mainGlobals (nm 14) = some (some (.ref (cs.getD 14 0))) ∧ PySem.W.nsIn K mainGlobals (nm 15) = some (some (.ref (cs.getD 15 0))) ∧ PySem.W.nsIn K mainGlobals (nm 16) = some (some (.ref (cs.getD 16 0))) ∧ PySem.W.nsIn K mainGlobals (nm 17) = some (some (.ref (cs.getD 17 0))) ∧ PySem.W.nsIn K mainGlobals (nm 18) = some (some (.ref (cs.getD 18 0))) ∧ PySem.W.nsIn K mainGlobals (nm 19) = some (some (.ref (cs.getD 19 0))) ∧ PySem.W.nsIn K mainGlobals (nm 20) = some (some (.ref (cs.getD 20 0))) ∧ PySem.W.nsIn K mainGlobals (nm 21) = some (some (.ref (cs.getD 21 0))) ∧ PySem.W.nsIn K mainGlobals (nm 22) = some (some (.ref (cs.getD 22 0))) ∧ PySem.W.nsIn K mainGlobals (nm 23) = some (some (.ref (cs.getD 23 0))) ∧ PySem.W.nsIn K mainGlobals (nm 24) = some (some (.ref (cs.getD 24 0))) ∧ PySem.W.nsIn K mainGlobals (nm 25) = some (some (.ref (cs.getD 25 0)))
  i : Ini K (cs.getD 0 0) (inClass (top 1) 0) "InvalidWords.__init__" ∧ Ini K (cs.getD 1 0) (inClass (top 2) 0) "InvalidItem.__init__" ∧ Ini K (cs.getD 2 0) (inClass (top 3) 0) "InvalidText.__init__" ∧ Ini K (cs.getD 3 0) (inClass (top 4) 0) "InvalidMode.__init__" ∧ Ini K (cs.getD 4 0) (inClass (top 5) 0) "InvalidStroke.__init__" ∧ Ini K (cs.getD 5 0) (inClass (top 6) 0) "InvalidBodies.__init__" ∧ Ini K (cs.getD 6 0) (inClass (top 7) 0) "InvalidPattern.__init__" ∧ Ini K (cs.getD 7 0) (inClass (top 8) 0) "InvalidPressed.__init__" ∧ Ini K (cs.getD 8 0) (inClass (top 11) 0) "CommandError.__init__" ∧ Ini K (cs.getD 9 0) (inClass (top 12) 0) "NotAnItem.__init__" ∧ Ini K (cs.getD 10 0) (inClass (top 13) 0) "NotABody.__init__" ∧ Ini K (cs.getD 11 0) (inClass (top 14) 0) "NotABook.__init__" ∧ Ini K (cs.getD 12 0) (inClass (top 15) 0) "OutOfRange.__init__" ∧ Ini K (cs.getD 13 0) (inClass (top 16) 0) "UnknownStroke.__init__" ∧ Ini K (cs.getD 14 0) (inClass (top 17) 0) "UnknownState.__init__" ∧ Ini K (cs.getD 15 0) (inClass (top 18) 0) "TooMany.__init__" ∧ Ini K (cs.getD 16 0) (inClass (top 19) 0) "TooFew.__init__" ∧ Ini K (cs.getD 17 0) (inClass (top 20) 0) "TooDeep.__init__" ∧ Ini K (cs.getD 18 0) (inClass (top 21) 0) "TooLong.__init__" ∧ Ini K (cs.getD 19 0) (inClass (top 22) 0) "NeverEnds.__init__" ∧ Ini K (cs.getD 20 0) (inClass (top 23) 0) "Unlike.__init__" ∧ Ini K (cs.getD 21 0) (inClass (top 24) 0) "Endless.__init__" ∧ Ini K (cs.getD 22 0) (inClass (top 10) 0) "Clash.__init__" ∧ Ini K (cs.getD 23 0) (inClass (top 25) 0) "TooBig.__init__"
  b : allB K cs = true
theorem errs {K : PySem.W.Frag} {mg : Str → Option Value} {h : Heap} {cs : List Addr} (X : K.In h) (G : h.Ns mainGlobals mg) (L : Lk K cs) : Errs K mg (fun i => cs.getD i 0) ∧ Blt mg := by
  have b := L.b
  simp only [allB, Bool.and_eq_true, decide_eq_true_eq] at b
  obtain ⟨⟨⟨⟨⟨⟨⟨⟨⟨⟨⟨⟨⟨⟨⟨⟨b1, b2⟩, b3⟩, b4⟩, b5⟩, b6⟩, b7⟩, b8⟩, b9⟩, b10⟩, b11⟩, m1⟩, m2⟩, m3⟩, m4⟩, m5⟩, m6⟩ := b
  have ex : ∀ i, i < 26 → Exk K (cs.getD i 0) (bmro (bas i)) (bnew (bas i)) := fun i hi => exB_ok (all_lt b1 hi)
  have no : ∀ i, i < 22 → noB K (cs.getD i 0) (fld i) = true := fun i hi => all_lt b4 hi
  obtain ⟨g0, g1, g2, g3, g4, g5, g6, g7, g8, g9, g10, g11, g12, g13, g14, g15, g16, g17, g18, g19, g20, g21, g22, g23, g24, g25⟩ := L.c
  obtain ⟨i0, i1, i2, i3, i4, i5, i6, i7, i8, i9, i10, i11, i12, i13, i14, i15, i16, i17, i18, i19, i20, i21, i22, i23⟩ := L.i
  refine ⟨⟨fun i hi => ?_, ex, fun i j hi hj => of_decide_eq_true (all_lt (all_lt b2 hi) hj), fun i b hi hb => of_decide_eq_true (all_lt (all_lt b3 hi) hb), fun i hi => ?_, two_of (ex 22 (by decide)) b5 b6 sh22 i22, two_of (ex 23 (by decide)) b7 b8 sh23 i23, ⟨ex 24 (by decide), b9⟩, ⟨ex 25 (by decide), b10⟩,
    fun b hb => PySem.W.mg_none_of X G (of_decide_eq_true (all_lt b11 hb))⟩, ⟨PySem.W.mg_none_of X G m1, PySem.W.mg_none_of X G m2, PySem.W.mg_none_of X G m3, PySem.W.mg_none_of X G m4, PySem.W.mg_none_of X G m5, PySem.W.mg_none_of X G m6⟩⟩
  · have z : i = 0 ∨ i = 1 ∨ i = 2 ∨ i = 3 ∨ i = 4 ∨ i = 5 ∨ i = 6 ∨ i = 7 ∨ i = 8 ∨ i = 9 ∨ i = 10 ∨ i = 11 ∨ i = 12 ∨ i = 13 ∨ i = 14 ∨ i = 15 ∨ i = 16 ∨ i = 17 ∨ i = 18 ∨ i = 19 ∨ i = 20 ∨ i = 21 ∨ i = 22 ∨ i = 23 ∨ i = 24 ∨ i = 25 := by omega
    rcases z with rfl | rfl | rfl | rfl | rfl | rfl | rfl | rfl | rfl | rfl | rfl | rfl | rfl | rfl | rfl | rfl | rfl | rfl | rfl | rfl | rfl | rfl | rfl | rfl | rfl | rfl
    · exact PySem.W.mg_of X G g0
    · exact PySem.W.mg_of X G g1
    · exact PySem.W.mg_of X G g2
    · exact PySem.W.mg_of X G g3
    · exact PySem.W.mg_of X G g4
    · exact PySem.W.mg_of X G g5
    · exact PySem.W.mg_of X G g6
    · exact PySem.W.mg_of X G g7
    · exact PySem.W.mg_of X G g8
    · exact PySem.W.mg_of X G g9
    · exact PySem.W.mg_of X G g10
    · exact PySem.W.mg_of X G g11
    · exact PySem.W.mg_of X G g12
    · exact PySem.W.mg_of X G g13
    · exact PySem.W.mg_of X G g14
    · exact PySem.W.mg_of X G g15
    · exact PySem.W.mg_of X G g16
    · exact PySem.W.mg_of X G g17
    · exact PySem.W.mg_of X G g18
    · exact PySem.W.mg_of X G g19
    · exact PySem.W.mg_of X G g20
    · exact PySem.W.mg_of X G g21
    · exact PySem.W.mg_of X G g22
    · exact PySem.W.mg_of X G g23
    · exact PySem.W.mg_of X G g24
    · exact PySem.W.mg_of X G g25
  · have z : i = 0 ∨ i = 1 ∨ i = 2 ∨ i = 3 ∨ i = 4 ∨ i = 5 ∨ i = 6 ∨ i = 7 ∨ i = 8 ∨ i = 9 ∨ i = 10 ∨ i = 11 ∨ i = 12 ∨ i = 13 ∨ i = 14 ∨ i = 15 ∨ i = 16 ∨ i = 17 ∨ i = 18 ∨ i = 19 ∨ i = 20 ∨ i = 21 := by omega
    rcases z with rfl | rfl | rfl | rfl | rfl | rfl | rfl | rfl | rfl | rfl | rfl | rfl | rfl | rfl | rfl | rfl | rfl | rfl | rfl | rfl | rfl | rfl
    · exact one_of (ex 0 (by decide)) (.inl rfl) (no 0 (by decide)) sh0 i0
    · exact one_of (ex 1 (by decide)) (.inr (.inl rfl)) (no 1 (by decide)) sh1 i1
    · exact one_of (ex 2 (by decide)) (.inr (.inr (.inl rfl))) (no 2 (by decide)) sh2 i2
    · exact one_of (ex 3 (by decide)) (.inl rfl) (no 3 (by decide)) sh3 i3
    · exact one_of (ex 4 (by decide)) (.inl rfl) (no 4 (by decide)) sh4 i4
    · exact one_of (ex 5 (by decide)) (.inl rfl) (no 5 (by decide)) sh5 i5
    · exact one_of (ex 6 (by decide)) (.inl rfl) (no 6 (by decide)) sh6 i6
    · exact one_of (ex 7 (by decide)) (.inl rfl) (no 7 (by decide)) sh7 i7
    · exact one_of (ex 8 (by decide)) (.inl rfl) (no 8 (by decide)) sh8 i8
    · exact one_of (ex 9 (by decide)) (.inr (.inr (.inl rfl))) (no 9 (by decide)) sh9 i9
    · exact one_of (ex 10 (by decide)) (.inl rfl) (no 10 (by decide)) sh10 i10
    · exact one_of (ex 11 (by decide)) (.inr (.inr (.inl rfl))) (no 11 (by decide)) sh11 i11
    · exact one_of (ex 12 (by decide)) (.inl rfl) (no 12 (by decide)) sh12 i12
    · exact one_of (ex 13 (by decide)) (.inl rfl) (no 13 (by decide)) sh13 i13
    · exact one_of (ex 14 (by decide)) (.inl rfl) (no 14 (by decide)) sh14 i14
    · exact one_of (ex 15 (by decide)) (.inr (.inr (.inr (.inl rfl)))) (no 15 (by decide)) sh15 i15
    · exact one_of (ex 16 (by decide)) (.inr (.inr (.inr (.inl rfl)))) (no 16 (by decide)) sh16 i16
    · exact one_of (ex 17 (by decide)) (.inr (.inr (.inr (.inl rfl)))) (no 17 (by decide)) sh17 i17
    · exact one_of (ex 18 (by decide)) (.inr (.inr (.inr (.inl rfl)))) (no 18 (by decide)) sh18 i18
    · exact one_of (ex 19 (by decide)) (.inr (.inr (.inr (.inr (.inl rfl))))) (no 19 (by decide)) sh19 i19
    · exact one_of (ex 20 (by decide)) (.inr (.inr (.inr (.inr (.inr rfl))))) (no 20 (by decide)) sh20 i20
    · exact one_of (ex 21 (by decide)) (.inr (.inr (.inr (.inr (.inr rfl))))) (no 21 (by decide)) sh21 i21
theorem all_mk {P : Program} {w : World} {K : PySem.W.Frag} {h : Heap} {mg : Str → Option Value} {fa : Addr} (X : K.In h) (G : h.Ns mainGlobals mg) (hfa : mg "law" = some (.ref fa)) {c0 c1 c2 c3 c4 c5 c6 c7 c8 c9 c10 c11 c12 c13 c14 c15 c16 c17 c18 c19 c20 c21 c22 c23 c24 c25 : Addr}
    (a0 : PySem.W.nsIn K mainGlobals "InvalidWords" = some (some (.ref c0)))
    (a1 : PySem.W.nsIn K mainGlobals "InvalidItem" = some (some (.ref c1)))
    (a2 : PySem.W.nsIn K mainGlobals "InvalidText" = some (some (.ref c2)))
    (a3 : PySem.W.nsIn K mainGlobals "InvalidMode" = some (some (.ref c3)))
    (a4 : PySem.W.nsIn K mainGlobals "InvalidStroke" = some (some (.ref c4)))
    (a5 : PySem.W.nsIn K mainGlobals "InvalidBodies" = some (some (.ref c5)))
    (a6 : PySem.W.nsIn K mainGlobals "InvalidPattern" = some (some (.ref c6)))
    (a7 : PySem.W.nsIn K mainGlobals "InvalidPressed" = some (some (.ref c7)))
    (a8 : PySem.W.nsIn K mainGlobals "CommandError" = some (some (.ref c8)))
    (a9 : PySem.W.nsIn K mainGlobals "NotAnItem" = some (some (.ref c9)))
    (a10 : PySem.W.nsIn K mainGlobals "NotABody" = some (some (.ref c10)))
    (a11 : PySem.W.nsIn K mainGlobals "NotABook" = some (some (.ref c11)))
    (a12 : PySem.W.nsIn K mainGlobals "OutOfRange" = some (some (.ref c12)))
    (a13 : PySem.W.nsIn K mainGlobals "UnknownStroke" = some (some (.ref c13)))
    (a14 : PySem.W.nsIn K mainGlobals "UnknownState" = some (some (.ref c14)))
    (a15 : PySem.W.nsIn K mainGlobals "TooMany" = some (some (.ref c15)))
    (a16 : PySem.W.nsIn K mainGlobals "TooFew" = some (some (.ref c16)))
    (a17 : PySem.W.nsIn K mainGlobals "TooDeep" = some (some (.ref c17)))
    (a18 : PySem.W.nsIn K mainGlobals "TooLong" = some (some (.ref c18)))
    (a19 : PySem.W.nsIn K mainGlobals "NeverEnds" = some (some (.ref c19)))
    (a20 : PySem.W.nsIn K mainGlobals "Unlike" = some (some (.ref c20)))
    (a21 : PySem.W.nsIn K mainGlobals "Endless" = some (some (.ref c21)))
    (a22 : PySem.W.nsIn K mainGlobals "Clash" = some (some (.ref c22)))
    (a23 : PySem.W.nsIn K mainGlobals "TooBig" = some (some (.ref c23)))
    (a24 : PySem.W.nsIn K mainGlobals "NotBeginning" = some (some (.ref c24)))
    (a25 : PySem.W.nsIn K mainGlobals "InTrial" = some (some (.ref c25)))
    {e0 : Addr} {oc0 dc0 pm0 cv0 ct0 : Value} {od0 an0 : Option Addr} {sl0 : Array (Option Value)}
    (i0 : PySem.W.findIn K (.ref c0) "__init__" = some (some (.ref e0))) (t0 : PySem.W.typeIn K (.ref e0) = some (.type "function"))
    (l0 : K.lookup e0 = some ⟨oc0, od0, .func (PySem.W.fnOf "__init__" "InvalidWords.__init__" (defArgs (inClass (top 1) 0)) (defBody (inClass (top 1) 0)) (defScope (inClass (top 1) 0)) .none .none dc0 pm0 an0 cv0 ct0), sl0⟩) (d0 : PySem.W.codeIn K cv0 "InvalidWords.__init__" = true)
    {e1 : Addr} {oc1 dc1 pm1 cv1 ct1 : Value} {od1 an1 : Option Addr} {sl1 : Array (Option Value)}
    (i1 : PySem.W.findIn K (.ref c1) "__init__" = some (some (.ref e1))) (t1 : PySem.W.typeIn K (.ref e1) = some (.type "function"))
    (l1 : K.lookup e1 = some ⟨oc1, od1, .func (PySem.W.fnOf "__init__" "InvalidItem.__init__" (defArgs (inClass (top 2) 0)) (defBody (inClass (top 2) 0)) (defScope (inClass (top 2) 0)) .none .none dc1 pm1 an1 cv1 ct1), sl1⟩) (d1 : PySem.W.codeIn K cv1 "InvalidItem.__init__" = true)
    {e2 : Addr} {oc2 dc2 pm2 cv2 ct2 : Value} {od2 an2 : Option Addr} {sl2 : Array (Option Value)}
    (i2 : PySem.W.findIn K (.ref c2) "__init__" = some (some (.ref e2))) (t2 : PySem.W.typeIn K (.ref e2) = some (.type "function"))
    (l2 : K.lookup e2 = some ⟨oc2, od2, .func (PySem.W.fnOf "__init__" "InvalidText.__init__" (defArgs (inClass (top 3) 0)) (defBody (inClass (top 3) 0)) (defScope (inClass (top 3) 0)) .none .none dc2 pm2 an2 cv2 ct2), sl2⟩) (d2 : PySem.W.codeIn K cv2 "InvalidText.__init__" = true)
    {e3 : Addr} {oc3 dc3 pm3 cv3 ct3 : Value} {od3 an3 : Option Addr} {sl3 : Array (Option Value)}
    (i3 : PySem.W.findIn K (.ref c3) "__init__" = some (some (.ref e3))) (t3 : PySem.W.typeIn K (.ref e3) = some (.type "function"))
    (l3 : K.lookup e3 = some ⟨oc3, od3, .func (PySem.W.fnOf "__init__" "InvalidMode.__init__" (defArgs (inClass (top 4) 0)) (defBody (inClass (top 4) 0)) (defScope (inClass (top 4) 0)) .none .none dc3 pm3 an3 cv3 ct3), sl3⟩) (d3 : PySem.W.codeIn K cv3 "InvalidMode.__init__" = true)
    {e4 : Addr} {oc4 dc4 pm4 cv4 ct4 : Value} {od4 an4 : Option Addr} {sl4 : Array (Option Value)}
    (i4 : PySem.W.findIn K (.ref c4) "__init__" = some (some (.ref e4))) (t4 : PySem.W.typeIn K (.ref e4) = some (.type "function"))
    (l4 : K.lookup e4 = some ⟨oc4, od4, .func (PySem.W.fnOf "__init__" "InvalidStroke.__init__" (defArgs (inClass (top 5) 0)) (defBody (inClass (top 5) 0)) (defScope (inClass (top 5) 0)) .none .none dc4 pm4 an4 cv4 ct4), sl4⟩) (d4 : PySem.W.codeIn K cv4 "InvalidStroke.__init__" = true)
    {e5 : Addr} {oc5 dc5 pm5 cv5 ct5 : Value} {od5 an5 : Option Addr} {sl5 : Array (Option Value)}
    (i5 : PySem.W.findIn K (.ref c5) "__init__" = some (some (.ref e5))) (t5 : PySem.W.typeIn K (.ref e5) = some (.type "function"))
    (l5 : K.lookup e5 = some ⟨oc5, od5, .func (PySem.W.fnOf "__init__" "InvalidBodies.__init__" (defArgs (inClass (top 6) 0)) (defBody (inClass (top 6) 0)) (defScope (inClass (top 6) 0)) .none .none dc5 pm5 an5 cv5 ct5), sl5⟩) (d5 : PySem.W.codeIn K cv5 "InvalidBodies.__init__" = true)
    {e6 : Addr} {oc6 dc6 pm6 cv6 ct6 : Value} {od6 an6 : Option Addr} {sl6 : Array (Option Value)}
    (i6 : PySem.W.findIn K (.ref c6) "__init__" = some (some (.ref e6))) (t6 : PySem.W.typeIn K (.ref e6) = some (.type "function"))
    (l6 : K.lookup e6 = some ⟨oc6, od6, .func (PySem.W.fnOf "__init__" "InvalidPattern.__init__" (defArgs (inClass (top 7) 0)) (defBody (inClass (top 7) 0)) (defScope (inClass (top 7) 0)) .none .none dc6 pm6 an6 cv6 ct6), sl6⟩) (d6 : PySem.W.codeIn K cv6 "InvalidPattern.__init__" = true)
    {e7 : Addr} {oc7 dc7 pm7 cv7 ct7 : Value} {od7 an7 : Option Addr} {sl7 : Array (Option Value)}
    (i7 : PySem.W.findIn K (.ref c7) "__init__" = some (some (.ref e7))) (t7 : PySem.W.typeIn K (.ref e7) = some (.type "function"))
    (l7 : K.lookup e7 = some ⟨oc7, od7, .func (PySem.W.fnOf "__init__" "InvalidPressed.__init__" (defArgs (inClass (top 8) 0)) (defBody (inClass (top 8) 0)) (defScope (inClass (top 8) 0)) .none .none dc7 pm7 an7 cv7 ct7), sl7⟩) (d7 : PySem.W.codeIn K cv7 "InvalidPressed.__init__" = true)
    {e8 : Addr} {oc8 dc8 pm8 cv8 ct8 : Value} {od8 an8 : Option Addr} {sl8 : Array (Option Value)}
    (i8 : PySem.W.findIn K (.ref c8) "__init__" = some (some (.ref e8))) (t8 : PySem.W.typeIn K (.ref e8) = some (.type "function"))
    (l8 : K.lookup e8 = some ⟨oc8, od8, .func (PySem.W.fnOf "__init__" "CommandError.__init__" (defArgs (inClass (top 11) 0)) (defBody (inClass (top 11) 0)) (defScope (inClass (top 11) 0)) .none .none dc8 pm8 an8 cv8 ct8), sl8⟩) (d8 : PySem.W.codeIn K cv8 "CommandError.__init__" = true)
    {e9 : Addr} {oc9 dc9 pm9 cv9 ct9 : Value} {od9 an9 : Option Addr} {sl9 : Array (Option Value)}
    (i9 : PySem.W.findIn K (.ref c9) "__init__" = some (some (.ref e9))) (t9 : PySem.W.typeIn K (.ref e9) = some (.type "function"))
    (l9 : K.lookup e9 = some ⟨oc9, od9, .func (PySem.W.fnOf "__init__" "NotAnItem.__init__" (defArgs (inClass (top 12) 0)) (defBody (inClass (top 12) 0)) (defScope (inClass (top 12) 0)) .none .none dc9 pm9 an9 cv9 ct9), sl9⟩) (d9 : PySem.W.codeIn K cv9 "NotAnItem.__init__" = true)
    {e10 : Addr} {oc10 dc10 pm10 cv10 ct10 : Value} {od10 an10 : Option Addr} {sl10 : Array (Option Value)}
    (i10 : PySem.W.findIn K (.ref c10) "__init__" = some (some (.ref e10))) (t10 : PySem.W.typeIn K (.ref e10) = some (.type "function"))
    (l10 : K.lookup e10 = some ⟨oc10, od10, .func (PySem.W.fnOf "__init__" "NotABody.__init__" (defArgs (inClass (top 13) 0)) (defBody (inClass (top 13) 0)) (defScope (inClass (top 13) 0)) .none .none dc10 pm10 an10 cv10 ct10), sl10⟩) (d10 : PySem.W.codeIn K cv10 "NotABody.__init__" = true)
    {e11 : Addr} {oc11 dc11 pm11 cv11 ct11 : Value} {od11 an11 : Option Addr} {sl11 : Array (Option Value)}
    (i11 : PySem.W.findIn K (.ref c11) "__init__" = some (some (.ref e11))) (t11 : PySem.W.typeIn K (.ref e11) = some (.type "function"))
    (l11 : K.lookup e11 = some ⟨oc11, od11, .func (PySem.W.fnOf "__init__" "NotABook.__init__" (defArgs (inClass (top 14) 0)) (defBody (inClass (top 14) 0)) (defScope (inClass (top 14) 0)) .none .none dc11 pm11 an11 cv11 ct11), sl11⟩) (d11 : PySem.W.codeIn K cv11 "NotABook.__init__" = true)
    {e12 : Addr} {oc12 dc12 pm12 cv12 ct12 : Value} {od12 an12 : Option Addr} {sl12 : Array (Option Value)}
    (i12 : PySem.W.findIn K (.ref c12) "__init__" = some (some (.ref e12))) (t12 : PySem.W.typeIn K (.ref e12) = some (.type "function"))
    (l12 : K.lookup e12 = some ⟨oc12, od12, .func (PySem.W.fnOf "__init__" "OutOfRange.__init__" (defArgs (inClass (top 15) 0)) (defBody (inClass (top 15) 0)) (defScope (inClass (top 15) 0)) .none .none dc12 pm12 an12 cv12 ct12), sl12⟩) (d12 : PySem.W.codeIn K cv12 "OutOfRange.__init__" = true)
    {e13 : Addr} {oc13 dc13 pm13 cv13 ct13 : Value} {od13 an13 : Option Addr} {sl13 : Array (Option Value)}
    (i13 : PySem.W.findIn K (.ref c13) "__init__" = some (some (.ref e13))) (t13 : PySem.W.typeIn K (.ref e13) = some (.type "function"))
    (l13 : K.lookup e13 = some ⟨oc13, od13, .func (PySem.W.fnOf "__init__" "UnknownStroke.__init__" (defArgs (inClass (top 16) 0)) (defBody (inClass (top 16) 0)) (defScope (inClass (top 16) 0)) .none .none dc13 pm13 an13 cv13 ct13), sl13⟩) (d13 : PySem.W.codeIn K cv13 "UnknownStroke.__init__" = true)
    {e14 : Addr} {oc14 dc14 pm14 cv14 ct14 : Value} {od14 an14 : Option Addr} {sl14 : Array (Option Value)}
    (i14 : PySem.W.findIn K (.ref c14) "__init__" = some (some (.ref e14))) (t14 : PySem.W.typeIn K (.ref e14) = some (.type "function"))
    (l14 : K.lookup e14 = some ⟨oc14, od14, .func (PySem.W.fnOf "__init__" "UnknownState.__init__" (defArgs (inClass (top 17) 0)) (defBody (inClass (top 17) 0)) (defScope (inClass (top 17) 0)) .none .none dc14 pm14 an14 cv14 ct14), sl14⟩) (d14 : PySem.W.codeIn K cv14 "UnknownState.__init__" = true)
    {e15 : Addr} {oc15 dc15 pm15 cv15 ct15 : Value} {od15 an15 : Option Addr} {sl15 : Array (Option Value)}
    (i15 : PySem.W.findIn K (.ref c15) "__init__" = some (some (.ref e15))) (t15 : PySem.W.typeIn K (.ref e15) = some (.type "function"))
    (l15 : K.lookup e15 = some ⟨oc15, od15, .func (PySem.W.fnOf "__init__" "TooMany.__init__" (defArgs (inClass (top 18) 0)) (defBody (inClass (top 18) 0)) (defScope (inClass (top 18) 0)) .none .none dc15 pm15 an15 cv15 ct15), sl15⟩) (d15 : PySem.W.codeIn K cv15 "TooMany.__init__" = true)
    {e16 : Addr} {oc16 dc16 pm16 cv16 ct16 : Value} {od16 an16 : Option Addr} {sl16 : Array (Option Value)}
    (i16 : PySem.W.findIn K (.ref c16) "__init__" = some (some (.ref e16))) (t16 : PySem.W.typeIn K (.ref e16) = some (.type "function"))
    (l16 : K.lookup e16 = some ⟨oc16, od16, .func (PySem.W.fnOf "__init__" "TooFew.__init__" (defArgs (inClass (top 19) 0)) (defBody (inClass (top 19) 0)) (defScope (inClass (top 19) 0)) .none .none dc16 pm16 an16 cv16 ct16), sl16⟩) (d16 : PySem.W.codeIn K cv16 "TooFew.__init__" = true)
    {e17 : Addr} {oc17 dc17 pm17 cv17 ct17 : Value} {od17 an17 : Option Addr} {sl17 : Array (Option Value)}
    (i17 : PySem.W.findIn K (.ref c17) "__init__" = some (some (.ref e17))) (t17 : PySem.W.typeIn K (.ref e17) = some (.type "function"))
    (l17 : K.lookup e17 = some ⟨oc17, od17, .func (PySem.W.fnOf "__init__" "TooDeep.__init__" (defArgs (inClass (top 20) 0)) (defBody (inClass (top 20) 0)) (defScope (inClass (top 20) 0)) .none .none dc17 pm17 an17 cv17 ct17), sl17⟩) (d17 : PySem.W.codeIn K cv17 "TooDeep.__init__" = true)
    {e18 : Addr} {oc18 dc18 pm18 cv18 ct18 : Value} {od18 an18 : Option Addr} {sl18 : Array (Option Value)}
    (i18 : PySem.W.findIn K (.ref c18) "__init__" = some (some (.ref e18))) (t18 : PySem.W.typeIn K (.ref e18) = some (.type "function"))
    (l18 : K.lookup e18 = some ⟨oc18, od18, .func (PySem.W.fnOf "__init__" "TooLong.__init__" (defArgs (inClass (top 21) 0)) (defBody (inClass (top 21) 0)) (defScope (inClass (top 21) 0)) .none .none dc18 pm18 an18 cv18 ct18), sl18⟩) (d18 : PySem.W.codeIn K cv18 "TooLong.__init__" = true)
    {e19 : Addr} {oc19 dc19 pm19 cv19 ct19 : Value} {od19 an19 : Option Addr} {sl19 : Array (Option Value)}
    (i19 : PySem.W.findIn K (.ref c19) "__init__" = some (some (.ref e19))) (t19 : PySem.W.typeIn K (.ref e19) = some (.type "function"))
    (l19 : K.lookup e19 = some ⟨oc19, od19, .func (PySem.W.fnOf "__init__" "NeverEnds.__init__" (defArgs (inClass (top 22) 0)) (defBody (inClass (top 22) 0)) (defScope (inClass (top 22) 0)) .none .none dc19 pm19 an19 cv19 ct19), sl19⟩) (d19 : PySem.W.codeIn K cv19 "NeverEnds.__init__" = true)
    {e20 : Addr} {oc20 dc20 pm20 cv20 ct20 : Value} {od20 an20 : Option Addr} {sl20 : Array (Option Value)}
    (i20 : PySem.W.findIn K (.ref c20) "__init__" = some (some (.ref e20))) (t20 : PySem.W.typeIn K (.ref e20) = some (.type "function"))
    (l20 : K.lookup e20 = some ⟨oc20, od20, .func (PySem.W.fnOf "__init__" "Unlike.__init__" (defArgs (inClass (top 23) 0)) (defBody (inClass (top 23) 0)) (defScope (inClass (top 23) 0)) .none .none dc20 pm20 an20 cv20 ct20), sl20⟩) (d20 : PySem.W.codeIn K cv20 "Unlike.__init__" = true)
    {e21 : Addr} {oc21 dc21 pm21 cv21 ct21 : Value} {od21 an21 : Option Addr} {sl21 : Array (Option Value)}
    (i21 : PySem.W.findIn K (.ref c21) "__init__" = some (some (.ref e21))) (t21 : PySem.W.typeIn K (.ref e21) = some (.type "function"))
    (l21 : K.lookup e21 = some ⟨oc21, od21, .func (PySem.W.fnOf "__init__" "Endless.__init__" (defArgs (inClass (top 24) 0)) (defBody (inClass (top 24) 0)) (defScope (inClass (top 24) 0)) .none .none dc21 pm21 an21 cv21 ct21), sl21⟩) (d21 : PySem.W.codeIn K cv21 "Endless.__init__" = true)
    {e22 : Addr} {oc22 dc22 pm22 cv22 ct22 : Value} {od22 an22 : Option Addr} {sl22 : Array (Option Value)}
    (i22 : PySem.W.findIn K (.ref c22) "__init__" = some (some (.ref e22))) (t22 : PySem.W.typeIn K (.ref e22) = some (.type "function"))
    (l22 : K.lookup e22 = some ⟨oc22, od22, .func (PySem.W.fnOf "__init__" "Clash.__init__" (defArgs (inClass (top 10) 0)) (defBody (inClass (top 10) 0)) (defScope (inClass (top 10) 0)) .none .none dc22 pm22 an22 cv22 ct22), sl22⟩) (d22 : PySem.W.codeIn K cv22 "Clash.__init__" = true)
    {e23 : Addr} {oc23 dc23 pm23 cv23 ct23 : Value} {od23 an23 : Option Addr} {sl23 : Array (Option Value)}
    (i23 : PySem.W.findIn K (.ref c23) "__init__" = some (some (.ref e23))) (t23 : PySem.W.typeIn K (.ref e23) = some (.type "function"))
    (l23 : K.lookup e23 = some ⟨oc23, od23, .func (PySem.W.fnOf "__init__" "TooBig.__init__" (defArgs (inClass (top 25) 0)) (defBody (inClass (top 25) 0)) (defScope (inClass (top 25) 0)) .none .none dc23 pm23 an23 cv23 ct23), sl23⟩) (d23 : PySem.W.codeIn K cv23 "TooBig.__init__" = true)
    {f0 : Addr} {xo0 kv0 xd0 xp0 xc0 xt0 : Value} {yo0 ya0 : Option Addr} {ys0 : Array (Option Value)}
    (g0 : PySem.W.nsIn K mainGlobals "_law_pen" = some (some (.ref f0))) (m0 : K.lookup f0 = some ⟨xo0, yo0, .func (PySem.W.fnOf "_law_pen" "_law_pen" (defArgs sPen) (defBody sPen) (defScope sPen) .none kv0 xd0 xp0 ya0 xc0 xt0), ys0⟩) (n0 : PySem.W.codeIn K xc0 "_law_pen" = true) (k0 : PySem.W.keepIn K (.ref f0) = true)
    {f1 : Addr} {xo1 kv1 xd1 xp1 xc1 xt1 : Value} {yo1 ya1 : Option Addr} {ys1 : Array (Option Value)}
    (g1 : PySem.W.nsIn K mainGlobals "_law_draw" = some (some (.ref f1))) (m1 : K.lookup f1 = some ⟨xo1, yo1, .func (PySem.W.fnOf "_law_draw" "_law_draw" (defArgs sDraw) (defBody sDraw) (defScope sDraw) .none kv1 xd1 xp1 ya1 xc1 xt1), ys1⟩) (n1 : PySem.W.codeIn K xc1 "_law_draw" = true) (k1 : PySem.W.keepIn K (.ref f1) = true)
    {f2 : Addr} {xo2 kv2 xd2 xp2 xc2 xt2 : Value} {yo2 ya2 : Option Addr} {ys2 : Array (Option Value)}
    (g2 : PySem.W.nsIn K mainGlobals "_law_pick" = some (some (.ref f2))) (m2 : K.lookup f2 = some ⟨xo2, yo2, .func (PySem.W.fnOf "_law_pick" "_law_pick" (defArgs sPick) (defBody sPick) (defScope sPick) .none kv2 xd2 xp2 ya2 xc2 xt2), ys2⟩) (n2 : PySem.W.codeIn K xc2 "_law_pick" = true) (k2 : PySem.W.keepIn K (.ref f2) = true)
    {f3 : Addr} {xo3 kv3 xd3 xp3 xc3 xt3 : Value} {yo3 ya3 : Option Addr} {ys3 : Array (Option Value)}
    (g3 : PySem.W.nsIn K mainGlobals "_law_any_value" = some (some (.ref f3))) (m3 : K.lookup f3 = some ⟨xo3, yo3, .func (PySem.W.fnOf "_law_any_value" "_law_any_value" (defArgs sAny) (defBody sAny) (defScope sAny) .none kv3 xd3 xp3 ya3 xc3 xt3), ys3⟩) (n3 : PySem.W.codeIn K xc3 "_law_any_value" = true) (k3 : PySem.W.keepIn K (.ref f3) = true)
    {f4 : Addr} {xo4 kv4 xd4 xp4 xc4 xt4 : Value} {yo4 ya4 : Option Addr} {ys4 : Array (Option Value)}
    (g4 : PySem.W.nsIn K mainGlobals "_law_ones" = some (some (.ref f4))) (m4 : K.lookup f4 = some ⟨xo4, yo4, .func (PySem.W.fnOf "_law_ones" "_law_ones" (defArgs sOnes) (defBody sOnes) (defScope sOnes) .none kv4 xd4 xp4 ya4 xc4 xt4), ys4⟩) (n4 : PySem.W.codeIn K xc4 "_law_ones" = true) (k4 : PySem.W.keepIn K (.ref f4) = true)
    {f5 : Addr} {xo5 kv5 xd5 xp5 xc5 xt5 : Value} {yo5 ya5 : Option Addr} {ys5 : Array (Option Value)}
    (g5 : PySem.W.nsIn K mainGlobals "_law_own" = some (some (.ref f5))) (m5 : K.lookup f5 = some ⟨xo5, yo5, .func (PySem.W.fnOf "_law_own" "_law_own" (defArgs sOwn) (defBody sOwn) (defScope sOwn) .none kv5 xd5 xp5 ya5 xc5 xt5), ys5⟩) (n5 : PySem.W.codeIn K xc5 "_law_own" = true) (k5 : PySem.W.keepIn K (.ref f5) = true)
    {f6 : Addr} {xo6 kv6 xd6 xp6 xc6 xt6 : Value} {yo6 ya6 : Option Addr} {ys6 : Array (Option Value)}
    (g6 : PySem.W.nsIn K mainGlobals "_law_shown" = some (some (.ref f6))) (m6 : K.lookup f6 = some ⟨xo6, yo6, .func (PySem.W.fnOf "_law_shown" "_law_shown" (defArgs sShown) (defBody sShown) (defScope sShown) .none kv6 xd6 xp6 ya6 xc6 xt6), ys6⟩) (n6 : PySem.W.codeIn K xc6 "_law_shown" = true) (k6 : PySem.W.keepIn K (.ref f6) = true)
    {f7 : Addr} {xo7 kv7 xd7 xp7 xc7 xt7 : Value} {yo7 ya7 : Option Addr} {ys7 : Array (Option Value)}
    (g7 : PySem.W.nsIn K mainGlobals "_law_above" = some (some (.ref f7))) (m7 : K.lookup f7 = some ⟨xo7, yo7, .func (PySem.W.fnOf "_law_above" "_law_above" (defArgs sAbove) (defBody sAbove) (defScope sAbove) .none kv7 xd7 xp7 ya7 xc7 xt7), ys7⟩) (n7 : PySem.W.codeIn K xc7 "_law_above" = true) (k7 : PySem.W.keepIn K (.ref f7) = true)
    {f8 : Addr} {xo8 kv8 xd8 xp8 xc8 xt8 : Value} {yo8 ya8 : Option Addr} {ys8 : Array (Option Value)}
    (g8 : PySem.W.nsIn K mainGlobals "_law_is_right" = some (some (.ref f8))) (m8 : K.lookup f8 = some ⟨xo8, yo8, .func (PySem.W.fnOf "_law_is_right" "_law_is_right" (defArgs sRight) (defBody sRight) (defScope sRight) .none kv8 xd8 xp8 ya8 xc8 xt8), ys8⟩) (n8 : PySem.W.codeIn K xc8 "_law_is_right" = true) (k8 : PySem.W.keepIn K (.ref f8) = true)
    {f9 : Addr} {xo9 kv9 xd9 xp9 xc9 xt9 : Value} {yo9 ya9 : Option Addr} {ys9 : Array (Option Value)}
    (g9 : PySem.W.nsIn K mainGlobals "_law_twos_right" = some (some (.ref f9))) (m9 : K.lookup f9 = some ⟨xo9, yo9, .func (PySem.W.fnOf "_law_twos_right" "_law_twos_right" (defArgs sTwos) (defBody sTwos) (defScope sTwos) .none kv9 xd9 xp9 ya9 xc9 xt9), ys9⟩) (n9 : PySem.W.codeIn K xc9 "_law_twos_right" = true) (k9 : PySem.W.keepIn K (.ref f9) = true)
    {f10 : Addr} {xo10 kv10 xd10 xp10 xc10 xt10 : Value} {yo10 ya10 : Option Addr} {ys10 : Array (Option Value)}
    (g10 : PySem.W.nsIn K mainGlobals "_law_power" = some (some (.ref f10))) (m10 : K.lookup f10 = some ⟨xo10, yo10, .func (PySem.W.fnOf "_law_power" "_law_power" (defArgs sPower) (defBody sPower) (defScope sPower) .none kv10 xd10 xp10 ya10 xc10 xt10), ys10⟩) (n10 : PySem.W.codeIn K xc10 "_law_power" = true) (k10 : PySem.W.keepIn K (.ref f10) = true)
    {f11 : Addr} {xo11 kv11 xd11 xp11 xc11 xt11 : Value} {yo11 ya11 : Option Addr} {ys11 : Array (Option Value)}
    (g11 : PySem.W.nsIn K mainGlobals "law" = some (some (.ref f11))) (m11 : K.lookup f11 = some ⟨xo11, yo11, .func (PySem.W.fnOf "law" "law" (defArgs sLaw) (defBody sLaw) (defScope sLaw) .none kv11 xd11 xp11 ya11 xc11 xt11), ys11⟩) (n11 : PySem.W.codeIn K xc11 "law" = true) (k11 : PySem.W.keepIn K (.ref f11) = true)
    {z0 : Int} {tk0 : Tok} (q0 : PySem.W.nsIn K mainGlobals "MODES" = some (some (.int z0 tk0)))
    {z1 : Int} {tk1 : Tok} (q1 : PySem.W.nsIn K mainGlobals "KEYS" = some (some (.int z1 tk1)))
    {z2 : Int} {tk2 : Tok} (q2 : PySem.W.nsIn K mainGlobals "ITEMS" = some (some (.int z2 tk2)))
    {z3 : Int} {tk3 : Tok} (q3 : PySem.W.nsIn K mainGlobals "DEPTH" = some (some (.int z3 tk3)))
    {z4 : Int} {tk4 : Tok} (q4 : PySem.W.nsIn K mainGlobals "NUMBER" = some (some (.int z4 tk4)))
    {z5 : Int} {tk5 : Tok} (q5 : PySem.W.nsIn K mainGlobals "BOOKS" = some (some (.int z5 tk5)))
    {z6 : Int} {tk6 : Tok} (q6 : PySem.W.nsIn K mainGlobals "STATES" = some (some (.int z6 tk6)))
    {z7 : Int} {tk7 : Tok} (q7 : PySem.W.nsIn K mainGlobals "PATTERN" = some (some (.int z7 tk7)))
    {z8 : Int} {tk8 : Tok} (q8 : PySem.W.nsIn K mainGlobals "GOAL" = some (some (.int z8 tk8)))
    {z9 : Int} {tk9 : Tok} (q9 : PySem.W.nsIn K mainGlobals "SIZE" = some (some (.int z9 tk9)))
    (v : [z0, z1, z2, z3, z4, z5, z6, z7, z8, z9] = [6, 6, 6, 2, 1000000000, 3, 36, 8, 200, ((10 ^ 4000 : Nat) : Int)]) (chk : allB K [c0, c1, c2, c3, c4, c5, c6, c7, c8, c9, c10, c11, c12, c13, c14, c15, c16, c17, c18, c19, c20, c21, c22, c23, c24, c25] = true) :
    ∃ fd : FuncData, (∀ (s : Shared) (v : Value), BindsTo s fd ⟨[v], []⟩ [("_law_script", v)]) ∧ ∀ base : Heap, K.In base → base.Ns mainGlobals mg → FnG P w K mg base CX0 4 fa fd ["_law_script"] (spLaw K) := by
  have L : Lk K [c0, c1, c2, c3, c4, c5, c6, c7, c8, c9, c10, c11, c12, c13, c14, c15, c16, c17, c18, c19, c20, c21, c22, c23, c24, c25] := ⟨⟨a0, a1, a2, a3, a4, a5, a6, a7, a8, a9, a10, a11, a12, a13, a14, a15, a16, a17, a18, a19, a20, a21, a22, a23, a24, a25⟩, ⟨Ini.mk1 i0 t0 l0 d0, Ini.mk1 i1 t1 l1 d1, Ini.mk1 i2 t2 l2 d2, Ini.mk1 i3 t3 l3 d3, Ini.mk1 i4 t4 l4 d4, Ini.mk1 i5 t5 l5 d5, Ini.mk1 i6 t6 l6 d6, Ini.mk1 i7 t7 l7 d7, Ini.mk1 i8 t8 l8 d8, Ini.mk1 i9 t9 l9 d9, Ini.mk1 i10 t10 l10 d10, Ini.mk1 i11 t11 l11 d11, Ini.mk1 i12 t12 l12 d12, Ini.mk1 i13 t13 l13 d13, Ini.mk1 i14 t14 l14 d14, Ini.mk1 i15 t15 l15 d15, Ini.mk1 i16 t16 l16 d16, Ini.mk1 i17 t17 l17 d17, Ini.mk1 i18 t18 l18 d18, Ini.mk1 i19 t19 l19 d19, Ini.mk1 i20 t20 l20 d20, Ini.mk1 i21 t21 l21 d21, Ini.mk1 i22 t22 l22 d22, Ini.mk1 i23 t23 l23 d23⟩, chk⟩
  obtain ⟨T, B⟩ := errs X G L
  simp only [List.cons.injEq, and_true] at v
  obtain ⟨rfl, rfl, rfl, rfl, rfl, rfl, rfl, rfl, rfl, rfl⟩ := v
  have dsPen : Def K "_law_pen" sPen f0 := Def.mk1 g0 m0 n0 k0
  obtain ⟨fdsPen, FsPen⟩ := dsPen.fun
  have dsDraw : Def K "_law_draw" sDraw f1 := Def.mk1 g1 m1 n1 k1
  obtain ⟨fdsDraw, FsDraw⟩ := dsDraw.fun
  have dsPick : Def K "_law_pick" sPick f2 := Def.mk1 g2 m2 n2 k2
  obtain ⟨fdsPick, FsPick⟩ := dsPick.fun
  have dsAny : Def K "_law_any_value" sAny f3 := Def.mk1 g3 m3 n3 k3
  obtain ⟨fdsAny, FsAny⟩ := dsAny.fun
  have dsOnes : Def K "_law_ones" sOnes f4 := Def.mk1 g4 m4 n4 k4
  obtain ⟨fdsOnes, FsOnes⟩ := dsOnes.fun
  have dsOwn : Def K "_law_own" sOwn f5 := Def.mk1 g5 m5 n5 k5
  obtain ⟨fdsOwn, FsOwn⟩ := dsOwn.fun
  have dsShown : Def K "_law_shown" sShown f6 := Def.mk1 g6 m6 n6 k6
  obtain ⟨fdsShown, FsShown⟩ := dsShown.fun
  have dsAbove : Def K "_law_above" sAbove f7 := Def.mk1 g7 m7 n7 k7
  obtain ⟨fdsAbove, FsAbove⟩ := dsAbove.fun
  have dsRight : Def K "_law_is_right" sRight f8 := Def.mk1 g8 m8 n8 k8
  obtain ⟨fdsRight, FsRight⟩ := dsRight.fun
  have dsTwos : Def K "_law_twos_right" sTwos f9 := Def.mk1 g9 m9 n9 k9
  obtain ⟨fdsTwos, FsTwos⟩ := dsTwos.fun
  have dsPower : Def K "_law_power" sPower f10 := Def.mk1 g10 m10 n10 k10
  obtain ⟨fdsPower, FsPower⟩ := dsPower.fun
  have dsLaw : Def K "law" sLaw f11 := Def.mk1 g11 m11 n11 k11
  have e := hfa.symm.trans (PySem.W.mg_of X G g11)
  cases e
  have C : Cst mg := ⟨⟨_, PySem.W.mg_of X G q0⟩, ⟨_, PySem.W.mg_of X G q1⟩, ⟨_, PySem.W.mg_of X G q2⟩, ⟨_, PySem.W.mg_of X G q3⟩, ⟨_, PySem.W.mg_of X G q4⟩, ⟨_, PySem.W.mg_of X G q5⟩, ⟨_, PySem.W.mg_of X G q6⟩, ⟨_, PySem.W.mg_of X G q7⟩, ⟨_, PySem.W.mg_of X G q8⟩, ⟨_, PySem.W.mg_of X G q9⟩⟩
  have bsPen : Binds K fdsPen ["_law_script"] [] := FsPen.binds fun _ _ _ _ _ _ us hl => match us, hl with | [_], _ => rfl
  have gsPen : Fn K mg "_law_pen" _ := ⟨PySem.W.mg_of X G dsPen.g, dsPen.k⟩
  have bsDraw : Binds K fdsDraw ["_law_pen_here", "_law_size"] [] := FsDraw.binds fun _ _ _ _ _ _ us hl => match us, hl with | [_, _], _ => rfl
  have gsDraw : Fn K mg "_law_draw" _ := ⟨PySem.W.mg_of X G dsDraw.g, dsDraw.k⟩
  have bsPick : Binds K fdsPick ["_law_pen_here", "_law_items"] [] := FsPick.binds fun _ _ _ _ _ _ us hl => match us, hl with | [_, _], _ => rfl
  have gsPick : Fn K mg "_law_pick" _ := ⟨PySem.W.mg_of X G dsPick.g, dsPick.k⟩
  have bsAny : Binds K fdsAny ["_law_pen_here"] [] := FsAny.binds fun _ _ _ _ _ _ us hl => match us, hl with | [_], _ => rfl
  have gsAny : Fn K mg "_law_any_value" _ := ⟨PySem.W.mg_of X G dsAny.g, dsAny.k⟩
  have bsOnes : Binds K fdsOnes ["_law_odd"] [] := FsOnes.binds fun _ _ _ _ _ _ us hl => match us, hl with | [_], _ => rfl
  have gsOnes : Fn K mg "_law_ones" _ := ⟨PySem.W.mg_of X G dsOnes.g, dsOnes.k⟩
  have bsOwn : Binds K fdsOwn ["_law_e"] [] := FsOwn.binds fun _ _ _ _ _ _ us hl => match us, hl with | [_], _ => rfl
  have gsOwn : Fn K mg "_law_own" _ := ⟨PySem.W.mg_of X G dsOwn.g, dsOwn.k⟩
  have bsShown : Binds K fdsShown ["_law_e", "_law_k"] [] := FsShown.binds fun _ _ _ _ _ _ us hl => match us, hl with | [_, _], _ => rfl
  have gsShown : Fn K mg "_law_shown" _ := ⟨PySem.W.mg_of X G dsShown.g, dsShown.k⟩
  have bsAbove : Binds K fdsAbove ["_law_e"] [] := FsAbove.binds fun _ _ _ _ _ _ us hl => match us, hl with | [_], _ => rfl
  have gsAbove : Fn K mg "_law_above" _ := ⟨PySem.W.mg_of X G dsAbove.g, dsAbove.k⟩
  have bsRight : Binds K fdsRight ["_law_e", "_law_place", "_law_base"] [] := FsRight.binds fun _ _ _ _ _ _ us hl => match us, hl with | [_, _, _], _ => rfl
  have gsRight : Fn K mg "_law_is_right" _ := ⟨PySem.W.mg_of X G dsRight.g, dsRight.k⟩
  have bsTwos : Binds K fdsTwos ["_law_odd", "_law_more"] [] := FsTwos.binds fun _ _ _ _ _ _ us hl => match us, hl with | [_, _], _ => rfl
  have gsTwos : Fn K mg "_law_twos_right" _ := ⟨PySem.W.mg_of X G dsTwos.g, dsTwos.k⟩
  have bsPower : Binds K fdsPower ["_law_size"] [] := FsPower.binds fun _ _ _ _ _ _ us hl => match us, hl with | [_], _ => rfl
  have gsPower : Fn K mg "_law_power" _ := ⟨PySem.W.mg_of X G dsPower.g, dsPower.k⟩
  refine ⟨PySem.W.fnOf "law" "law" (defArgs sLaw) (defBody sLaw) (defScope sLaw) .none kv11 xd11 xp11 ya11 xc11 xt11, fun s v => .of_eq rfl, fun base _ _ => ?_⟩
  have R := ok_right (P := P) (w := w) (base := base) FsRight B T FsAbove bsAbove gsAbove FsOwn bsOwn gsOwn
  exact ok_law (fun_mk (st := sLaw) m11 n11 k11) B T C (ok_pen FsPen B) bsPen gsPen (ok_any FsAny B FsDraw bsDraw gsDraw FsPick bsPick gsPick) bsAny gsAny (ok_ones FsOnes T) bsOnes gsOnes R bsRight gsRight (ok_shown FsShown B T) bsShown gsShown
    (ok_twos (fA := 0) (fO := 0) (fdA := fdsAbove) (fdO := fdsOwn) FsTwos B T R bsRight gsRight) bsTwos gsTwos (ok_power FsPower B) bsPower gsPower
end K0
end

section
set_option Elab.async false
set_option linter.all false
set_option maxRecDepth 100000
set_option maxHeartbeats 8000000
open PySem PySem.W PyProof.Rows in
set_option maxRecDepth 100000 in
set_option maxHeartbeats 0 in
theorem PySem.Challenge.cw_onestroke_k00_errors_and_limits_holds : PySem.Challenge.rw_onestroke_k00_errors_and_limits.Holds := by
  w_on; o_law; k_head; (case hw => w_witness2)
  k_fill
  refine L2.walkG (l := PySem.Challenge.rw_onestroke_k00_errors_and_limits) (n := 63) (k := 4) (x := "_law_script") (sp := K0.spLaw) rfl (by decide) rfl ⟨rfl, by decide, by decide⟩ (fun w h Y => PySem.W.kIn_of Y) ?F (fun K H a ns hl hS => ⟨a, ns, rfl, hS, hl, fun _ => rfl⟩)
  case F =>
    intro w mg fa h KX G hmg
    refine' K0.all_mk KX G hmg ?hka0 ?hka1 ?hka2 ?hka3 ?hka4 ?hka5 ?hka6 ?hka7 ?hka8 ?hka9 ?hka10 ?hka11 ?hka12 ?hka13 ?hka14 ?hka15 ?hka16 ?hka17 ?hka18 ?hka19 ?hka20 ?hka21 ?hka22 ?hka23 ?hka24 ?hka25 ?hki0 ?hkt0 ?hkl0 ?hkd0 ?hki1 ?hkt1 ?hkl1 ?hkd1 ?hki2 ?hkt2 ?hkl2 ?hkd2 ?hki3 ?hkt3 ?hkl3 ?hkd3 ?hki4 ?hkt4 ?hkl4 ?hkd4 ?hki5 ?hkt5 ?hkl5 ?hkd5 ?hki6 ?hkt6 ?hkl6 ?hkd6 ?hki7 ?hkt7 ?hkl7 ?hkd7 ?hki8 ?hkt8 ?hkl8 ?hkd8 ?hki9 ?hkt9 ?hkl9 ?hkd9 ?hki10 ?hkt10 ?hkl10 ?hkd10 ?hki11 ?hkt11 ?hkl11 ?hkd11 ?hki12 ?hkt12 ?hkl12 ?hkd12 ?hki13 ?hkt13 ?hkl13 ?hkd13 ?hki14 ?hkt14 ?hkl14 ?hkd14 ?hki15 ?hkt15 ?hkl15 ?hkd15 ?hki16 ?hkt16 ?hkl16 ?hkd16 ?hki17 ?hkt17 ?hkl17 ?hkd17 ?hki18 ?hkt18 ?hkl18 ?hkd18 ?hki19 ?hkt19 ?hkl19 ?hkd19 ?hki20 ?hkt20 ?hkl20 ?hkd20 ?hki21 ?hkt21 ?hkl21 ?hkd21 ?hki22 ?hkt22 ?hkl22 ?hkd22 ?hki23 ?hkt23 ?hkl23 ?hkd23 ?hkg0 ?hkm0 ?hkn0 ?hkk0 ?hkg1 ?hkm1 ?hkn1 ?hkk1 ?hkg2 ?hkm2 ?hkn2 ?hkk2 ?hkg3 ?hkm3 ?hkn3 ?hkk3 ?hkg4 ?hkm4 ?hkn4 ?hkk4 ?hkg5 ?hkm5 ?hkn5 ?hkk5 ?hkg6 ?hkm6 ?hkn6 ?hkk6 ?hkg7 ?hkm7 ?hkn7 ?hkk7 ?hkg8 ?hkm8 ?hkn8 ?hkk8 ?hkg9 ?hkm9 ?hkn9 ?hkk9 ?hkg10 ?hkm10 ?hkn10 ?hkk10 ?hkg11 ?hkm11 ?hkn11 ?hkk11 ?hkq0 ?hkq1 ?hkq2 ?hkq3 ?hkq4 ?hkq5 ?hkq6 ?hkq7 ?hkq8 ?hkq9 ?hkv ?hkchk
    (case hka0 => k_is)
    (case hka1 => k_is)
    (case hka2 => k_is)
    (case hka3 => k_is)
    (case hka4 => k_is)
    (case hka5 => k_is)
    (case hka6 => k_is)
    (case hka7 => k_is)
    (case hka8 => k_is)
    (case hka9 => k_is)
    (case hka10 => k_is)
    (case hka11 => k_is)
    (case hka12 => k_is)
    (case hka13 => k_is)
    (case hka14 => k_is)
    (case hka15 => k_is)
    (case hka16 => k_is)
    (case hka17 => k_is)
    (case hka18 => k_is)
    (case hka19 => k_is)
    (case hka20 => k_is)
    (case hka21 => k_is)
    (case hka22 => k_is)
    (case hka23 => k_is)
    (case hka24 => k_is)
    (case hka25 => k_is)
    (case hki0 => k_is); (case hkt0 => k_is); (case hkl0 => k_is); (case hkd0 => k_is)
    (case hki1 => k_is); (case hkt1 => k_is); (case hkl1 => k_is); (case hkd1 => k_is)
    (case hki2 => k_is); (case hkt2 => k_is); (case hkl2 => k_is); (case hkd2 => k_is)
    (case hki3 => k_is); (case hkt3 => k_is); (case hkl3 => k_is); (case hkd3 => k_is)
    (case hki4 => k_is); (case hkt4 => k_is); (case hkl4 => k_is); (case hkd4 => k_is)
    (case hki5 => k_is); (case hkt5 => k_is); (case hkl5 => k_is); (case hkd5 => k_is)
    (case hki6 => k_is); (case hkt6 => k_is); (case hkl6 => k_is); (case hkd6 => k_is)
    (case hki7 => k_is); (case hkt7 => k_is); (case hkl7 => k_is); (case hkd7 => k_is)
    (case hki8 => k_is); (case hkt8 => k_is); (case hkl8 => k_is); (case hkd8 => k_is)
    (case hki9 => k_is); (case hkt9 => k_is); (case hkl9 => k_is); (case hkd9 => k_is)
    (case hki10 => k_is); (case hkt10 => k_is); (case hkl10 => k_is); (case hkd10 => k_is)
    (case hki11 => k_is); (case hkt11 => k_is); (case hkl11 => k_is); (case hkd11 => k_is)
    (case hki12 => k_is); (case hkt12 => k_is); (case hkl12 => k_is); (case hkd12 => k_is)
    (case hki13 => k_is); (case hkt13 => k_is); (case hkl13 => k_is); (case hkd13 => k_is)
    (case hki14 => k_is); (case hkt14 => k_is); (case hkl14 => k_is); (case hkd14 => k_is)
    (case hki15 => k_is); (case hkt15 => k_is); (case hkl15 => k_is); (case hkd15 => k_is)
    (case hki16 => k_is); (case hkt16 => k_is); (case hkl16 => k_is); (case hkd16 => k_is)
    (case hki17 => k_is); (case hkt17 => k_is); (case hkl17 => k_is); (case hkd17 => k_is)
    (case hki18 => k_is); (case hkt18 => k_is); (case hkl18 => k_is); (case hkd18 => k_is)
    (case hki19 => k_is); (case hkt19 => k_is); (case hkl19 => k_is); (case hkd19 => k_is)
    (case hki20 => k_is); (case hkt20 => k_is); (case hkl20 => k_is); (case hkd20 => k_is)
    (case hki21 => k_is); (case hkt21 => k_is); (case hkl21 => k_is); (case hkd21 => k_is)
    (case hki22 => k_is); (case hkt22 => k_is); (case hkl22 => k_is); (case hkd22 => k_is)
    (case hki23 => k_is); (case hkt23 => k_is); (case hkl23 => k_is); (case hkd23 => k_is)
    (case hkg0 => k_is); (case hkm0 => k_is); (case hkn0 => k_is); (case hkk0 => k_is)
    (case hkg1 => k_is); (case hkm1 => k_is); (case hkn1 => k_is); (case hkk1 => k_is)
    (case hkg2 => k_is); (case hkm2 => k_is); (case hkn2 => k_is); (case hkk2 => k_is)
    (case hkg3 => k_is); (case hkm3 => k_is); (case hkn3 => k_is); (case hkk3 => k_is)
    (case hkg4 => k_is); (case hkm4 => k_is); (case hkn4 => k_is); (case hkk4 => k_is)
    (case hkg5 => k_is); (case hkm5 => k_is); (case hkn5 => k_is); (case hkk5 => k_is)
    (case hkg6 => k_is); (case hkm6 => k_is); (case hkn6 => k_is); (case hkk6 => k_is)
    (case hkg7 => k_is); (case hkm7 => k_is); (case hkn7 => k_is); (case hkk7 => k_is)
    (case hkg8 => k_is); (case hkm8 => k_is); (case hkn8 => k_is); (case hkk8 => k_is)
    (case hkg9 => k_is); (case hkm9 => k_is); (case hkn9 => k_is); (case hkk9 => k_is)
    (case hkg10 => k_is); (case hkm10 => k_is); (case hkn10 => k_is); (case hkk10 => k_is)
    (case hkg11 => k_is); (case hkm11 => k_is); (case hkn11 => k_is); (case hkk11 => k_is)
    (case hkq0 => k_is)
    (case hkq1 => k_is)
    (case hkq2 => k_is)
    (case hkq3 => k_is)
    (case hkq4 => k_is)
    (case hkq5 => k_is)
    (case hkq6 => k_is)
    (case hkq7 => k_is)
    (case hkq8 => k_is)
    (case hkq9 => k_is)
    (case hkv => first | kernel_rfl | rfl)
    (case hkchk => kernel_rfl)
end
