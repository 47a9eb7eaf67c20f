import PyProof.Rows.All
import Wide.All
import OpenK.AllK
import Wide.FinOn
import PySem.Challenge.RW_onestroke_k06_books_made
import HandS.ForMost
import HandS.Exc
import HandS.ExcInit
import KE.KExcInit
import KE.KExcIs
import HandS.IsInst
import HandS.Iter
import HandS.Walk
import KE.GoesEnum
import HandS.Text
import HandS.Replace
import HandS.ReplaceLit
import HandS.ReplaceDef
import PyProof.StrBlock2
import HandS.SetFor
import HandS.Set
import HandS.TupSets
import HandS.More
import HandS.Strs
import KE.SortData
import HandS.DictEq
import HandS.OwnEq
import KE.KDictPairs
import HandS.DictComp
import HandS.StrMore
import HandS.Lambda
import PyProof.Rows.StrJoinMade
import HandS.ForExc
import HandS.ExcField
import HandS.Property
import HandS.TryMany
import HandS.FStr
import HandS.Star
import HandS.CallLocal
import HandS.ClsMeth
import HandS.SortKw
import KE.DatumOrd
import HandS.Call
import HandS.List
import OpenK.KOps
import PyProof.InstNe
import PyProof.Rows.ReprOcc
import OpenK.KMeth
import HandS.Conv
import HandS.DictTup
import HandS.Finally
import KE.KDictCopyH
import HandS.MakeKw
import HandS.Defaults
import HandS.TupLen
import HandS.Deep
section
set_option Elab.async false
set_option linter.all false
set_option maxRecDepth 100000
set_option maxHeartbeats 0
open PySem PySem.W PyProof.Rows
/-! the law's head, ahead of all: it wants the most memory -/
def PySem.W.Fast.tw529451195552905840 : Nat := 0
def PySem.W.Fast.tw11847674853881107328 : Nat := 0
def PySem.W.Fast.tw7744028979909791507 : Nat := 0
def PySem.W.Fast.tw11714251741946265042 : Nat := 0
def PySem.W.Fast.tw2526429069947915267 : Nat := 0
def PySem.W.Fast.tw8720218917395543675 : Nat := 0
def PySem.W.Fast.tw12510195047221045566 : Nat := 0
def PySem.W.Fast.tw3087022523044287888 : Nat := 0
def PySem.W.Fast.tw11788768931660051494 : Nat := 0
def PySem.W.Fast.tw15142467468366248365 : Nat := 0
def PySem.W.Fast.tw6532061896687047202 : Nat := 0
def PySem.W.Fast.tw2593974802950928556 : Nat := 0
def PySem.W.Fast.tw6385801759915061966 : Nat := 0
def PySem.W.Fast.tw8020660937478501170 : Nat := 0
def PySem.W.Fast.tw5197085187593230305 : Nat := 0
open_top headOfK06 for PySem.Challenge.rw_onestroke_k06_books_made
end

section
set_option Elab.async false
set_option linter.all false
set_option maxRecDepth 100000
set_option maxHeartbeats 4000000
/-! The pen: what it holds, what a draw promises. -/
namespace Pn
open PySem PySem.Spec PyProof.Rows L2
def cs (c : Addr) (s r : Int) : List (Key × V) := [(.inr "cells", .ref c), (.inr "spot", .int s), (.inr "rest", .int r)]
theorem cs_cells (c : Addr) (s r : Int) : valV (cs c s r) (.inr "cells") = some (.ref c) := by rfl
theorem cs_spot (c : Addr) (s r : Int) : valV (cs c s r) (.inr "spot") = some (.int s) := by rfl
theorem cs_rest (c : Addr) (s r : Int) : valV (cs c s r) (.inr "rest") = some (.int r) := by rfl
theorem cs_put_spot (c : Addr) (s r t : Int) : putK (cs c s r) (.inr "spot") (.int t) = cs c t r := by rfl
theorem cs_put_rest (c : Addr) (s r t : Int) : putK (cs c s r) (.inr "rest") (.int t) = cs c s t := by rfl
/-- all but p stands as it was -/
def But (p : Addr) (H H' : Hp) : Prop := ∀ b o, b ≠ p → H b = some o → H' b = some o
theorem But.refl (p : Addr) (H : Hp) : But p H H := fun _ _ _ h => h
theorem But.trans {p : Addr} {H H1 H2 : Hp} (a : But p H H1) (b : But p H1 H2) : But p H H2 := fun c o n h => b c o n (a c o n h)
theorem Same.but {H H' : Hp} (p : Addr) (a : Same H H') : But p H H' := fun c o _ h => a c o h
theorem But.upd {p : Addr} {H H' : Hp} (a : But p H H') (o : HO) : But p H (upd H' p o) := fun c u n h => by
  rw [upd_ne n]
  exact a c u n h
theorem But.new {p q : Addr} {H H' : Hp} {o : HO} (a : But p H H') (hq : H' q = none) : But p H (L2.upd H' q o) := fun c u n h => by
  rw [upd_ne (ne_of_none (a c u n h) hq)]
  exact a c u n h
theorem But.lst {K : PySem.W.Frag} {p t : Addr} {H H' : Hp} {kvs : List (Key × V)} {xs : List V} (a : But p H H') (hp : H p = some (.dK kvs)) (h : SqL K H t xs) : SqL K H' t xs := by
  rcases h with (h | ⟨o, h⟩) | h
  · exact .inl (.inl (a _ _ (ne_of h hp (by intro z; cases z)) h))
  · exact .inl (.inr ⟨o, a _ _ (ne_of h hp (by intro z; cases z)) h⟩)
  · exact .inr h
theorem But.tup {K : PySem.W.Frag} {p t : Addr} {H H' : Hp} {kvs : List (Key × V)} {xs : List V} (a : But p H H') (hp : H p = some (.dK kvs)) (h : SqT K H t xs) : SqT K H' t xs := by
  rcases h with (h | ⟨o, h⟩) | h
  · exact .inl (.inl (a _ _ (ne_of h hp (by intro z; cases z)) h))
  · exact .inl (.inr ⟨o, a _ _ (ne_of h hp (by intro z; cases z)) h⟩)
  · exact .inr h
/-- the pen at p: its cells at c are the ints ns, at most n draws were made -/
def PenAt (H : Hp) (p c : Addr) (ns : List Int) (n : Nat) : Prop := H c = some (.lst (ns.map V.int)) ∧ ∃ s r : Int, H p = some (.dK (cs c s r)) ∧ 0 ≤ s ∧ s ≤ (n : Int)
theorem PenAt.cp {H : Hp} {p c : Addr} {ns : List Int} {n : Nat} (h : PenAt H p c ns n) : c ≠ p := by
  obtain ⟨h1, s, r, h2, _⟩ := h
  exact ne_of h1 h2 (by intro z; cases z)
theorem PenAt.at {H : Hp} {p c : Addr} {ns : List Int} {n : Nat} (h : PenAt H p c ns n) : ∃ kvs, H p = some (.dK kvs) := let ⟨_, s, r, h2, _⟩ := h; ⟨_, h2⟩
theorem PenAt.same {H H' : Hp} {p c : Addr} {ns : List Int} {n : Nat} (h : PenAt H p c ns n) (e : Same H H') : PenAt H' p c ns n := by
  obtain ⟨h1, s, r, h2, h3⟩ := h
  exact ⟨e _ _ h1, s, r, e _ _ h2, h3⟩
theorem PenAt.mono {H : Hp} {p c : Addr} {ns : List Int} {n m : Nat} (h : PenAt H p c ns n) (e : n ≤ m) : PenAt H p c ns m := by
  obtain ⟨h1, s, r, h2, h3, h4⟩ := h
  exact ⟨h1, s, r, h2, h3, by omega⟩
/-! ### the promises -/
def spPen (K : PySem.W.Frag) : Sp := fun vs H Q _ => ∃ (a : Addr) (ns : List Int), vs = [.ref a] ∧ SqL K H a (ns.map V.int) ∧ ns.length ≤ 63 ∧
  ∀ (p c : Addr) (H' : Hp), Same H H' → H p = none → PenAt H' p c ns 0 → Q (.ref p) H'
def spDraw : Sp := fun vs H Q _ => ∃ (p c : Addr) (ns : List Int) (n : Nat) (size : Int), vs = [.ref p, .int size] ∧ PenAt H p c ns n ∧ n ≤ 1000000000 ∧ ns.length ≤ 63 ∧ 0 < size ∧ size < 1073741824 ∧
  ∀ (d : Int) (H' : Hp), 0 ≤ d → d < size → But p H H' → PenAt H' p c ns (n + 1) → Q (.int d) H'
def spPick (K : PySem.W.Frag) : Sp := fun vs H Q _ => ∃ (p c t : Addr) (ns : List Int) (n : Nat) (xs : List V), vs = [.ref p, .ref t] ∧ PenAt H p c ns n ∧ n ≤ 1000000000 ∧ ns.length ≤ 63 ∧ SqL K H t xs ∧ 0 < xs.length ∧ xs.length < 1073741824 ∧
  ∀ (x : V) (H' : Hp), x ∈ xs → But p H H' → PenAt H' p c ns (n + 1) → Q x H'
end Pn
end

section
set_option Elab.async false
set_option linter.all false
set_option maxRecDepth 100000
set_option maxHeartbeats 4000000
/-! Exceptions of own classes as values: made (positional or by keywords), their fields stored. -/
namespace PySem
namespace Xv
open PySem.W PySem.Calls PyProof.Rows PySem.HandSPX
section
variable {M : Model} {A : Around} {E : Value → Shared → Prop} {h : Heap} {g : Array GenState} {d : Drawn} {t : Nat} {os : OsState}
variable {nm q : Str} {C N : Addr} {bs bm bmB : List Value} {hdct : Bool} {sn : List Str} {sub : List Value} {ab : Bool} {col : Option Bool} {dd : Option Addr} {k0 k1 k2 k3 k5 : Option Value} {B newId initId : String}
/-- the look at B.__new__'s call, keywords beside -/
theorem newCheck (F : ExcBaseFacts B newId initId bmB) (hT : ∀ Y : String, bm.contains (.type Y) = bmB.contains (.type Y)) {rest : List Value} {kw : List (Str × Value)} {Q : Unit → Shared → Prop}
    (hC : h.get? C = some (excClassObj nm q C N bs bm hdct sn sub ab col dd k0 k1 k2 k3 k5 newId)) (hq : Q () ⟨h, g, d, t, os⟩) :
    wpAny M A (checkBuiltinCall newId ⟨.ref C :: rest, kw⟩) Q E ⟨h, g, d, t, os⟩ := by
  have c1 : (Value.ref C :: bm).contains (.type B) = true := by rw [List.contains_cons, hT, F.hasB, Bool.or_true]
  have c2 := F.noStar
  simp only [checkBuiltinCall, F.newKind, F.newSplit, F.newRow]
  repeat (first | with_reducible refine wpAny_loadPart_at hC ?_ | (refine wpAny_isSubtype_exc hC ?_; rw [c1]) | refine wpAny_staticBase_exc hC ?_ | refine wpAny_madeBy_exc hC ?_ | simp only [bne_self_eq_false, Bool.false_eq_true, if_false] | wp_step)
  exact hq
theorem typeCheck {rest : List Value} {kw : List (Str × Value)} {Q : Unit → Shared → Prop} (hC : h.get? C = some (excClassObj nm q C N bs bm hdct sn sub ab col dd k0 k1 k2 k3 k5 newId))
    (hq : Q () ⟨h, g, d, t, os⟩) : wpAny M A (checkBuiltinCall "type.__call__" ⟨.ref C :: rest, kw⟩) Q E ⟨h, g, d, t, os⟩ := by
  have f3 := tc_sub
  have hT : (⟨h, g, d, t, os⟩ : Shared).TypeIs (.ref C) "type" := ⟨_, hC, rfl⟩
  simp only [checkBuiltinCall, tc_kind, tc_split]
  repeat (any_goals (first | assumption | with_reducible refine wpAny_loadPart_at hC ?_ | with_reducible refine wpAny_onRaise ?_ | with_reducible refine wpAny_map ?_ | wp_step))
end
section
variable {prog : Program} {w : World} {A : Around} {E : Value → Shared → Prop} {R : Result → Shared → Prop} {h : Heap} {g : Array GenState} {d : Drawn} {t : Nat} {os : OsState}
variable {nm q : Str} {C N : Addr} {bs bm bmB : List Value} {hdct : Bool} {sn : List Str} {sub : List Value} {ab : Bool} {col : Option Bool} {dd : Option Addr} {k0 k1 k2 k3 k5 : Option Value} {B newId initId : String}
theorem newDone (F : ExcBaseFacts B newId initId bmB) (hT : ∀ Y : String, bm.contains (.type Y) = bmB.contains (.type Y)) {rest : List Value} {kw : List (Str × Value)}
    (hC : h.get? C = some (excClassObj nm q C N bs bm hdct sn sub ab col dd k0 k1 k2 k3 k5 newId)) (hrest : rest.length ≤ sizeLine)
    (hq : R (.ok (.ret (.ref (h.objs.size + 1)))) ⟨(h.push (kdv_tup rest)).push (excO C h.objs.size), g, d, t, os⟩) :
    codeAny (model prog w) A (.builtin newId ⟨.ref C :: rest, kw⟩) R ⟨h, g, d, t, os⟩ := by
  have e0 := F.ends
  have c1 : (Value.ref C :: bm).contains (.type B) = true := by rw [List.contains_cons, hT, F.hasB, Bool.or_true]
  have c2 : (Value.ref C :: bm).contains (.type "AttributeError") = false := by rw [List.contains_cons, hT, F.noAttr]; rfl
  have c3 : (Value.ref C :: bm).contains (.type "NameError") = false := by rw [List.contains_cons, hT, F.noName]; rfl
  refine codeAny_builtinAt F.entry ?_
  unfold Builtin.«BaseException.__new__»
  refine wpAt_bind ?_
  show wpAt _ _ _ (stack >>= _) _ _ _
  refine wpAt_bind (wpAt_stack fun p below => wpAt_of_wpAny ?_)
  wp_walk
  refine wpAt_of_wpAny ?_
  rw [F.owner]
  repeat (first | with_reducible refine wpAny_madeHere_exc F.canon hC ?_ | with_reducible refine wpAny_loadPart_at hC ?_ | (with_reducible refine wpAny_isSubtype_exc hC ?_; first | rw [c1] | rw [c2] | rw [c3]) | wp_step)
  show R _ _
  rw [Heap.size_push]
  exact hq
theorem typeRun (F : ExcBaseFacts B newId initId bmB) (hT : ∀ Y : String, bm.contains (.type Y) = bmB.contains (.type Y)) {rest : List Value} {kw : List (Str × Value)} {fI : Value} {Q : Fin → Shared → Prop}
    (hC : h.get? C = some (excClassObj nm q C N bs bm hdct sn sub ab col dd k0 k1 k2 k3 k5 newId))
    (hi : Looks (model prog w) h (typeLookup (.ref C) "__init__") (some fI)) (hb : ∀ self, Looks (model prog w) h (bindSpecial fI self) (fI, [self])) (hrest : rest.length ≤ sizeLine)
    (hq : codeAny (model prog w) A (.call fI ⟨.ref (h.objs.size + 1) :: rest, kw⟩)
      (fun r s' => match r with | .ok (.ret v) => v = .none ∧ Q (.done (.ret (.ref (h.objs.size + 1)))) s' | .ok _ => False | .error e => E e s')
      ⟨(h.push (kdv_tup rest)).push (excO C h.objs.size), g, d, t, os⟩) :
    wpAny (model prog w) A (Builtin.«type.__call__» ⟨.ref C :: rest, kw⟩) Q E ⟨h, g, d, t, os⟩ := by
  repeat (first | with_reducible refine wpAny_loadPart_at hC ?_ | with_reducible refine wpAny_madeBy_exc hC ?_ | wp_step)
  refine codeAny_call_builtin_code (Code.quiet_builtin _ F.quiet) (newCheck F hT hC ?_)
  refine newDone F hT hC hrest ?_
  show wpAny _ _ _ _ _ _
  have k : ∀ b o, h.get? b = some o → ((h.push (kdv_tup rest)).push (excO C h.objs.size)).get? b = some o := fun b o e => Heap.get?_push_of_some _ (Heap.get?_push_of_some _ e)
  have hC1 := k _ _ hC
  have hget : ((h.push (kdv_tup rest)).push (excO C h.objs.size)).get? (h.objs.size + 1) = some (excO C h.objs.size) := by heap_get
  have cC : (Value.ref C :: bm).contains (.ref C) = true := by simp
  have i1 := hi.keeps k
  have b1 := (hb (.ref (h.objs.size + 1))).keeps k
  unfold isInstance
  repeat (first | with_reducible refine wpAny_loadPart_at hget ?_ | (with_reducible refine wpAny_isSubtype_exc hC1 ?_; rw [cC]) | wp_step)
  show wpAny _ _ (typeLookup (.ref C) _) _ _ _
  refine i1.at ?_
  refine wpAny_holding (wpAny_bind (b1.at ?_))
  refine wpAny_bind (wpAny_call (codeAny_mono hq fun r s' z => ?_))
  rcases r with e | (v | _ | _ | _) <;> first | exact z | exact z.elim | skip
  obtain ⟨rfl, z⟩ := z
  first
    | exact wpAny_pure (wpAny_pure z)
    | (wp_walk; exact z)
/-- C(.., k=..): the making, then the class's __init__ -/
theorem made (F : ExcBaseFacts B newId initId bmB) (hT : ∀ Y : String, bm.contains (.type Y) = bmB.contains (.type Y)) {rest : List Value} {kw : List (Str × Value)} {fI : Value}
    (hC : h.get? C = some (excClassObj nm q C N bs bm hdct sn sub ab col dd k0 k1 k2 k3 k5 newId))
    (hi : Looks (model prog w) h (typeLookup (.ref C) "__init__") (some fI)) (hb : ∀ self, Looks (model prog w) h (bindSpecial fI self) (fI, [self])) (hrest : rest.length ≤ sizeLine)
    (hq : codeAny (model prog w) (A.under (.builtin "type.__call__" ⟨.ref C :: rest, kw⟩)) (.call fI ⟨.ref (h.objs.size + 1) :: rest, kw⟩) (InitBack (h.objs.size + 1) R)
      ⟨(h.push (kdv_tup rest)).push (excO C h.objs.size), g, d, t, os⟩) :
    codeAny (model prog w) A (.call (.ref C) ⟨rest, kw⟩) R ⟨h, g, d, t, os⟩ := by
  have f1 := tc_lookup
  have f2 := tc_bind (.ref C)
  have hTy : (⟨h, g, d, t, os⟩ : Shared).TypeIs (.ref C) "type" := ⟨_, hC, rfl⟩
  refine codeAny_of_tree ?_
  show wpAny _ _ (callAny (.ref C) _) _ _ _
  repeat (any_goals (first | assumption | with_reducible refine wpAny_loadPart_at hC ?_ | wp_step))
  refine ⟨rfl, ?_⟩
  refine codeAny_call_builtin_at (Code.quiet_builtin _ (by decide +kernel)) entry_typeCall (typeCheck hC (typeRun F hT hC hi hb hrest ?_))
  refine codeAny_mono hq fun r s' z => ?_
  rcases r with e | (v | _ | _ | _) <;> exact z
end
end Xv
end PySem
end

section
set_option Elab.async false
set_option linter.all false
set_option maxRecDepth 100000
set_option maxHeartbeats 4000000
namespace PySem
namespace Xv
open PySem.W PySem.Calls PyProof.Rows PySem.HandSPX
open Builtin Builtin.ObjectAttr
section
variable {prog : Program} {w : World} {A : Around} {E : Value → Shared → Prop} {R : Result → Shared → Prop} {s : Shared} {K : Frag} {B : String} {bmB : List Value}
/-- an exception's object, its dict at dd -/
abbrev eO (C t : Addr) (dd : Option Addr) : Obj := { cls := .ref C, dict := dd, data := .fields #[.ref t, .none, .none, .none, .bool false, .none] }
theorem storeFirst {x C t1 : Addr} {name : Str} {tk : Tok} {v : Value} (SF : StoreFacts B bmB "object.__setattr__" "object") (X : K.In s.heap) (hx : s.heap.get? x = some (eO C t1 none))
    (hp : excOver K C bmB = true) (ht : takerIn K C name = some none) (hh : hasDictIn K C = true)
    (hq : ∀ h' tk' dx, (∀ b o, b ≠ x → s.heap.get? b = some o → h'.get? b = some o) → s.heap.objs.size ≤ dx → dx ≠ x → h'.get? x = some (eO C t1 (some dx)) →
      h'.Ns1 dx (fun y => if y = name then some v else none) → R (.ok (.ret .none)) { s with heap := h', toks := tk' }) :
    codeAny (model prog w) A (.call (.builtin "object.__setattr__") ⟨[.ref x, .str name tk, v], []⟩) R s := by
  refine osa_openX (od := none) SF X ⟨hx, rfl, rfl, trivial⟩ hp ht fun b => ?_
  obtain ⟨cd, hc, hd'⟩ := any_some hh
  have hxs : x < s.heap.objs.size := Heap.lt_size hx
  refine wpAny_bind (wpAny_pure (wpAny_bind (instanceDict_exc (c2 := .none) hx (looks_clsIn X hc) hd' ?_)))
  obtain ⟨hp0, g, d, t, os⟩ := s
  refine store_in_new ?_ fun h' tk' hn' hs => ?_
  · exact ⟨_, #[], _, (Heap.get?_update_ne _ _ _ _ (Nat.ne_of_gt hxs)).trans (Heap.get?_push_at rfl rfl), rfl, fun e he => absurd he (by simp), fun _ => rfl⟩
  · have hx1 : (hp0.push (dictOf [] 0)).get? x = some (eO C t1 none) := Heap.get?_push_of_some _ hx
    refine hq h' tk' hp0.objs.size (fun b o hb ho => ?_) (Nat.le_refl _) (Nat.ne_of_gt hxs) ?_ hn'
    · exact (hs.2 b (Nat.ne_of_lt (Heap.lt_size ho))).trans ((Heap.get?_update_ne _ _ _ _ hb).trans (Heap.get?_push_of_some _ ho))
    · exact (hs.2 x (Nat.ne_of_lt hxs)).trans (Heap.get?_update_self _ hx1 rfl)
theorem storeNext {x C t1 dx : Addr} {name : Str} {tk : Tok} {v : Value} {m0 : Str → Option Value} {nl : List Str} (SF : StoreFacts B bmB "object.__setattr__" "object") (X : K.In s.heap) (hx : s.heap.get? x = some (eO C t1 (some dx)))
    (hns : s.heap.Ns1 dx m0) (hw : Within m0 nl) (hz : nl.length ≤ 1000)
    (hp : excOver K C bmB = true) (ht : takerIn K C name = some none) (hh : hasDictIn K C = true)
    (hq : ∀ h' tk', (∀ b o, b ≠ dx → s.heap.get? b = some o → h'.get? b = some o) → h'.Ns1 dx (fun y => if y = name then some v else m0 y) → R (.ok (.ret .none)) { s with heap := h', toks := tk' }) :
    codeAny (model prog w) A (.call (.builtin "object.__setattr__") ⟨[.ref x, .str name tk, v], []⟩) R s := by
  obtain ⟨oD, esD, epD, hoD, hdD, _⟩ := hns.count hw
  refine osa_openX (od := some oD) SF X ⟨hx, rfl, rfl, hoD⟩ hp ht fun b => ?_
  obtain ⟨cd, hc, hd'⟩ := any_some hh
  refine wpAny_bind (wpAny_pure (wpAny_bind (wpAny_bind (wpAny_loadPart hx (wpAny_bind ((looks_clsIn X hc).here ?_))))))
  rw [hd']
  refine wpAny_pure (a := some dx) ?_
  obtain ⟨hp0, g, d, t, os⟩ := s
  exact OEX.store_in_old hns hw hz fun h' tk' hn' hs => hq h' tk' (fun b o hb ho => (hs.2 b hb).trans ho) hn'
end
end Xv
end PySem
end

section
set_option Elab.async false
set_option linter.all false
set_option maxRecDepth 100000
set_option maxHeartbeats 8000000
namespace PySem
namespace Xv
open PySem.W PySem.Calls PyProof.Rows PySem.HandSPX
/-! ### the text of __init__ with one field, with two -/
def a1 (f : Str) (p1 p2 : Pos) : Arguments := { posonlyargs := [], args := [{ arg := "self", annotation := none, pos := p1 }, { arg := f, annotation := none, pos := p2 }], vararg := none, kwonlyargs := [], kw_defaults := [], kwarg := none, defaults := [] }
def b1 (f : Str) (q1 q2 q3 q4 : Pos) : List Stmt := [.Assign [.Attribute (.Name "self" q1) f q2] (.Name f q3) q4]
def s1 (f : Str) : Scope := { kind := .function, names := [(PySem.Str.ofString "self", .local), (f, .local)], isGenerator := false, isCoroutine := false, more := [] }
def a2 (p1 p2 p3 : Pos) : Arguments := { posonlyargs := [], args := [{ arg := "self", annotation := none, pos := p1 }, { arg := "mode", annotation := none, pos := p2 }, { arg := "key", annotation := none, pos := p3 }], vararg := none, kwonlyargs := [], kw_defaults := [], kwarg := none, defaults := [] }
def b2 (q1 q2 q3 q4 r1 r2 r3 r4 : Pos) : List Stmt := [.Assign [.Attribute (.Name "self" q1) "mode" q2] (.Name "mode" q3) q4, .Assign [.Attribute (.Name "self" r1) "key" r2] (.Name "key" r3) r4]
def s2 : Scope := { kind := .function, names := [(PySem.Str.ofString "self", .local), (PySem.Str.ofString "mode", .local), (PySem.Str.ofString "key", .local)], isGenerator := false, isCoroutine := false, more := [] }
theorem ldL {M : Model} {s : Shared} {name : Str} {scope : Scope} {L a : Addr} {cd : Value} {m : Str → Option Value} {x : Str} {pos : Pos} {v : Value} {Q : Value → Shared → Prop} {A : Around} {E : Value → Shared → Prop} (hn : s.heap.Ns L m) (hv : m x = some v) (h : Q v s)
    (hk : scope.kind = .function := by rfl) (hl : (envOfC name scope L a cd).kindOf x = some .local := by rfl) (hd : (x == ("__debug__" : Str)) = false := by decide) :
    wpAny M A (eval (.Name x pos) (envOfC name scope L a cd)) Q E s := wpAny_Name (wpAny_loadName_local hk hl hn hv h) hd
def Field (f : Str) : Prop := f = "value" ∨ f = "field" ∨ f = "index" ∨ f = "limit" ∨ f = "key" ∨ f = "pressed"
/-- what the written part says of an own exception class at C over B, for storing -/
structure Sto (K : Frag) (C : Addr) (bmB : List Value) : Prop where
  sa : findIn K (.ref C) "__setattr__" = some (some (.builtin "object.__setattr__"))
  ov : excOver K C bmB = true
  hd : hasDictIn K C = true
section
variable {prog : Program} {w : World} {A : Around} {R : Result → Shared → Prop} {s : Shared} {K : Frag} {B : String} {bmB : List Value} {C fI x t0 : Addr}
theorem init1 {f qual : Str} {args : Args} {v oc doc pm cdv ct : Value} {od an : Option Addr} {osl : Array (Option Value)} {p1 p2 q1 q2 q3 q4 : Pos} (hf : Field f)
    (ho : K.lookup fI = some ⟨oc, od, .func (fnOf "__init__" qual (a1 f p1 p2) (b1 f q1 q2 q3 q4) (s1 f) .none .none doc pm an cdv ct), osl⟩) (hcd : codeIn K cdv qual = true)
    (hb : BindsTo s (fnOf "__init__" qual (a1 f p1 p2) (b1 f q1 q2 q3 q4) (s1 f) .none .none doc pm an cdv ct) args [("self", .ref x), (f, v)])
    (SF : StoreFacts B bmB "object.__setattr__" "object") (T : Sto K C bmB) (ht : takerIn K C f = some none)
    (X : K.In s.heap) (hlim : s.heap.NoLimit) (hx : s.heap.get? x = some (eO C t0 none)) (hroom : A.depth < recursionLimit)
    (hq : ∀ h' tk dx, (∀ b o, b ≠ x → s.heap.get? b = some o → h'.get? b = some o) → s.heap.objs.size ≤ dx → h'.get? x = some (eO C t0 (some dx)) → h'.Ns1 dx (fun y => if y = f then some v else none) →
      R (.ok (.ret .none)) { s with heap := h', toks := tk }) :
    codeAny (model prog w) A (.call (.ref fI) args) R s := by
  refine Att.call_fn (binds := [("self", .ref x), (f, v)]) X hlim ho hcd hroom hb ?_ (fun s₁ IC => ?_) rfl rfl rfl
  · rcases hf with rfl | rfl | rfl | rfl | rfl | rfl <;> first | rfl | decide | with_unfolding_all rfl
  obtain ⟨h₁, tk₁, rfl⟩ := IC.toInCall.same
  have k : ∀ b o, s.heap.get? b = some o → h₁.get? b = some o := IC.toInCall.keep
  have hn := IC.toInCall.ns
  have X₁ : K.In h₁ := X.keeps k
  have hx₁ := k _ _ hx
  have z : s.heap.objs.size < h₁.objs.size := hn.lt
  show wpAny _ _ (execs _ _) _ _ _
  refine wpAny_execs_cons (plainObj_wpAny_Assign_Attribute ?_)
  have fin : ∀ (A : Around) (E : Value → Shared → Prop) (Q : Unit → Shared → Prop), (∀ h' tk dx, (∀ b o, b ≠ x → s.heap.get? b = some o → h'.get? b = some o) → s.heap.objs.size ≤ dx → h'.get? x = some (eO C t0 (some dx)) → h'.Ns1 dx (fun y => if y = f then some v else none) →
      Q () { s with heap := h', toks := tk }) → wpAny (model prog w) A (setAttr (.ref x) f v) Q E { s with heap := h₁, toks := tk₁ } := fun A E Q hQ => by
    refine set_plain X₁ (ox := eO C t0 none) (od := none) ⟨hx₁, rfl, rfl, trivial⟩ T.sa ?_
    refine storeFirst SF X₁ hx₁ T.ov ht T.hd fun h₃ tk₃ dx k₃ dn dne hx₃ hn₃ => ?_
    exact hQ h₃ tk₃ dx (fun b o hb e => k₃ b o hb (k b o e)) (Nat.le_of_lt (Nat.lt_of_lt_of_le z dn)) hx₃ hn₃
  have e1 : (bindL (envOfC qual (s1 f) s.heap.objs.size fI cdv).kindOf [("self", Value.ref x), (f, v)] fun _ => none) f = some v := by
    rcases hf with rfl | rfl | rfl | rfl | rfl | rfl <;> first | rfl | with_unfolding_all rfl | kernel_rfl
  have e2 : (bindL (envOfC qual (s1 f) s.heap.objs.size fI cdv).kindOf [("self", Value.ref x), (f, v)] fun _ => none) "self" = some (.ref x) := by
    rcases hf with rfl | rfl | rfl | rfl | rfl | rfl <;> first | rfl | with_unfolding_all rfl | kernel_rfl
  refine ldL (v := v) hn e1 (ldL (v := .ref x) hn e2 ?_ rfl ?_) rfl ?_ ?_
  · refine fin _ _ _ fun h' tk dx k' dn hx' hn' => ?_
    show wpAny _ _ (execs _ _) _ _ _
    exact wpAny_execs_nil (hq h' tk dx k' dn hx' hn')
  · rcases hf with rfl | rfl | rfl | rfl | rfl | rfl <;> rfl
  · rcases hf with rfl | rfl | rfl | rfl | rfl | rfl <;> rfl
  · rcases hf with rfl | rfl | rfl | rfl | rfl | rfl <;> decide
end
end Xv
end PySem
end

section
set_option Elab.async false
set_option linter.all false
set_option maxRecDepth 100000
set_option maxHeartbeats 8000000
namespace PySem
namespace Xv
open PySem.W PySem.Calls PyProof.Rows PySem.HandSPX
theorem two_in (v1 v2 : Value) : Within (fun y => if y = ("mode" : Str) then some v1 else none) ["mode"] := fun y h => by
  by_cases e : y = ("mode" : Str)
  · rw [e]; simp
  · exact absurd (if_neg e) h
section
variable {prog : Program} {w : World} {A : Around} {R : Result → Shared → Prop} {s : Shared} {K : Frag} {B : String} {bmB : List Value} {C fI x t0 : Addr}
def two (v1 v2 : Value) : Str → Option Value := fun y => if y = "key" then some v2 else if y = "mode" then some v1 else none
theorem init2 {qual : Str} {args : Args} {v1 v2 oc doc pm cdv ct : Value} {od an : Option Addr} {osl : Array (Option Value)} {p1 p2 p3 q1 q2 q3 q4 r1 r2 r3 r4 : Pos}
    (ho : K.lookup fI = some ⟨oc, od, .func (fnOf "__init__" qual (a2 p1 p2 p3) (b2 q1 q2 q3 q4 r1 r2 r3 r4) s2 .none .none doc pm an cdv ct), osl⟩) (hcd : codeIn K cdv qual = true)
    (hb : BindsTo s (fnOf "__init__" qual (a2 p1 p2 p3) (b2 q1 q2 q3 q4 r1 r2 r3 r4) s2 .none .none doc pm an cdv ct) args [("self", .ref x), ("mode", v1), ("key", v2)])
    (SF : StoreFacts B bmB "object.__setattr__" "object") (T : Sto K C bmB) (ht1 : takerIn K C "mode" = some none) (ht2 : takerIn K C "key" = some none)
    (X : K.In s.heap) (hlim : s.heap.NoLimit) (hx : s.heap.get? x = some (eO C t0 none)) (hnx : K.lookup x = none) (hroom : A.depth < recursionLimit)
    (hq : ∀ h' tk dx, (∀ b o, b ≠ x → s.heap.get? b = some o → h'.get? b = some o) → s.heap.objs.size ≤ dx → h'.get? x = some (eO C t0 (some dx)) → h'.Ns1 dx (two v1 v2) →
      R (.ok (.ret .none)) { s with heap := h', toks := tk }) :
    codeAny (model prog w) A (.call (.ref fI) args) R s := by
  refine Att.call_fn (binds := [("self", .ref x), ("mode", v1), ("key", v2)]) X hlim ho hcd hroom hb (by first | rfl | decide | with_unfolding_all rfl) (fun s₁ IC => ?_) rfl rfl rfl
  obtain ⟨h₁, tk₁, rfl⟩ := IC.toInCall.same
  have k : ∀ b o, s.heap.get? b = some o → h₁.get? b = some o := IC.toInCall.keep
  have hn := IC.toInCall.ns
  have X₁ : K.In h₁ := X.keeps k
  have hx₁ := k _ _ hx
  have z : s.heap.objs.size < h₁.objs.size := hn.lt
  have hxz : s.heap.objs.size ≠ x := Nat.ne_of_gt (Heap.lt_size hx)
  show wpAny _ _ (execs _ _) _ _ _
  refine wpAny_execs_cons (plainObj_wpAny_Assign_Attribute ?_)
  refine ldL (v := v1) hn (by first | rfl | with_unfolding_all rfl | kernel_rfl) (ldL (v := .ref x) hn (by first | rfl | with_unfolding_all rfl | kernel_rfl) ?_)
  refine set_plain X₁ (ox := eO C t0 none) (od := none) ⟨hx₁, rfl, rfl, trivial⟩ T.sa ?_
  refine storeFirst SF X₁ hx₁ T.ov ht1 T.hd fun h₃ tk₃ dx k₃ dn dne hx₃ hn₃ => ?_
  have X₃ : K.In h₃ := fun a o e => k₃ a o (fun q => by rw [q, hnx] at e; cases e) (X₁ a o e)
  have hn3 := hn.at (h' := h₃) fun o e => k₃ _ o hxz e
  have dz : s.heap.objs.size < dx := Nat.lt_of_lt_of_le z dn
  obtain ⟨oD, _, _, hoD, _⟩ := id hn₃
  show wpAny _ _ (execs _ _) _ _ _
  refine wpAny_execs_cons (plainObj_wpAny_Assign_Attribute ?_)
  refine ldL (v := v2) hn3 (by first | rfl | with_unfolding_all rfl | kernel_rfl) (ldL (v := .ref x) hn3 (by first | rfl | with_unfolding_all rfl | kernel_rfl) ?_)
  refine set_plain X₃ (ox := eO C t0 (some dx)) (od := some oD) ⟨hx₃, rfl, rfl, hoD⟩ T.sa ?_
  refine storeNext (nl := ["mode"]) SF X₃ hx₃ hn₃ (two_in v1 v2) (by decide) T.ov ht2 T.hd fun h₄ tk₄ k₄ hn₄ => ?_
  show wpAny _ _ (execs _ _) _ _ _
  refine wpAny_execs_nil (hq h₄ tk₄ dx (fun b o hb e => k₄ b o (Nat.ne_of_lt (Nat.lt_trans (Heap.lt_size e) dz)) (k₃ b o hb (k b o e))) (Nat.le_of_lt dz) (k₄ _ _ dne.symm hx₃) hn₄)
end
end Xv
end PySem
end

section
set_option Elab.async false
set_option linter.all false
set_option maxRecDepth 100000
set_option maxHeartbeats 8000000
namespace L2
open PySem PySem.Spec PyProof.Rows
/-! ### two new objects at once -/
section
variable {X : Cx} {pins : List (Addr × Obj)} {σ : St} {H : Hp} {s : Shared}
theorem Inv.two {h' : Heap} {d a : Addr} {o1 o2 : HO} {t' : Nat} (I : Inv X pins σ H s) (k : ∀ b u, s.heap.get? b = some u → h'.get? b = some u) (hd : s.heap.objs.size ≤ d) (ha : s.heap.objs.size ≤ a) (ne : d ≠ a)
    (n1 : ObjOk X.prog X.w (upd (upd H d o1) a o2) h' d o1) (n2 : ObjOk X.prog X.w (upd (upd H d o1) a o2) h' a o2) : Inv X pins σ (upd (upd H d o1) a o2) { s with heap := h', toks := t' } := by
  have fd := I.hok.fresh hd
  have fa := I.hok.fresh ha
  have od : ∀ {b : Addr} {u : Obj}, s.heap.get? b = some u → b ≠ d := fun q => Nat.ne_of_lt (Nat.lt_of_lt_of_le (Heap.lt_size q) hd)
  have oa : ∀ {b : Addr} {u : Obj}, s.heap.get? b = some u → b ≠ a := fun q => Nat.ne_of_lt (Nat.lt_of_lt_of_le (Heap.lt_size q) ha)
  have up : ∀ {b : Addr} {o : HO}, H b = some o → upd (upd H d o1) a o2 b = some o := fun q => by
    rw [upd_ne (ne_of_none q fa), upd_ne (ne_of_none q fd)]
    exact q
  refine I.un (t' := t') { keep := fun b u q _ _ _ => k b u q, slot := fun b u q _ _ _ => ⟨u.slots, k b u q⟩, free := fun b u q n _ => ?_, there := fun b u q _ => ⟨u, k b u q⟩, tups := fun b xs q => up q, frzs := fun b o xs q => up q, tbls := fun b ps q => ⟨#[], by rw [up q]; simp⟩ } fun b o q => ?_
  · rw [upd_ne (oa q), upd_ne (od q)]
    exact n
  · by_cases ea : b = a
    · rw [ea, upd_same] at q
      cases q
      rw [ea]
      exact n2
    · rw [upd_ne ea] at q
      by_cases ed : b = d
      · rw [ed, upd_same] at q
        cases q
        rw [ed]
        exact n1
      · rw [upd_ne ed] at q
        exact (I.hok b o q).stay (fun c u _ r => k c u r) (fun c r => up r) fun c xs r => up r
end
/-- what the written part says of an own exception class at C -/
structure Exk (K : PySem.W.Frag) (C : Addr) (bmB : List Value) (newId : String) : Prop where
  sto : PySem.Xv.Sto K C bmB
  ga : PySem.W.findIn K (.ref C) "__getattribute__" = some (some (.builtin "BaseException.__getattribute__"))
  gg : PySem.W.findIn K (.ref C) "__getattr__" = some none
  sub : PySem.W.subIn K (.ref C) (.type "BaseException") = some true
  cl : PySem.W.findIn K (.ref C) "__class__" = some (some (.builtin "object.__class__"))
  sg : PySem.W.specialIn K (.builtin "object.__class__") "__get__" = some (some (.builtin "getset_descriptor.__get__"))
  tk : PySem.W.takesIn K (.builtin "object.__class__") = some true
  mr : PySem.W.mroIn K C (.type "object") = some true
  cs : (PySem.W.clsIn K C).isSome = true
  kC : PySem.W.keepIn K (.ref C) = true
  ini : PySem.W.excInitIn K C bmB newId = true
/-- one built-in base -/
structure Bas (B newId initId : String) (bmB : List Value) : Prop where
  f : ExcBaseFacts B newId initId bmB
  s : StoreFacts B bmB "object.__setattr__" "object"
/-- a class with one field -/
structure One (K : PySem.W.Frag) (C : Addr) (bmB : List Value) (newId : String) (f : Str) : Prop where
  ex : Exk K C bmB newId
  ff : PySem.Xv.Field f
  no : PySem.W.findIn K (.ref C) f = some none
  tk : PySem.W.takerIn K C f = some none
  ini : ∃ (fI : Addr) (qual : Str) (oc doc pm cdv ct : Value) (od an : Option Addr) (osl : Array (Option Value)) (p1 p2 q1 q2 q3 q4 : Pos), PySem.W.findIn K (.ref C) "__init__" = some (some (.ref fI)) ∧ PySem.W.typeIn K (.ref fI) = some (.type "function") ∧
    K.lookup fI = some ⟨oc, od, .func (PySem.W.fnOf "__init__" qual (PySem.Xv.a1 f p1 p2) (PySem.Xv.b1 f q1 q2 q3 q4) (PySem.Xv.s1 f) .none .none doc pm an cdv ct), osl⟩ ∧ PySem.W.codeIn K cdv qual = true
structure Two (K : PySem.W.Frag) (C : Addr) (bmB : List Value) (newId : String) : Prop where
  ex : Exk K C bmB newId
  no1 : PySem.W.findIn K (.ref C) "mode" = some none
  tk1 : PySem.W.takerIn K C "mode" = some none
  no2 : PySem.W.findIn K (.ref C) "key" = some none
  tk2 : PySem.W.takerIn K C "key" = some none
  ini : ∃ (fI : Addr) (qual : Str) (oc doc pm cdv ct : Value) (od an : Option Addr) (osl : Array (Option Value)) (p1 p2 p3 q1 q2 q3 q4 r1 r2 r3 r4 : Pos), PySem.W.findIn K (.ref C) "__init__" = some (some (.ref fI)) ∧ PySem.W.typeIn K (.ref fI) = some (.type "function") ∧
    K.lookup fI = some ⟨oc, od, .func (PySem.W.fnOf "__init__" qual (PySem.Xv.a2 p1 p2 p3) (PySem.Xv.b2 q1 q2 q3 q4 r1 r2 r3 r4) PySem.Xv.s2 .none .none doc pm an cdv ct), osl⟩ ∧ PySem.W.codeIn K cdv qual = true
theorem relOne {v : V} {v' : Value} (r : RelV v v') (f g : Str) : RelO (List.lookup g [(f, v)]) (if g = f then some v' else none) := by
  by_cases e : g = f
  · subst e
    rw [if_pos rfl]
    have q : List.lookup g [(g, v)] = some v := by simp [List.lookup]
    rw [q]
    exact r
  · rw [if_neg e]
    have q : (g == f) = false := by simpa using e
    simp [List.lookup, q, RelO]
section
variable {X : Cx} {pins : List (Addr × Obj)} {σ : St} {H : Hp} {s : Shared} {C : Addr} {B newId initId : String} {bmB : List Value} {f : Str}
/-- C(y), C(f=y) -/
theorem run_one {rest : List Value} {kw : List (Str × Value)} {y : V} {u : Value} {Q : VK} (D : Bas B newId initId bmB) (T : One X.K C bmB newId f) (hr : Room 1 X.A) (I : Inv X pins σ H s) (ry : RelV y u)
    (ha : (rest = [u] ∧ kw = []) ∨ (rest = [] ∧ kw = [(f, u)])) (h : ∀ a d, H a = none → H d = none → d ≠ a → Q (.ref a) (upd (upd H d (exd d [(f, y)])) a (exo a C (some d)))) :
    wpAny (model X.prog X.w) X.A (call (.ref C) rest kw) (EP X pins σ Q) X.xe s := by
  obtain ⟨nm, N, qn, bs, bm, hdct, sn, sub, ab, col, dd, k0, k1, k2, k3, k5, hC, hT⟩ := PySem.W.excInit_of I.kIn T.ex.ini
  obtain ⟨fI, qual, oc, doc, pm, cdv, ct, od, an, osl, p1, p2, q1, q2, q3, q4, iC, tI, ho, hcd⟩ := T.ini
  have hlim := I.nolimit
  obtain ⟨hp, g, dr, tk, os⟩ := s
  have k : ∀ b o, hp.get? b = some o → ((hp.push (PySem.W.kdv_tup rest)).push (PySem.HandSPX.excO C hp.objs.size)).get? b = some o := fun b o e => Heap.get?_push_of_some _ (Heap.get?_push_of_some _ e)
  have hget : ((hp.push (PySem.W.kdv_tup rest)).push (PySem.HandSPX.excO C hp.objs.size)).get? (hp.objs.size + 1) = some (PySem.HandSPX.excO C hp.objs.size) := by heap_get
  have hl : rest.length ≤ sizeLine := by
    rcases ha with ⟨rfl, _⟩ | ⟨rfl, _⟩ <;> · rw [sizeLine_eq]; simp
  refine wpAny_call (PySem.Xv.made D.f hT hC (PySem.W.looks_findIn I.kIn iC) (fun self => PySem.W.bind_fn I.kIn self tI) hl ?_)
  refine PySem.Xv.init1 (x := hp.objs.size + 1) (t0 := hp.objs.size) (v := u) T.ff ho hcd ?_ D.s T.ex.sto T.tk (I.kIn.keeps k) (hlim.keeps k) hget ?_ fun h' tk' dx k' dn hx hns => ?_
  · rcases ha with ⟨rfl, rfl⟩ | ⟨rfl, rfl⟩ <;> rcases T.ff with rfl | rfl | rfl | rfl | rfl | rfl <;> exact .of_eq (by first | rfl | with_unfolding_all rfl)
  · rw [show (X.A.under _).depth = X.A.depth + 1 from by first | rfl | simp [Around.under, Code.weight, Code.isCreation, Code.isGuard, Code.isCaller, Code.frames, Code.isFrame, guardIds]]
    have := hr.dp
    omega
  · refine ⟨rfl, ?_⟩
    have sz : hp.objs.size + 1 + 1 ≤ dx := by
      have z := dn
      simpa only [Heap.size_push] using z
    have J := I.two (t' := tk') (d := dx) (a := hp.objs.size + 1) (o1 := exd dx [(f, y)]) (o2 := exo (hp.objs.size + 1) C (some dx)) (h' := h') (fun b o e => k' b o (Nat.ne_of_lt (Nat.lt_succ_of_lt (Heap.lt_size e))) (k b o e))
      (Nat.le_trans (Nat.le_trans (Nat.le_succ _) (Nat.le_succ _)) sz) (Nat.le_succ _) (Nat.ne_of_gt sz) (exd_ok hns (relOne ry f)) (exo_ok hx)
    exact ⟨.ref (hp.objs.size + 1), _, J, rfl, h _ _ (I.hok.fresh (Nat.le_succ _)) (I.hok.fresh (Nat.le_trans (Nat.le_trans (Nat.le_succ _) (Nat.le_succ _)) sz)) (Nat.ne_of_gt sz)⟩
end
end L2
end

section
set_option Elab.async false
set_option linter.all false
set_option maxRecDepth 100000
set_option maxHeartbeats 8000000
namespace L2
open PySem PySem.Spec PyProof.Rows
/-- a class without __init__ -/
structure Zero (K : PySem.W.Frag) (C : Addr) (bmB : List Value) (newId initId : String) : Prop where
  ex : Exk K C bmB newId
  ini : PySem.W.findIn K (.ref C) "__init__" = some (some (.builtin initId))
theorem relTwo {v1 v2 : V} {u1 u2 : Value} (r1 : RelV v1 u1) (r2 : RelV v2 u2) (g : Str) : RelO (List.lookup g [(("key" : Str), v2), ("mode", v1)]) (PySem.Xv.two u1 u2 g) := by
  unfold PySem.Xv.two
  rw [lookup_put]
  by_cases e : g = "key"
  · rw [if_pos e, if_pos e]
    exact r2
  · rw [if_neg e, if_neg e]
    exact relOne r1 "mode" g
theorem under_depth {A : Around} {C : Addr} {us : List Value} {kw : List (Str × Value)} : (A.under (.builtin "type.__call__" ⟨.ref C :: us, kw⟩)).depth = A.depth + 1 := by
  first | rfl | simp [Around.under, Code.weight, Code.isCreation, Code.isGuard, Code.isCaller, Code.frames, Code.isFrame, guardIds]
section
variable {X : Cx} {pins : List (Addr × Obj)} {σ : St} {H : Hp} {s : Shared} {C : Addr} {B newId initId : String} {bmB : List Value} {f : Str}
/-- C(y, z), C(key=z, mode=y) -/
theorem run_two {rest : List Value} {kw : List (Str × Value)} {y z : V} {u v : Value} {Q : VK} (D : Bas B newId initId bmB) (T : Two X.K C bmB newId) (hr : Room 1 X.A) (I : Inv X pins σ H s) (ry : RelV y u) (rz : RelV z v)
    (ha : (rest = [u, v] ∧ kw = []) ∨ (rest = [] ∧ kw = [(("key" : Str), v), (("mode" : Str), u)])) (h : ∀ a d, H a = none → H d = none → d ≠ a → Q (.ref a) (upd (upd H d (exd d [("key", z), ("mode", y)])) a (exo a C (some d)))) :
    wpAny (model X.prog X.w) X.A (call (.ref C) rest kw) (EP X pins σ Q) X.xe s := by
  obtain ⟨nm, N, qn, bs, bm, hdct, sn, sub, ab, col, dd, k0, k1, k2, k3, k5, hC, hT⟩ := PySem.W.excInit_of I.kIn T.ex.ini
  obtain ⟨fI, qual, oc, doc, pm, cdv, ct, od, an, osl, p1, p2, p3, q1, q2, q3, q4, r1, r2, r3, r4, iC, tI, ho, hcd⟩ := T.ini
  have hlim := I.nolimit
  obtain ⟨hp, g, dr, tk, os⟩ := s
  have k : ∀ b o, hp.get? b = some o → ((hp.push (PySem.W.kdv_tup rest)).push (PySem.HandSPX.excO C hp.objs.size)).get? b = some o := fun b o e => Heap.get?_push_of_some _ (Heap.get?_push_of_some _ e)
  have hget : ((hp.push (PySem.W.kdv_tup rest)).push (PySem.HandSPX.excO C hp.objs.size)).get? (hp.objs.size + 1) = some (PySem.HandSPX.excO C hp.objs.size) := by heap_get
  have hl : rest.length ≤ sizeLine := by
    rcases ha with ⟨rfl, _⟩ | ⟨rfl, _⟩ <;> · rw [sizeLine_eq]; simp
  have hnx : X.K.lookup (hp.objs.size + 1) = none := by
    cases e : X.K.lookup (hp.objs.size + 1) with
    | none => rfl
    | some o => exact absurd (Nat.lt_of_succ_lt (Heap.lt_size (I.kIn _ _ e))) (Nat.lt_irrefl _)
  refine wpAny_call (PySem.Xv.made D.f hT hC (PySem.W.looks_findIn I.kIn iC) (fun self => PySem.W.bind_fn I.kIn self tI) hl ?_)
  refine PySem.Xv.init2 (x := hp.objs.size + 1) (t0 := hp.objs.size) (v1 := u) (v2 := v) ho hcd ?_ D.s T.ex.sto T.tk1 T.tk2 (I.kIn.keeps k) (hlim.keeps k) hget hnx ?_ fun h' tk' dx k' dn hx hns => ?_
  · rcases ha with ⟨rfl, rfl⟩ | ⟨rfl, rfl⟩ <;> exact .of_eq (by first | rfl | with_unfolding_all rfl)
  · rw [under_depth]
    have := hr.dp
    omega
  · refine ⟨rfl, ?_⟩
    have sz : hp.objs.size + 1 + 1 ≤ dx := by
      have z := dn
      simpa only [Heap.size_push] using z
    have J := I.two (t' := tk') (d := dx) (a := hp.objs.size + 1) (o1 := exd dx [("key", z), ("mode", y)]) (o2 := exo (hp.objs.size + 1) C (some dx)) (h' := h') (fun b o e => k' b o (Nat.ne_of_lt (Nat.lt_succ_of_lt (Heap.lt_size e))) (k b o e))
      (Nat.le_trans (Nat.le_trans (Nat.le_succ _) (Nat.le_succ _)) sz) (Nat.le_succ _) (Nat.ne_of_gt sz) (exd_ok hns (relTwo ry rz)) (exo_ok hx)
    exact ⟨.ref (hp.objs.size + 1), _, J, rfl, h _ _ (I.hok.fresh (Nat.le_succ _)) (I.hok.fresh (Nat.le_trans (Nat.le_trans (Nat.le_succ _) (Nat.le_succ _)) sz)) (Nat.ne_of_gt sz)⟩
/-- C() -/
theorem run_zero {Q : VK} (D : Bas B newId initId bmB) (T : Zero X.K C bmB newId initId) (I : Inv X pins σ H s) (h : ∀ a, H a = none → Q (.ref a) (upd H a (exo a C none))) :
    wpAny (model X.prog X.w) X.A (call (.ref C) [] []) (EP X pins σ Q) X.xe s := by
  obtain ⟨nm, N, qn, bs, bm, hdct, sn, sub, ab, col, dd, k0, k1, k2, k3, k5, hC, hT⟩ := PySem.W.excInit_of I.kIn T.ex.ini
  obtain ⟨hp, g, dr, tk, os⟩ := s
  have k : ∀ b o, hp.get? b = some o → ((hp.push (PySem.W.kdv_tup [])).push (PySem.HandSPX.excO C hp.objs.size)).get? b = some o := fun b o e => Heap.get?_push_of_some _ (Heap.get?_push_of_some _ e)
  have hget : ((hp.push (PySem.W.kdv_tup [])).push (PySem.HandSPX.excO C hp.objs.size)).get? (hp.objs.size + 1) = some (PySem.HandSPX.excO C hp.objs.size) := by heap_get
  refine wpAny_call (PySem.Xv.made D.f hT hC (PySem.W.looks_findIn I.kIn T.ini) (fun self => by rw [D.f.init.bind self]; exact .now) (Nat.zero_le _) ?_)
  refine PySem.HandSPX.init_base D.f hT (k _ _ hC) hget (Nat.zero_le _) fun h' t1 k' hx => ?_
  refine ⟨rfl, ?_⟩
  have J := I.laid (t' := tk) (a := hp.objs.size + 1) (o := exo (hp.objs.size + 1) C none) (h' := h') (fun b o e => k' b o (Nat.ne_of_lt (Nat.lt_succ_of_lt (Heap.lt_size e))) (k b o e)) (Nat.le_succ _) (exo_ok hx)
  exact ⟨.ref (hp.objs.size + 1), _, J, rfl, h _ (I.hok.fresh (Nat.le_succ _))⟩
end
/-! ### the readings and the rules -/
def tMk1 (C : Addr) (f : Str) (ta : TA) : TE := fun σ H Q => ta σ H fun vs H1 => ∃ y, vs = [y] ∧ ∀ a d, H1 a = none → H1 d = none → d ≠ a → Q (.ref a) (upd (upd H1 d (exd d [(f, y)])) a (exo a C (some d)))
def tMk2 (C : Addr) (ta : TA) : TE := fun σ H Q => ta σ H fun vs H1 => ∃ y z, vs = [y, z] ∧ ∀ a d, H1 a = none → H1 d = none → d ≠ a → Q (.ref a) (upd (upd H1 d (exd d [("key", z), ("mode", y)])) a (exo a C (some d)))
def tMk2k (C : Addr) (ta : TA) : TE := fun σ H Q => ta σ H fun vs H1 => ∃ y z, vs = [z, y] ∧ ∀ a d, H1 a = none → H1 d = none → d ≠ a → Q (.ref a) (upd (upd H1 d (exd d [("key", z), ("mode", y)])) a (exo a C (some d)))
def tMk0 (C : Addr) : TE := fun σ H Q => ∀ a, H a = none → Q (.ref a) (upd H a (exo a C none))
section
variable {X : Cx} {C : Addr} {B newId initId : String} {bmB : List Value} {f x : Str} {e : Expr} {es : List Expr} {kws : List Keyword} {ta : TA} {p pos : Pos}
theorem pe_mk1 (D : Bas B newId initId bmB) (T : One X.K C bmB newId f) (hr : Room 1 X.A) (hm : X.mg x = some (.ref C)) (ha : PA X [e] ta) (hg : Gl X x := by rfl) (hdb : (x == ("__debug__" : Str)) = false := by decide)
    (he : starEach (e :: []) X.env = (false, eval e X.env) :: starEach [] X.env := by rfl) (hpl : (backTo pos (starEach [] X.env)).any (·.1) = false := by rfl) :
    PE X (.Call (.Name x p) [e] [] pos) (tMk1 C f ta) := by
  refine ⟨fun pins s σ H Q I h => ?_⟩
  refine wpAny_Call_Name_kw (ld_glob I hg hm ?_ hdb)
  refine PySem.W.callWith_K (h₀ := X.base) I.ok.mod.kin T.ex.kC (thn (ha.run pos pins s σ H _ I h) fun us s1 ⟨vs, H1, I1, r, y, ev, q⟩ => ⟨I1.kIn, ?_⟩) he hpl
  subst ev
  obtain ⟨u, rfl, ru⟩ := vals1 r
  exact run_one D T hr I1 ru (.inl ⟨rfl, rfl⟩) q
theorem pe_mk1k (D : Bas B newId initId bmB) (T : One X.K C bmB newId f) (hr : Room 1 X.A) (hm : X.mg x = some (.ref C)) (hkw : PK X kws ta) (hg : Gl X x := by rfl) (hdb : (x == ("__debug__" : Str)) = false := by decide)
    (hall : (backToKw pos (keywordEach kws X.env)).all (·.1.isSome) = true := by rfl) (hks : (backToKw pos (keywordEach kws X.env)).filterMap (·.1) = [f] := by rfl)
    (hpl : ((backTo pos (starEach [] X.env)).any (·.1) || (backToKw pos (keywordEach kws X.env)).any (·.1.isNone)) = false := by rfl) :
    PE X (.Call (.Name x p) [] kws pos) (tMk1 C f ta) := by
  refine ⟨fun pins s σ H Q I h => ?_⟩
  refine wpAny_Call_Name_kw (ld_glob I hg hm ?_ hdb)
  refine PySem.W.callWith_KW0 (h₀ := X.base) I.ok.mod.kin T.ex.kC hall (thn (hkw.run pos pins s σ H _ I h) fun us s1 ⟨vs, H1, I1, r, y, ev, q⟩ => ⟨I1.kIn, ?_⟩) hpl
  rw [hks]
  subst ev
  obtain ⟨u, rfl, ru⟩ := vals1 r
  exact run_one D T hr I1 ru (.inr ⟨rfl, rfl⟩) q
theorem pe_mk2 (D : Bas B newId initId bmB) (T : Two X.K C bmB newId) (hr : Room 1 X.A) (hm : X.mg x = some (.ref C)) (ha : PA X (e :: es) ta) (hg : Gl X x := by rfl) (hdb : (x == ("__debug__" : Str)) = false := by decide)
    (he : starEach (e :: es) X.env = (false, eval e X.env) :: starEach es X.env := by rfl) (hpl : (backTo pos (starEach es X.env)).any (·.1) = false := by rfl) :
    PE X (.Call (.Name x p) (e :: es) [] pos) (tMk2 C ta) := by
  refine ⟨fun pins s σ H Q I h => ?_⟩
  refine wpAny_Call_Name_kw (ld_glob I hg hm ?_ hdb)
  refine PySem.W.callWith_K (h₀ := X.base) I.ok.mod.kin T.ex.kC (thn (ha.run pos pins s σ H _ I h) fun us s1 ⟨vs, H1, I1, r, y, z, ev, q⟩ => ⟨I1.kIn, ?_⟩) he hpl
  subst ev
  obtain ⟨u, v, rfl, ru, rv⟩ := vals2 r
  exact run_two D T hr I1 ru rv (.inl ⟨rfl, rfl⟩) q
theorem pe_mk2k (D : Bas B newId initId bmB) (T : Two X.K C bmB newId) (hr : Room 1 X.A) (hm : X.mg x = some (.ref C)) (hkw : PK X kws ta) (hg : Gl X x := by rfl) (hdb : (x == ("__debug__" : Str)) = false := by decide)
    (hall : (backToKw pos (keywordEach kws X.env)).all (·.1.isSome) = true := by rfl) (hks : (backToKw pos (keywordEach kws X.env)).filterMap (·.1) = [("key" : Str), "mode"] := by rfl)
    (hpl : ((backTo pos (starEach [] X.env)).any (·.1) || (backToKw pos (keywordEach kws X.env)).any (·.1.isNone)) = false := by rfl) :
    PE X (.Call (.Name x p) [] kws pos) (tMk2k C ta) := by
  refine ⟨fun pins s σ H Q I h => ?_⟩
  refine wpAny_Call_Name_kw (ld_glob I hg hm ?_ hdb)
  refine PySem.W.callWith_KW0 (h₀ := X.base) I.ok.mod.kin T.ex.kC hall (thn (hkw.run pos pins s σ H _ I h) fun us s1 ⟨vs, H1, I1, r, y, z, ev, q⟩ => ⟨I1.kIn, ?_⟩) hpl
  rw [hks]
  subst ev
  obtain ⟨u, v, rfl, ru, rv⟩ := vals2 r
  exact run_two D T hr I1 rv ru (.inr ⟨rfl, rfl⟩) q
theorem pe_mk0 (D : Bas B newId initId bmB) (T : Zero X.K C bmB newId initId) (hm : X.mg x = some (.ref C)) (hg : Gl X x := by rfl) (hdb : (x == ("__debug__" : Str)) = false := by decide) :
    PE X (.Call (.Name x p) [] [] pos) (tMk0 C) := by
  refine ⟨fun pins s σ H Q I h => ?_⟩
  refine wpAny_Call_Name_kw (ld_glob I hg hm ?_ hdb)
  exact PySem.W.callWith_K0 I.kIn T.ex.kC (run_zero D T I h)
end
/-! ### a field read; isinstance -/
def tFx (K : PySem.W.Frag) (f : Str) (te : TE) : TE := fun σ H Q => te σ H fun x H1 => ∃ (a C d : Addr) (bmB : List Value) (newId : String) (fs : List (Str × V)) (v : V), x = .ref a ∧ Exk K C bmB newId ∧ PySem.W.findIn K (.ref C) f = some none ∧ H1 a = some (exo a C (some d)) ∧ H1 d = some (exd d fs) ∧ fs.lookup f = some v ∧ Q v H1
section
variable {X : Cx} {e : Expr} {te : TE} {f : Str} {pos : Pos}
theorem pe_fx (he : PE X e te) (hb : attributeBase e f X.env (eval e X.env) = eval e X.env := by rfl) : PE X (.Attribute e f pos) (tFx X.K f te) := by
  refine ⟨fun pins s σ H Q I h => ?_⟩
  refine attr_of hb (thn (he.run pins s σ H _ I h) fun u s1 ⟨x, H1, I1, rx, a, C, d, bmB, newId, fs, v, ex, T, no, ea, ed, l, q⟩ => ?_)
  subst ex
  obtain rfl : u = Value.ref a := rx
  obtain ⟨t1, ho⟩ := exo_at I1.hok ea
  obtain ⟨mA, hns, rel⟩ := exd_at I1.hok ed
  obtain ⟨od, hod, hl⟩ := lookIn_ns hns
  obtain ⟨w', hw, rw'⟩ := RelO.some_of (v := v) (o := mA f) (by rw [← l]; exact rel f)
  have J : PySem.W.InstAt s1.heap a _ C (some od) := ⟨ho, rfl, rfl, hod⟩
  exact PySem.HandSPX.exc_get I1.kIn J T.ga T.gg T.sub (PySem.W.findObj_own T.sto.hd no rfl (by rw [hl, hw])) (handed_of rw') ⟨v, H1, I1.tok _, rw', q⟩
/-- isinstance(e, c), e an exception of an own class -/
def rIsX (K : PySem.W.Frag) : List V → Hp → VK → Prop := fun xs H Q => ∃ (a C : Addr) (d : Option Addr) (fs : List (Str × V)) (bmB : List Value) (newId : String) (c : V) (u : Value) (b : Bool), xs = [.ref a, c] ∧ Exk K C bmB newId ∧ H a = some (exo a C d) ∧ (∀ dd, d = some dd → H dd = some (exd dd fs)) ∧ ClsV c u ∧ PySem.W.kitOne K (.ref C) u = some b ∧ Q (.bl b) H
theorem call_isX : CallR X (.builtin "isinstance") (rIsX X.K) := by
  intro pins s σ H xs us Q I r h
  obtain ⟨a, C, d, fs, bmB, newId, c, u, b, rfl, T, ea, ed, k, e, q⟩ := h
  obtain ⟨u1, u2, rfl, r1, r2⟩ := vals2 r
  have e2 := k.eq r2
  subst e2
  obtain rfl : u1 = Value.ref a := r1
  obtain ⟨t1, ho⟩ := exo_at I.hok ea
  have J : ∃ od, PySem.W.InstAt s.heap a { cls := .ref C, dict := d, data := .fields #[.ref t1, .none, .none, .none, .bool false, .none] } C od := by
    cases d with
    | none => exact ⟨none, ho, rfl, rfl, trivial⟩
    | some dd =>
      obtain ⟨mA, hns, rel⟩ := exd_at I.hok (ed dd rfl)
      obtain ⟨od, hod, hl⟩ := lookIn_ns hns
      exact ⟨some od, ho, rfl, rfl, hod⟩
  obtain ⟨od, J⟩ := J
  exact PySem.W.kia_one (PySem.W.kitx_exc (od := od) T.cs T.ga T.gg T.sub T.cl T.sg T.tk T.mr) I.kIn J e (fun z => nomatch z) fun tk => ⟨.bl b, H, I.tok tk, rfl, q⟩
end
end L2
end

section
set_option Elab.async false
set_option linter.all false
set_option maxRecDepth 100000
set_option maxHeartbeats 8000000
namespace L2
open PySem PySem.Spec PyProof.Rows
/-! ### defs that are called where nothing is being shown (repr asks it) -/
structure FnG (P : Program) (w : World) (K : PySem.W.Frag) (mg : Str → Option Value) (base : Heap) (CX : CXT) (k : Nat) (f : Addr) (fd : FuncData) (ps : List Str) (sp : Sp) : Prop where
  len : ∀ vs H Q E, sp vs H Q E → vs.length = ps.length
  run : ∀ (A : Around) (outer : List Env) (s : Shared) (H : Hp) (args : Args) (us : List Value) (vs : List V) (Q : VK) (E : XK), A.guards = some [] → Room k A → Env0 P w K mg base A outer s H → BindsTo s fd args (ps.zip us) → Vals vs us → sp vs H Q E →
    codeAny (model P w) A (.call (.ref f) args) (CR CX outer P w H s Q E) s
section
variable {P : Program} {w : World} {K : PySem.W.Frag} {mg : Str → Option Value} {base : Heap}
theorem Fun.okG {x qual : Str} {st : Stmt} {f : Addr} {fd : FuncData} {N ps : List Str} {k : Nat} {sp : Sp} (F : Fun K x qual st f fd) (S : FnScope N ps (defScope st)) (len : ∀ vs H Q E, sp vs H Q E → vs.length = ps.length)
    (hbody : ∀ (cdv : Value) (A : Around) (outer : List Env) (s : Shared) (H : Hp) (vs : List V) (Q : VK) (E : XK), A.guards = some [] → Room k (A.deeper (envOfC qual (defScope st) s.heap.objs.size f cdv)) → sp vs H Q E →
      ∃ t, PSs (cxOf CX0 P w K mg base N qual (defScope st) f cdv A outer s H E).nox (defBody st) t ∧ t { nx := fun _ H' => Q .non H', rt := Q } (start N vs) H) : FnG P w K mg base CX0 (k + 1) f fd ps sp := by
  obtain ⟨oc, od, kV, doc, pm, an, cdv, ct, osl, rfl, lk, hcd⟩ := F.ex
  refine ⟨len, fun A outer s H args us vs Q E hg hr e0 hb r hsp => ?_⟩
  have KX : K.In s.heap := e0.mod.kin.keeps fun b o e => (e0.bs b o e).1
  have lim : s.heap.NoLimit := e0.mod.nolimit.keeps fun b o e => (e0.bs b o e).1
  have kinds : ∀ y ∈ ps.zip us, (defScope st).names.lookup y.1 = some .local ∨ ((defScope st).names.lookup y.1 = some .cell ∧ ((cellsFrom (s.heap.objs.size + 1) (defScope st).names []).lookup y.1).isSome = true) := by
    rintro ⟨n, v⟩ hy
    exact (S.par n (List.of_mem_zip hy).1).imp id fun q => ⟨q, PySem.W.cellsFrom_some _ _ _ (.inl q)⟩
  refine codeAny_call_function hr.depth (KX _ _ lk) rfl S.co S.gen rfl (PySem.W.codeRec_of KX hcd) (hb _ _ _ _ (wpAny_newFunctionEnv_cells S.kind kinds fun env he s1 x => ?_))
  subst he
  obtain ⟨t, ht0, hq⟩ := hbody cdv A outer s H vs Q E hg (hr.deeper _) hsp
  have ht : PSs (cxOf CX0 P w K mg base N qual (defScope st) f cdv A outer s H E) (defBody st) t := ht0.nox
  have I : Inv (cxOf CX0 P w K mg base N qual (defScope st) f cdv A outer s H E) [] (start N vs) H s1 := inv_start S hr.hd e0 (len _ _ _ _ hsp) r x
  refine ⟨lim.keeps x.toInCall.keep, codeAny_func (wpAny_mono (ht.run [] s1 (start N vs) H _ I hq) (fun fl s' hs => ?_) fun e s' hs => hs)⟩
  cases fl with
  | ret u =>
    obtain ⟨v, σ', H', J, rv, q⟩ := hs
    exact ⟨v, H', J.os, J.bare, J.base, J.hok, rv, q⟩
  | next =>
    obtain ⟨σ', H', J, q⟩ := hs
    exact ⟨.non, H', J.os, J.bare, J.base, J.hok, rfl, q⟩
  | brk =>
    obtain ⟨_, _, _, q⟩ := hs
    exact q.elim
  | cont =>
    obtain ⟨_, _, _, q⟩ := hs
    exact q.elim
end
section
variable {X : Cx} {k : Nat} {f : Addr} {fd : FuncData} {ps : List Str} {sp : Sp} {E : XK} {x : Str} {p pos : Pos} {e : Expr} {es : List Expr} {t : TA}
theorem pe_callG (F : FnG X.prog X.w X.K X.mg X.base CX0 k f fd ps sp) (hgd : X.A.guards = some []) (hr : Room k X.A) (hg : Gl X x) (hm : X.mg x = some (.ref f)) (hk : PySem.W.keepIn X.K (.ref f) = true) (hb : Binds X.K fd ps [])
    (ha : PA X (e :: es) t) (hdb : (x == ("__debug__" : Str)) = false := by decide) (he : starEach (e :: es) X.env = (false, eval e X.env) :: starEach es X.env := by rfl) (hpl : (backTo pos (starEach es X.env)).any (·.1) = false := by rfl) :
    PE X (.Call (.Name x p) (e :: es) [] pos) (tCall sp [] E t) := by
  refine ⟨fun pins s σ H Q I h => ?_⟩
  refine wpAny_Call_Name_kw (ld_glob I hg hm ?_ hdb)
  refine PySem.W.callWith_K (h₀ := X.base) I.ok.mod.kin hk (thn (ha.run pos pins s σ H _ I h) fun us s1 ⟨vs, H1, I1, r, q⟩ => ⟨I1.kIn, ?_⟩) he hpl
  have q : sp vs H1 Q E := by
    have z : sp (vs ++ []) H1 Q E := q
    rw [List.append_nil] at z
    exact z
  have hl : us.length = ps.length := by rw [← r.length]; exact F.len _ _ _ _ q
  refine wpAny_call (codeAny_mono (F.run X.A X.stack s1 H1 ⟨us, []⟩ us vs Q E hgd hr I1.env0 (by have z := hb s1 us I1.kIn (by rw [List.append_nil]; exact hl); rw [List.append_nil] at z; exact z) r q) fun r s' hq => ?_)
  cases r with
  | error e => exact False.elim hq
  | ok fl =>
    cases fl with
    | ret u => exact I1.after hq
    | next => exact False.elim hq
    | brk => exact False.elim hq
    | cont => exact False.elim hq
end
/-! ### data with dicts of one text key: what it shows, that it equals itself -/
inductive Dq (K : PySem.W.Frag) (H : Hp) : V → PyData → Prop
  | pl {v : V} {d : PyData} (h : Dp K H v d) (n : d.hasDict = false) (sh : SeqAt.shaped d = true) (e : PyData.eqv d d = true) : Dq K H v d
  | d0 {a : Addr} (h : H a = some (.dK [])) : Dq K H (.ref a) (.dict [])
  | d1 {a : Addr} (h : H a = some (.dK [(.inr "a", .int 1)])) : Dq K H (.ref a) (.dict [(.str "a", .int 1)])
section
variable {X : Cx} {pins : List (Addr × Obj)} {σ : St} {H : Hp} {s : Shared}
theorem Dq.reads (I : Inv X pins σ H s) {v : V} {d : PyData} {u : Value} (q : Dq X.K H v d) (r : RelV v u) : ∃ as, Reads s.heap u d as ∧ (d.hasDict = true → sysModules ∉ as) := by
  cases q with
  | pl h n sh e =>
    obtain ⟨as, z⟩ := Dp.reads I d v u h r
    exact ⟨as, z, PyData.noDict_hsm n⟩
  | @d0 a h =>
    obtain rfl := (show u = Value.ref _ from r)
    obtain ⟨_, ns, vs, kv, o, es, ep, h1, h2, h3, _, h4, _⟩ := (show ObjOk X.prog X.w H s.heap _ (.dK []) from I.hok _ _ h)
    cases kv
    have e : es.toList = [] := by
      cases z : es.toList with
      | nil => rfl
      | cons x l => rw [z] at h4; cases h4
    have R : Reads s.heap (.ref a) (.dict []) (a :: [] ++ []) := Reads.dict h1 h2.1 h3 (by rw [e]; exact .nil) (by rw [e]; exact .nil)
    refine ⟨_, R, fun _ hm => ?_⟩
    have z : sysModules = a := by simpa using hm
    rw [← z] at ns
    simp at ns
  | @d1 a h =>
    obtain rfl := (show u = Value.ref _ from r)
    obtain ⟨_, ns, vs, kv, o, es, ep, h1, h2, h3, _, h4, _⟩ := (show ObjOk X.prog X.w H s.heap _ (.dK [(.inr "a", .int 1)]) from I.hok _ _ h)
    cases kv with
    | @cons _ q0 _ _ p t =>
      cases t
      obtain ⟨k0, w0⟩ := q0
      obtain ⟨p1, p2⟩ := p
      have p1' : (Sum.inr ("a" : Str) : Key) = k0 := p1
      subst p1'
      obtain ⟨t1, ew⟩ := (show ∃ t, w0 = Value.int 1 t from p2)
      cases z : es.toList with
      | nil => rw [z] at h4; cases h4
      | cons x l =>
        rw [z] at h4
        cases h4 with
        | cons i1 i2 i3 =>
          cases l with
          | cons _ _ => cases i3
          | nil =>
            rcases keyIs_shape (show keyIs (Sum.inr ("a" : Str)) x.key = true from i1) with ⟨_, _, q1, _⟩ | ⟨y, t2, q1, q2⟩
            · cases q1
            · cases q1
              have ev : x.val = Value.int 1 t1 := i2.trans ew
              have R : Reads s.heap (.ref a) (.dict [(.str "a", .int 1)]) (a :: ([] ++ []) ++ ([] ++ [])) := Reads.dict h1 h2.1 h3 (by rw [z]; show ReadsAll _ [x.key] _ _; rw [q2]; exact .cons (.str _ _) .nil) (by rw [z]; show ReadsAll _ [x.val] _ _; rw [ev]; exact .cons (.int _ _) .nil)
              refine ⟨_, R, fun _ hm => ?_⟩
              have z : sysModules = a := by simpa using hm
              rw [← z] at ns
              simp at ns
theorem SqT.same {K : PySem.W.Frag} {H H' : Hp} {a : Addr} {xs : List V} (e : Same H H') (h : SqT K H a xs) : SqT K H' a xs := by
  rcases h with (h | ⟨o, h⟩) | h
  · exact .inl (.inl (e _ _ h))
  · exact .inl (.inr ⟨o, e _ _ h⟩)
  · exact .inr h
mutual
theorem Dp.same {K : PySem.W.Frag} {H H' : Hp} (S : Same H H') : ∀ (d : PyData) (v : V), Dp K H v d → Dp K H' v d
  | .none, _, h => by cases h; exact .non
  | .bool b, _, h => by cases h; exact .bl b
  | .int i, _, h => by cases h; exact .int i
  | .str x, _, h => by cases h; exact .str x
  | .list ds, _, h => by
    cases h with
    | lst hs ha => exact .lst (S.seq hs) (Dp.sameAll S ds _ ha)
  | .tuple ds, _, h => by
    cases h with
    | tup hs ha => exact .tup (hs.same S) (Dp.sameAll S ds _ ha)
  | .dict _, _, h => by cases h
theorem Dp.sameAll {K : PySem.W.Frag} {H H' : Hp} (S : Same H H') : ∀ (ds : List PyData) (vs : List V), DpAll K H vs ds → DpAll K H' vs ds
  | [], _, h => by cases h; exact .nil
  | d :: ds, _, h => by
    cases h with
    | cons h1 h2 => exact .cons (Dp.same S d _ h1) (Dp.sameAll S ds _ h2)
end
theorem Dq.same {H' : Hp} {K : PySem.W.Frag} (S : Same H H') {v : V} {d : PyData} (q : Dq K H v d) : Dq K H' v d := by
  cases q with
  | pl h n sh e => exact .pl (Dp.same S d v h) n sh e
  | d0 h => exact .d0 (S _ _ h)
  | d1 h => exact .d1 (S _ _ h)
end
section
variable {X : Cx}
/-- repr(v), v data -/
def rRepr (K : PySem.W.Frag) : List V → Hp → VK → Prop := fun xs H Q => ∃ (v : V) (d : PyData), xs = [v] ∧ Dq K H v d ∧ d.showable = true ∧ d.depth ≤ 10 ∧ d.shown.length ≤ 1000 ∧ Q (.str d.shown) H
theorem call_repr (hgd : X.A.guards = some []) (hu : X.A.units + 64 < cLine) : CallR X (.builtin "repr") (rRepr X.K) := by
  intro pins s σ H xs us Q I r h
  obtain ⟨v, d, rfl, hd, hs, hdep, hsz, q⟩ := h
  obtain ⟨u, rfl, ru⟩ := vals1 r
  obtain ⟨as, R, hsm⟩ := hd.reads I ru
  have hz : d.shown.length ≤ sizeLine := by rw [sizeLine_eq]; omega
  have fin : ∀ t, Inv X pins σ H { s with toks := t } → EP X pins σ Q (.str d.shown s.toks) { s with toks := t } := fun t J => ⟨.str d.shown, H, J, ⟨_, rfl⟩, q⟩
  cases R with
  | none => exact PySem.P.repr_of_none (fin _ (I.tok _))
  | bool b =>
    exact PySem.P.repr_of_bool (by have z := fin _ (I.tok (s.toks + 1)); simp only [PyData.shown] at z; exact z)
  | int i t => exact PySem.P.repr_of_int (by simpa [PyData.showable] using hs) (by have z := fin _ (I.tok (s.toks + 1)); simp only [PyData.shown] at z; exact z)
  | str x t => exact PySem.P.repr_of_str (by have z := fin _ (I.tok (s.toks + 1)); simp only [PyData.shown] at z; exact z) (by simpa [PyData.shown] using hz)
  | list a1 a2 a3 a4 => exact repr_of_reads' (Reads.list a1 a2 a3 a4) hs hsm hgd (by omega) (fun _ _ e => e) (fun h' u tk hk => ⟨.str _, H, I.kept hk, ⟨_, rfl⟩, q⟩) hz
  | tuple a1 a2 a3 a4 => exact repr_of_reads' (Reads.tuple a1 a2 a3 a4) hs hsm hgd (by omega) (fun _ _ e => e) (fun h' u tk hk => ⟨.str _, H, I.kept hk, ⟨_, rfl⟩, q⟩) hz
  | dict a1 a2 a3 a4 a5 => exact repr_of_reads' (Reads.dict a1 a2 a3 a4 a5) hs hsm hgd (by omega) (fun _ _ e => e) (fun h' u tk hk => ⟨.str _, H, I.kept hk, ⟨_, rfl⟩, q⟩) hz
/-- v != v, v data -/
def rNeQ (K : PySem.W.Frag) : R2 := fun x y H Q => x = y ∧ (∃ d, Dq K H x d) ∧ Q (.bl false) H
theorem op_neQ (hu : X.A.units + 64 < cLine) : OpR X (compareOp .NotEq) (rNeQ X.K) := by
  intro pins s σ H x y v u Q I rx ry h
  obtain ⟨rfl, ⟨d, hd⟩, q⟩ := h
  have fin : EP X pins σ Q (.bool false) s := ⟨.bl false, H, I, rfl, q⟩
  cases hd with
  | pl hp n sh e =>
    obtain ⟨as, r1⟩ := Dp.reads I d x v hp rx
    obtain ⟨bs, r2⟩ := Dp.reads I d x u hp ry
    refine SeqAt.compareNe_shaped r1 r2 sh sh hu ?_
    rw [e]
    exact fin
  | d0 h =>
    obtain rfl := (show v = Value.ref _ from rx)
    obtain rfl := (show u = Value.ref _ from ry)
    obtain ⟨_, ns, vs, kv, da⟩ := (show ObjOk X.prog X.w H s.heap _ (.dK []) from I.hok _ _ h)
    cases kv
    exact PySem.W.keq_ne (knd := mixKind X.prog X.w) (r := true) ns ns da da (by omega) (fun _ => .nil) fin
  | d1 h =>
    obtain rfl := (show v = Value.ref _ from rx)
    obtain rfl := (show u = Value.ref _ from ry)
    obtain ⟨_, ns, vs, kv, da⟩ := (show ObjOk X.prog X.w H s.heap _ (.dK [(.inr "a", .int 1)]) from I.hok _ _ h)
    cases kv with
    | cons p t =>
      cases t
      refine PySem.W.keq_ne (knd := mixKind X.prog X.w) (r := true && true) ns ns da da (by omega) (fun _ => ?_) fin
      exact PySem.W.KeqHits.hit (y := _) (by simp [valueAt]) (SeqAt.EqAt.same _) .nil
end
end L2
end

section
set_option Elab.async false
set_option linter.all false
set_option maxRecDepth 100000
set_option maxHeartbeats 8000000
/-! The end of a law whose promise is kept where nothing is being shown. -/
namespace L2
open PySem PySem.Spec PyProof.Rows
section
variable {P : Program} {w : World} {K : PySem.W.Frag} {mg mb : Str → Option Value} {k : Nat} {fa a : Addr} {fd : FuncData} {x : Str} {sp : Sp} {s1 : Shared} {vs : List Value} {ns : List Int}
abbrev Came (s1 : Shared) (r : Result) (s' : Shared) : Prop := r = .ok (.ret (.bool true)) ∧ OldK s1.heap s'.heap ∧ s'.os = s1.os ∧ AllBare s'.gens
/-- from an abstract heap that holds the script at most -/
theorem lawRun (KX : K.In s1.heap) (hns : s1.heap.Ns mainGlobals mg) (hb : s1.heap.Ns builtinsNs mb) (hbb : ∀ x : Str, x ≠ "__name__" → mb x = bootBuiltins x) (hlim : s1.heap.NoLimit) (hg : s1.gens = #[])
    (ha : s1.heap.get? a = some { cls := .type "list", data := .seq vs.toArray }) (hr : Room k callerA)
    (F : ∀ base : Heap, K.In base → base.Ns mainGlobals mg → FnG P w K mg base CX0 k fa fd [x] sp) (hbind : ∀ (s : Shared) (u : Value), BindsTo s fd ⟨[u], []⟩ [(x, u)])
    (H : Hp) (hok : HOk P w H s1.heap) (one : ∀ b, H b = none ∨ (b = a ∧ K.lookup a = none ∧ ∃ o xs, H b = some (.frz o (.lst xs)))) (hsp : sp [.ref a] H (fun v _ => v = .bl true) fun _ _ _ => False) :
    codeAny (model P w) callerA (.call (.ref fa) ⟨[.ref a], []⟩) (Came s1) s1 := by
  have ofDict : ∀ {b : Addr} {o : Obj} {es : Array DictEntry} {ep : Nat}, s1.heap.get? b = some o → o.data = .dict es ep → H b = none := fun {b o es ep} e d => (one b).elim id fun ⟨z, _⟩ => by
    rw [z, ha] at e
    cases e
    cases (show Data.seq vs.toArray _ = Data.dict es ep from d)
  have ns' : ∀ {b : Addr} {m : Str → Option Value}, s1.heap.Ns b m → (hidT s1.heap H).Ns b m := fun ⟨o, es, ep, e, d, r⟩ => ⟨o, es, ep, hidT_get e (ofDict e d), d, r⟩
  have kin : K.In (hidT s1.heap H) := fun b o e => hidT_get (KX b o e) ((one b).elim id fun ⟨z, l, _⟩ => by rw [z, l] at e; cases e)
  have M : Mod K mg (hidT s1.heap H) := ⟨kin, ns' hns, ⟨mb, ns' hb, hbb⟩, let ⟨mc, h1, h2⟩ := hlim; ⟨mc, ns' h1, h2⟩⟩
  have E0 : Env0 P w K mg (hidT s1.heap H) callerA [] s1 H := ⟨rfl, M, fun b o e => of_hidT e, Nat.le_of_eq (hidT_size _ _), trivial, fun b hb => absurd (show b ∈ ([] : List Addr) from hb) (by simp), hok, .of_eq hg⟩
  refine codeAny_mono ((F _ kin (ns' hns)).run callerA [] s1 H ⟨[.ref a], []⟩ [.ref a] [.ref a] _ _ rfl hr E0 (hbind s1 (.ref a)) (.cons rfl .nil) hsp) fun r s' h => ?_
  cases r with
  | error e => exact False.elim h
  | ok fl => ?_
  cases fl with
  | next => exact False.elim h
  | brk => exact False.elim h
  | cont => exact False.elim h
  | ret u => ?_
  obtain ⟨v, H', os, bare, un, hok', rv, q⟩ := h
  cases (show v = .bl true from q)
  cases (show u = Value.bool true from rv)
  refine ⟨rfl, OldK.of_keep fun b o e => ?_, os, bare⟩
  rcases one b with z | ⟨_, _, ob, xs, z⟩
  · exact un.keep b o e z (by intro z; exact absurd (show b ∈ ([] : List Addr) from z) (by simp)) (by simp)
  · have e1 := (hok b _ z).1
    have e2 := (hok' b _ (un.frzs b ob _ z)).1
    rw [e] at e1
    cases e1
    exact e2
theorem lawCall (KX : K.In s1.heap) (hns : s1.heap.Ns mainGlobals mg) (hb : s1.heap.Ns builtinsNs mb) (hbb : ∀ x : Str, x ≠ "__name__" → mb x = bootBuiltins x) (hlim : s1.heap.NoLimit) (hg : s1.gens = #[])
    (ha : s1.heap.get? a = some { cls := .type "list", data := .seq vs.toArray }) (hi : IntsAre vs ns) (hl : ns.length ≤ sizeLine) (hr : Room k callerA)
    (F : ∀ base : Heap, K.In base → base.Ns mainGlobals mg → FnG P w K mg base CX0 k fa fd [x] sp) (hbind : ∀ (s : Shared) (u : Value), BindsTo s fd ⟨[u], []⟩ [(x, u)])
    (hsp : ∀ H : Hp, SqL K H a (ns.map V.int) → sp [.ref a] H (fun v _ => v = .bl true) fun _ _ _ => False) :
    codeAny (model P w) callerA (.call (.ref fa) ⟨[.ref a], []⟩) (Came s1) s1 := by
  have rv := vals_ints hi
  cases hk : K.lookup a with
  | some o =>
    have e := KX a o hk
    rw [ha] at e
    cases e
    exact lawRun KX hns hb hbb hlim hg ha hr F hbind (fun _ => none) (fun b u z => by cases (show (none : Option HO) = some u from z)) (fun _ => .inl rfl)
      (hsp _ (.inr ⟨_, vs.toArray, _, hk, rfl, rfl, rfl, by rw [List.size_toArray, hi.length]; exact hl, by simpa using rv⟩))
  | none =>
    have at1 : ∀ b, b = a → (fun b => if b = a then some (HO.frz { cls := .type "list", data := .seq vs.toArray } (.lst (ns.map V.int))) else none : Hp) b = some (.frz { cls := .type "list", data := .seq vs.toArray } (.lst (ns.map V.int))) := fun b e => if_pos e
    have at0 : ∀ b, b ≠ a → (fun b => if b = a then some (HO.frz { cls := .type "list", data := .seq vs.toArray } (.lst (ns.map V.int))) else none : Hp) b = none := fun b e => if_neg e
    refine lawRun KX hns hb hbb hlim hg ha hr F hbind (fun b => if b = a then some (HO.frz { cls := .type "list", data := .seq vs.toArray } (.lst (ns.map V.int))) else none : Hp) (fun b u z => ?_) (fun b => ?_) (hsp _ (.inl (.inr ⟨_, at1 a rfl⟩)))
    · by_cases e : b = a
      · rw [at1 b e] at z
        cases z
        subst e
        exact ⟨ha, by rw [List.length_map]; exact hl, vs, _, rv, ha⟩
      · rw [at0 b e] at z
        cases z
    · by_cases e : b = a
      · exact .inr ⟨e, hk, _, _, at1 b e⟩
      · exact .inl (at0 b e)
end
/-- the goal that k_head leaves, from such a promise -/
theorem walkG {l : PySem.W.OpenLaw} {n k : Nat} {q : Program} {loose : List Str} {XP : (Str → Option Value) → Heap → Prop} {YP : World → Heap → Prop} {d : DefRec} {K : Params → PySem.W.Frag} {sp : PySem.W.Frag → Sp} {x : Str}
    (hn : l.most = some n) (hn2 : n ≤ sizeLine) (hdf : d.params.defaults = []) (hr : Room k callerA) (hY : ∀ (w : World) (h : Heap), YP w h → (K w.params).In h)
    (F : ∀ (w : World) (mg : Str → Option Value) (fa : Addr) (h : Heap), (K w.params).In h → h.Ns mainGlobals mg → mg d.name = some (.ref fa) →
      ∃ fd : FuncData, (∀ (s : Shared) (u : Value), BindsTo s fd ⟨[u], []⟩ [(x, u)]) ∧ ∀ base : Heap, (K w.params).In base → base.Ns mainGlobals mg → FnG l.prog w (K w.params) mg base CX0 k fa fd [x] (sp (K w.params)))
    (hsp : ∀ (K : PySem.W.Frag) (H : Hp) (a : Addr) (ns : List Int), ns.length ≤ n → SqL K H a (ns.map V.int) → sp K [.ref a] H (fun v _ => v = .bl true) fun _ _ _ => False) :
    PySem.W.WalkO q loose XP YP l.row.toRowW d [] (fun f vs => PySem.call f vs) := by
  refine Att.attach_call hn hdf fun w s₀ s₁ mg mb fa o pm cd doc a vs ns G Y ho hd hcd hmg hobj hints hlen hg => ?_
  have KX := hY w _ Y
  obtain ⟨fd, hb, hF⟩ := F w mg fa _ KX G.T.g hmg
  exact lawCall KX G.T.g G.T.b G.T.builtins G.T.nolimit hg hobj hints (Nat.le_trans hlen hn2) hr hF hb fun H hS => hsp _ H a ns hlen hS
end L2
end

section
set_option Elab.async false
set_option linter.all false
set_option maxRecDepth 100000
set_option maxHeartbeats 4000000
/-! Words, signs, things that are picked from: what they are, what the defs promise of them. -/
namespace Pn
open PySem PySem.Spec PyProof.Rows L2
/-- one sign -/
def sg (c : Nat) : V := .str ⟨#[c]⟩
/-- what may be picked from: a list, a tuple, or a text sign by sign -/
def SeqV (K : PySem.W.Frag) (H : Hp) (y : V) (xs : List V) : Prop :=
  (∃ t, y = .ref t ∧ SqL K H t xs) ∨ (∃ z : PySem.Str, y = .str z ∧ z.length ≤ sizeLine ∧ xs = z.cps.toList.map sg)
def spPick2 (K : PySem.W.Frag) : Sp := fun vs H Q _ => ∃ (p c : Addr) (y : V) (ns : List Int) (n : Nat) (xs : List V), vs = [.ref p, y] ∧ PenAt H p c ns n ∧ n ≤ 1000000000 ∧ ns.length ≤ 63 ∧ SeqV K H y xs ∧ 0 < xs.length ∧ xs.length < 1073741824 ∧
  ∀ (x : V) (H' : Hp), x ∈ xs → But p H H' → PenAt H' p c ns (n + 1) → Q x H'
theorem SeqV.len {K : PySem.W.Frag} {H : Hp} {y : V} {xs : List V} (h : SeqV K H y xs) : LenV K y H xs.length := by
  rcases h with ⟨t, rfl, h⟩ | ⟨z, rfl, h, rfl⟩
  · exact .inl ⟨xs, h, rfl⟩
  · refine ⟨h, ?_⟩
    rw [List.length_map]
    rfl
theorem SeqV.but {K : PySem.W.Frag} {p : Addr} {H H' : Hp} {kvs : List (Key × V)} {y : V} {xs : List V} (h : SeqV K H y xs) (a : But p H H') (hp : H p = some (.dK kvs)) : SeqV K H' y xs := by
  rcases h with ⟨t, rfl, h⟩ | h
  · exact .inl ⟨t, rfl, a.lst hp h⟩
  · exact .inr h
theorem SeqV.ix {K : PySem.W.Frag} {H : Hp} {y : V} {xs : List V} {d : Int} {x : V} {Q : V → Hp → Prop} (h : SeqV K H y xs) (hx : atI xs d = some x) (q : Q x H) : rIx K y (.int d) H Q := by
  rcases h with ⟨t, rfl, h⟩ | ⟨z, rfl, h, rfl⟩
  · exact .inl ⟨t, xs, d, x, rfl, rfl, h, hx, q⟩
  · unfold atI at hx
    rw [List.length_map] at hx
    cases e : ixN z.cps.toList.length d with
    | none => rw [e] at hx; cases hx
    | some j =>
      rw [e] at hx
      rw [Option.bind_some, List.getElem?_map] at hx
      cases e2 : z.cps.toList[j]? with
      | none => rw [e2] at hx; cases hx
      | some c =>
        rw [e2] at hx
        cases hx
        exact .inr (.inr ⟨z, d, c, rfl, rfl, h, by unfold atI; rw [e, Option.bind_some, e2], q⟩)
/-- small letters -/
def Low (l : List Nat) : Prop := ∀ c ∈ l, 97 ≤ c ∧ c ≤ 122
theorem Low.nil : Low [] := fun c h => by cases h
theorem Low.app {a b : List Nat} (h : Low a) (g : Low b) : Low (a ++ b) := fun c m => (List.mem_append.mp m).elim (h c) (g c)
theorem Low.one {c : Nat} (h : 97 ≤ c ∧ c ≤ 122) : Low [c] := fun d m => by
  rcases List.mem_cons.mp m with rfl | m
  · exact h
  · cases m
theorem Low.drop {a : List Nat} (h : Low a) (n : Nat) : Low (a.drop n) := fun c m => h c (List.mem_of_mem_drop m)
theorem Low.take {a : List Nat} (h : Low a) (n : Nat) : Low (a.take n) := fun c m => h c (List.mem_of_mem_take m)
/-- a word -/
def Wd (z : PySem.Str) : Prop := 1 ≤ z.cps.toList.length ∧ z.cps.toList.length ≤ 8 ∧ Low z.cps.toList
theorem cps_app (a b : PySem.Str) : (a ++ b).cps.toList = a.cps.toList ++ b.cps.toList := by
  show (a.cps ++ b.cps).toList = _
  exact Array.toList_append
theorem lenL (a : PySem.Str) : a.length = a.cps.toList.length := rfl
theorem cps_cut (z : PySem.Str) (lo hi : Option Int) : (cutS z lo hi).cps.toList = (z.cps.toList.drop (HT.sIx z.length 0 lo)).take (HT.sIx z.length z.length hi - HT.sIx z.length 0 lo) := rfl
theorem Low.cut {z : PySem.Str} (h : Low z.cps.toList) (lo hi : Option Int) : Low (cutS z lo hi).cps.toList := by
  rw [cps_cut]
  exact (h.drop _).take _
theorem len_cut (z : PySem.Str) (lo hi : Option Int) : (cutS z lo hi).length = (cutS z lo hi).cps.toList.length := rfl
/-- what stands ahead of a place and what stands behind it are all of it -/
theorem cut_two (z : PySem.Str) (k : Nat) (h : k ≤ z.length) : (cutS z none (some (k : Int))).cps.toList.length + (cutS z (some (k : Int)) none).cps.toList.length = z.length := by
  rw [cps_cut, cps_cut, HT.sIx_none, HT.sIx_none, HT.sIx_nat, HT.sIx_nat, Nat.min_eq_left h, List.length_take, List.length_take, List.length_drop, List.length_drop, ← lenL]
  omega
/-- one of the small letters' text -/
def abc : PySem.Str := "abcdefghijklmnopqrstuvwxyz"
theorem abc_list : abc.cps.toList = (List.range 26).map (· + 97) := by decide +kernel
theorem abc_len : abc.length = 26 := by decide +kernel
theorem abc_low : Low abc.cps.toList := by
  rw [abc_list]
  intro c m
  obtain ⟨k, hk, rfl⟩ := List.mem_map.mp m
  have := List.mem_range.mp hk
  omega
theorem abc_at {d : Int} (h0 : 0 ≤ d) (h1 : d < 26) : ∃ c, atI abc.cps.toList d = some c ∧ 97 ≤ c ∧ c ≤ 122 := by
  obtain ⟨k, rfl⟩ := Int.eq_ofNat_of_zero_le h0
  have hk : k < abc.cps.toList.length := by have := abc_len; rw [lenL] at this; omega
  exact ⟨abc.cps.toList[k], atI_nat (List.getElem?_eq_getElem hk), abc_low _ (List.getElem_mem hk)⟩
theorem ones_sum : ∀ (ys : List PySem.Str), (∀ y ∈ ys, ∃ c, y = ⟨#[c]⟩ ∧ 97 ≤ c ∧ c ≤ 122) → (ys.map (fun y => y.length)).sum = ys.length
  | [], _ => rfl
  | y :: ys, h => by
    obtain ⟨c, rfl, hc⟩ := h _ (List.mem_cons_self ..)
    rw [List.map_cons, List.sum_cons, ones_sum ys (fun y m => h y (List.mem_cons_of_mem _ m)), List.length_cons]
    show 1 + ys.length = _
    omega
theorem PenAt.upd {H : Hp} {p c D : Addr} {ns : List Int} {n : Nat} {o : HO} (h : PenAt H p c ns n) (a : D ≠ p) (b : D ≠ c) : PenAt (L2.upd H D o) p c ns n := by
  obtain ⟨h1, s, r, h2, h3⟩ := h
  exact ⟨by rw [upd_ne b.symm]; exact h1, s, r, by rw [upd_ne a.symm]; exact h2, h3⟩
theorem PenAt.old {H : Hp} {p c D : Addr} {ns : List Int} {n : Nat} (h : PenAt H p c ns n) (a : H D = none) : D ≠ p ∧ D ≠ c := by
  obtain ⟨h1, s, r, h2, h3⟩ := h
  exact ⟨(fun z => by rw [z, h2] at a; cases a), (fun z => by rw [z, h1] at a; cases a)⟩
theorem But.fresh {p q : Addr} {H H' : Hp} {kvs : List (Key × V)} (a : But p H H') (hp : H' p = some (.dK kvs)) (h : H' q = none) : H q = none := by
  cases e : H q with
  | none => rfl
  | some o =>
    have ne : q ≠ p := fun z => by rw [z, hp] at h; cases h
    rw [a _ _ ne e] at h
    cases h
/-- the join of signs without anything between them -/
theorem glue_low : ∀ (ys : List PySem.Str) (acc : Array Nat), (∀ y ∈ ys, ∃ c, y = ⟨#[c]⟩ ∧ 97 ≤ c ∧ c ≤ 122) → Low acc.toList →
    (ys.foldl (fun acc p => acc ++ ("" : PySem.Str).cps ++ p.cps) acc).toList.length = acc.toList.length + ys.length ∧ Low (ys.foldl (fun acc p => acc ++ ("" : PySem.Str).cps ++ p.cps) acc).toList
  | [], acc, _, h => ⟨rfl, h⟩
  | y :: ys, acc, hy, h => by
    obtain ⟨c, rfl, hc⟩ := hy _ (List.mem_cons_self ..)
    have e : (acc ++ ("" : PySem.Str).cps ++ #[c]).toList = acc.toList ++ [c] := by
      have z : ("" : PySem.Str).cps = #[] := by decide +kernel
      rw [z, Array.toList_append, Array.toList_append]
      simp
    have r := glue_low ys (acc ++ ("" : PySem.Str).cps ++ #[c]) (fun y m => hy y (List.mem_cons_of_mem _ m)) (by rw [e]; exact h.app (Low.one hc))
    refine ⟨Eq.trans r.1 ?_, r.2⟩
    rw [e, List.length_append, List.length_cons, List.length_cons, List.length_nil]
    omega
/-- the join of signs without anything between them -/
theorem join_low (ys : List PySem.Str) (hy : ∀ y ∈ ys, ∃ c, y = ⟨#[c]⟩ ∧ 97 ≤ c ∧ c ≤ 122) : (Txt.join "" ys).cps.toList.length = ys.length ∧ Low (Txt.join "" ys).cps.toList := by
  cases ys with
  | nil => exact ⟨rfl, Low.nil⟩
  | cons y ys =>
    obtain ⟨c, rfl, hc⟩ := hy _ (List.mem_cons_self ..)
    have r := glue_low ys #[c] (fun y m => hy y (List.mem_cons_of_mem _ m)) (Low.one hc)
    refine ⟨Eq.trans r.1 ?_, r.2⟩
    show 1 + ys.length = _
    rw [List.length_cons]
    omega
end Pn
end

section
set_option Elab.async false
set_option linter.all false
set_option maxRecDepth 100000
set_option maxHeartbeats 4000000
namespace Pn
open PySem PySem.Spec PyProof.Rows L2
theorem g_cells {H : Hp} {p c : Addr} {s r : Int} (hp : H p = some (.dK (cs c s r))) : DGet H p (.str "cells") (some (.ref c)) := .k (k := .inr "cells") hp
theorem g_spot {H : Hp} {p c : Addr} {s r : Int} (hp : H p = some (.dK (cs c s r))) : DGet H p (.str "spot") (some (.int s)) := .k (k := .inr "spot") hp
theorem g_rest {H : Hp} {p c : Addr} {s r : Int} (hp : H p = some (.dK (cs c s r))) : DGet H p (.str "rest") (some (.int r)) := .k (k := .inr "rest") hp
theorem p_spot {H : Hp} {p c : Addr} {s r t : Int} (hp : H p = some (.dK (cs c s r))) : DPut H p (.str "spot") (.int t) (upd H p (.dK (cs c t r))) := .k (k := .inr "spot") hp (by show 3 < sizeLine; decide)
theorem p_rest {H : Hp} {p c : Addr} {s r t : Int} (hp : H p = some (.dK (cs c s r))) : DPut H p (.str "rest") (.int t) (upd H p (.dK (cs c s t))) := .k (k := .inr "rest") hp (by show 3 < sizeLine; decide)
theorem cut63 {ns : List Int} (h : ns.length ≤ 63) : cutV (ns.map V.int) none (some 63) = ns.map V.int := by
  have e : HT.sIx (ns.map V.int).length (ns.map V.int).length (some 63) = min 63 (ns.map V.int).length := HT.sIx_nat _ _ 63
  unfold cutV
  rw [HT.sIx_none, List.drop_zero, e, List.take_of_length_le (by rw [List.length_map]; omega)]
theorem fm (x : Int) {m : Int} (h : 0 < m) : 0 ≤ x.fmod m ∧ x.fmod m < m := by
  rw [Int.fmod_eq_emod_of_nonneg x (Int.le_of_lt h)]
  exact ⟨Int.emod_nonneg x (Int.ne_of_gt h), Int.emod_lt_of_pos x h⟩
theorem small64 (x : Int) {m : Int} (h : 0 < m) (h' : m ≤ 4294967296) : -(2 ^ 64) < x.fmod m ∧ x.fmod m < 2 ^ 64 := by
  have := fm x h
  exact ⟨by omega, by omega⟩
theorem item {xs : List V} {d : Int} (h0 : 0 ≤ d) (h1 : d < (xs.length : Int)) : ∃ x, atI xs d = some x ∧ x ∈ xs := by
  obtain ⟨k, rfl⟩ := Int.eq_ofNat_of_zero_le h0
  have hk : k < xs.length := by omega
  exact ⟨xs[k], atI_nat (List.getElem?_eq_getElem hk), List.getElem_mem hk⟩
theorem ints_dp {K : PySem.W.Frag} {H : Hp} : ∀ ns : List Int, DpAll K H (ns.map V.int) (ns.map PyData.int)
  | [] => .nil
  | n :: ns => .cons (.int n) (ints_dp ns)
mutual
theorem dp_map {K : PySem.W.Frag} {H H' : Hp} (f : ∀ a xs, SqL K H a xs → SqL K H' a xs) (g : ∀ a xs, SqT K H a xs → SqT K H' a xs) : ∀ (d : PyData) (v : V), Dp K H v d → Dp K H' v d
  | .none, _, h => by cases h; exact .non
  | .bool b, _, h => by cases h; exact .bl b
  | .int i, _, h => by cases h; exact .int i
  | .str x, _, h => by cases h; exact .str x
  | .list ds, _, h => by
    cases h with
    | lst hs ha => exact .lst (f _ _ hs) (dp_mapAll f g ds _ ha)
  | .tuple ds, _, h => by
    cases h with
    | tup hs ha => exact .tup (g _ _ hs) (dp_mapAll f g ds _ ha)
  | .dict _, _, h => by cases h
theorem dp_mapAll {K : PySem.W.Frag} {H H' : Hp} (f : ∀ a xs, SqL K H a xs → SqL K H' a xs) (g : ∀ a xs, SqT K H a xs → SqT K H' a xs) : ∀ (ds : List PyData) (vs : List V), DpAll K H vs ds → DpAll K H' vs ds
  | [], _, h => by cases h; exact .nil
  | d :: ds, _, h => by
    cases h with
    | cons h1 h2 => exact .cons (dp_map f g d _ h1) (dp_mapAll f g ds _ h2)
end
end Pn
namespace KP
open PySem PySem.Spec PyProof.Rows L2 Pn
def top (i : Nat) : Stmt := PySem.Challenge.pw_onestroke_k06_books_made.main.body.getD i (.Pass ⟨0, 0, 0, 0⟩)
abbrev sPen : Stmt := top 78
abbrev sDraw : Stmt := top 79
abbrev sPick : Stmt := top 80
abbrev sAny : Stmt := top 83
/-- the built-in names that the text reads stand as built-ins -/
structure Blt (mg : Str → Option Value) : Prop where
  list : mg "list" = none
  int : mg "int" = none
  len : mg "len" = none
  range : mg "range" = none
  repr : mg "repr" = none
  isi : mg "isinstance" = none
section
variable {P : Program} {w : World} {K : PySem.W.Frag} {mg : Str → Option Value} {base : Heap}
theorem scPen : FnScope ["_law_script"] ["_law_script"] (defScope sPen) := ⟨rfl, rfl, rfl, by decide +kernel, rfl, by decide +kernel, by decide +kernel⟩
theorem ok_pen {f : Addr} {fd : FuncData} (F : Fun K "_law_pen" "_law_pen" sPen f fd) (T : Blt mg) : FnOk P w K mg base CX0 1 f fd ["_law_script"] (spPen K) := by
  refine F.ok scPen (fun vs H Q E h => ?_) (fun cdv A outer s H vs Q E hr h => ?_)
  · obtain ⟨a, ns, rfl, _⟩ := h
    rfl
  · obtain ⟨a, ns, rfl, hS, hl, k⟩ := h
    refine ⟨_, pss_one (ps_ret (pe_disp (pps_cons pe_str (pe_callTy call_list_of (by rfl) T.list (by decide +kernel) (pa_cons (pe_slice sl_list (pv 0) po_none (po_some pe_int)) pa_nil)) (pps_cons pe_str pe_int (pps_cons pe_str pe_int pps_nil))) (by rfl) (by rfl) (fun z => by cases z) (by decide))), ?_⟩
    intro p hp
    have S0 : Same H (upd H p (.dK [])) := fun b o e => by rw [upd_ne (ne_of_none e hp)]; exact e
    refine ⟨_, rfl, 63, rfl, a, _, rfl, S0.seq hS, fun q hq => ⟨q, _, rfl, .inl (SqL.of upd_same), fun c hc => ?_⟩⟩
    have pq : p ≠ q := fun z => by rw [← z, upd_same] at hq; cases hq
    have hq0 : H q = none := by rw [upd_ne pq.symm] at hq; exact hq
    have qc : q ≠ c := fun z => by rw [← z, upd_same] at hc; cases hc
    have pc : p ≠ c := fun z => by rw [← z, upd_ne pq, upd_same] at hc; cases hc
    have hc0 : H c = none := by rw [upd_ne qc.symm, upd_ne pc.symm] at hc; exact hc
    refine ⟨by rw [upd_ne pc, upd_ne pq, upd_same], cs c 0 0, rfl, by show 3 ≤ 15; decide, ?_⟩
    refine k p c _ (fun b o e => ?_) hp ⟨?_, 0, 0, by rw [upd_same]; rfl, Int.le_refl _, Int.le_refl _⟩
    · rw [upd_ne (ne_of_none e hp), upd_ne (ne_of_none e hc0), upd_ne (ne_of_none e hq0), upd_ne (ne_of_none e hp)]
      exact e
    · rw [upd_ne pc.symm, upd_same, cut63 hl]
theorem scDraw : FnScope ["_law_pen_here", "_law_size", "_law_digit", "_law_spot", "_law_cell", "_law_mixed"] ["_law_pen_here", "_law_size"] (defScope sDraw) := ⟨rfl, rfl, rfl, by decide +kernel, rfl, by decide +kernel, by decide +kernel⟩
theorem ok_draw {f : Addr} {fd : FuncData} (F : Fun K "_law_draw" "_law_draw" sDraw f fd) (T : Blt mg) : FnOk P w K mg base CX0 1 f fd ["_law_pen_here", "_law_size"] spDraw := by
  refine F.ok scDraw (fun vs H Q E h => ?_) (fun cdv A outer s H vs Q E hr h => ?_)
  · obtain ⟨p, c, ns, n, size, rfl, _⟩ := h
    rfl
  · obtain ⟨p, c, ns, n, size, rfl, ⟨hc, sp0, r0, hp, h0, h1⟩, hn, hl, z0, z1, k⟩ := h
    have hu := hu_of hr
    have zs : size ≠ 0 ∧ size.natAbs < 1073741824 := ⟨by omega, by omega⟩
    have cp : c ≠ p := ne_of hc hp (by intro z; cases z)
    refine ⟨_, (pss_cons (ps_if (pt_cmpR op_ge (pe_dget hu (pv 0) pe_str (fun _ _ => rfl)) (pv 1) (nomark _)) (pss_cons (ps_set (i := 2) scDraw.nd rfl (Or.inl rfl) (pe_op op_modN (pe_callTy call_int1 (by rfl) T.int (by decide +kernel) (pa_cons (pe_dget hu (pv 0) pe_str (fun _ _ => rfl)) pa_nil)) (pv 1)))
        (pss_cons (ps_dput hu (pv 0) pe_str (pe_op op_fdivN (pe_dget hu (pv 0) pe_str (fun _ _ => rfl)) (pv 1)) rfl)
        (pss_one (ps_ret (pv 2))))) pss_nil)
      (pss_cons (ps_set (i := 3) scDraw.nd rfl (Or.inl rfl) (pe_dget hu (pv 0) pe_str (fun _ _ => rfl)))
      (pss_cons (ps_dput hu (pv 0) pe_str (pe_op op_add (pv 3) pe_int) rfl)
      (pss_cons (ps_set (i := 4) scDraw.nd rfl (Or.inl rfl) (pe_op op_add (pe_op op_mul pe_int (pv 3)) pe_int))
      (pss_cons (ps_if (pt_cmpR (op_neD hr.units) (pe_dget hu (pv 0) pe_str (fun _ _ => rfl)) (pe_lst pa_nil) (nomark _)) (pss_one (ps_set (i := 4) scDraw.nd rfl (Or.inl rfl) (pe_ix ix_list (pe_dget hu (pv 0) pe_str (fun _ _ => rfl)) (pe_op op_modN (pe_callTy call_int1 (by rfl) T.int (by decide +kernel) (pa_cons (pv 3) pa_nil)) (pe_callB call_len_seq (by rfl) T.len PySem.boot_len (pa_cons (pe_dget hu (pv 0) pe_str (fun _ _ => rfl)) pa_nil))) (fun _ _ => rfl)))) pss_nil)
      (pss_cons (ps_if (PW.pt (pw_and (pt_cmpR op_lt (pv 3) (pe_callB call_len_seq (by rfl) T.len PySem.boot_len (pa_cons (pe_dget hu (pv 0) pe_str (fun _ _ => rfl)) pa_nil)) (nomark _)) (pw_and1 (pt_cmpR op_ge (pv 4) (pe_op op_pow pe_int pe_int) (nomark _))))) (pss_cons (ps_dput hu (pv 0) pe_str (pe_op op_fdivN (pe_op op_sub (pv 4) (pe_op op_pow pe_int pe_int)) (pv 1)) rfl)
        (pss_one (ps_ret (pe_op op_modN (pe_callTy call_int1 (by rfl) T.int (by decide +kernel) (pa_cons (pe_op op_sub (pv 4) (pe_op op_pow pe_int pe_int)) pa_nil)) (pv 1))))) pss_nil)
      (pss_cons (ps_set (i := 5) scDraw.nd rfl (Or.inl rfl) (pe_op op_mul (pe_op op_modN (pe_callTy call_int1 (by rfl) T.int (by decide +kernel) (pa_cons (pv 4) pa_nil)) pe_int) pe_int))
      (pss_cons (ps_set (i := 5) scDraw.nd rfl (Or.inl rfl) (pe_op op_modN (pe_callTy call_int1 (by rfl) T.int (by decide +kernel) (pa_cons (pe_op op_add (pe_op op_add (pe_op op_add (pv 5) (pe_op op_mul (pe_op op_mul pe_int (pv 3)) (pv 3))) (pe_op op_mul pe_int (pv 3))) pe_int) pa_nil)) pe_int))
      (pss_cons (ps_set (i := 5) scDraw.nd rfl (Or.inl rfl) (pe_op op_modN (pe_callTy call_int1 (by rfl) T.int (by decide +kernel) (pa_cons (pe_op op_mul (pv 5) (pe_op op_add (pv 5) pe_int)) pa_nil)) pe_int))
      (pss_one (ps_ret (pe_op op_modN (pe_callTy call_int1 (by rfl) T.int (by decide +kernel) (pa_cons (pe_op op_fdivN (pe_op op_modN (pe_callTy call_int1 (by rfl) T.int (by decide +kernel) (pa_cons (pe_op op_add (pe_op op_mul (pv 5) (pv 5)) (pe_op op_mul pe_int (pv 5))) pa_nil)) pe_int) pe_int) pa_nil)) (pv 1))))))))))))), ?_⟩
    refine ⟨_, rfl, p, _, rfl, g_rest hp, _, rfl, r0, size, rfl, rfl, _, rfl, ?_⟩
    have ups : ∀ t, upd (upd H p (.dK (cs c t r0))) p (.dK (cs c t r0)) p = some (.dK (cs c t r0)) := fun t => upd_same
    refine ite2 (fun _ => ?_) (fun _ => ?_)
    · refine ⟨_, rfl, p, _, rfl, g_rest hp, .inl ⟨r0, rfl, _, rfl, _, _, rfl, rfl, zs.1, ?_⟩⟩
      refine ⟨_, rfl, p, _, rfl, g_rest hp, _, rfl, r0, size, rfl, rfl, zs, _, rfl, p, _, rfl, p_rest hp, _, rfl, ?_⟩
      have m := fm r0 z0
      exact k _ _ m.1 m.2 ((But.refl p H).upd _) ⟨by rw [upd_ne cp]; exact hc, sp0, _, upd_same, h0, by omega⟩
    · refine ⟨_, rfl, p, _, rfl, g_spot hp, ?_⟩
      refine ⟨_, rfl, sp0, 1, rfl, rfl, _, rfl, p, _, rfl, p_spot hp, ?_⟩
      refine ⟨_, rfl, 71, sp0, rfl, rfl, .inl ⟨by decide, by decide⟩, _, 43, rfl, rfl, ?_⟩
      have hp1 : upd H p (.dK (cs c (sp0 + 1) r0)) p = some (.dK (cs c (sp0 + 1) r0)) := upd_same
      have hc1 : upd H p (.dK (cs c (sp0 + 1) r0)) c = some (.lst (ns.map V.int)) := by rw [upd_ne cp]; exact hc
      have hB1 : But p H (upd H p (.dK (cs c (sp0 + 1) r0))) := (But.refl p H).upd _
      generalize upd H p (.dK (cs c (sp0 + 1) r0)) = H1 at hp1 hc1 hB1 ⊢
      generalize 71 * sp0 + 43 = cell
      refine ⟨_, rfl, p, _, rfl, g_cells hp1, Nat.zero_le _, fun q hq => ⟨_, _, .lst (SqL.of (by rw [upd_ne (ne_of_none hc1 hq)]; exact hc1)) (ints_dp ns), .lst (SqL.of upd_same) .nil, PySem.W.shaped_ints ns, rfl, _, rfl, ?_⟩⟩
      have hp2 : upd H1 q (.lst []) p = some (.dK (cs c (sp0 + 1) r0)) := by rw [upd_ne (ne_of_none hp1 hq)]; exact hp1
      have hc2 : upd H1 q (.lst []) c = some (.lst (ns.map V.int)) := by rw [upd_ne (ne_of_none hc1 hq)]; exact hc1
      have hB2 : But p H (upd H1 q (.lst [])) := hB1.new hq
      generalize upd H1 q (.lst []) = H2 at hp2 hc2 hB2 ⊢
      have fin : ∀ (d t : Int), 0 ≤ d → d < size → Q (.int d) H2 := fun d t a b => k d H2 a b hB2 ⟨hc2, sp0 + 1, r0, hp2, by omega, by omega⟩
      have fin2 : ∀ (d t : Int), 0 ≤ d → d < size → Q (.int d) (upd H2 p (.dK (cs c (sp0 + 1) t))) := fun d t a b => k d _ a b (hB2.upd _) ⟨by rw [upd_ne cp]; exact hc2, sp0 + 1, t, upd_same, by omega, by omega⟩
      have eqn : (!PyData.eqv (.list (ns.map PyData.int)) (.list [])) = !ns.isEmpty := by cases ns <;> rfl
      rw [eqn]
      refine ite2 (fun e => ?a) (fun _ => ?b)
      case' a =>
        have hl0 : (0 : Int) < (((ns.map V.int).length : Nat) : Int) := by
          cases ns with
          | nil => cases e
          | cons a b => simp
        have m := fm sp0 hl0
        obtain ⟨x, hx, hm⟩ := item (xs := ns.map V.int) m.1 m.2
        obtain ⟨z, _, rfl⟩ := List.mem_map.mp hm
        refine ⟨_, rfl, p, _, rfl, g_cells hp2, _, rfl, .inl ⟨sp0, rfl, _, rfl, p, _, rfl, g_cells hp2, c, _, rfl, .inl (SqL.of hc2), sp0, _, rfl, rfl, by omega, c, _, _, _, rfl, rfl, SqL.of hc2, hx, ?_⟩⟩
      all_goals refine ⟨_, rfl, _, rfl, p, _, rfl, g_cells hp2, c, _, rfl, .inl (SqL.of hc2), sp0, _, rfl, rfl, _, rfl, ?_⟩
      all_goals refine ite2 (fun _ => ⟨_, rfl, 10, 18, rfl, rfl, ⟨by decide, by decide, by decide⟩, _, _, rfl, rfl, _, rfl, ?_⟩) (fun _ => iteF ?_)
      case' a.refine_1 => refine ite2 (fun _ => ?x1) (fun _ => ?y1)
      case' b.refine_1 => refine ite2 (fun _ => ?x2) (fun _ => ?y2)
      case x1 | x2 =>
        refine ⟨_, rfl, 10, 18, rfl, rfl, ⟨by decide, by decide, by decide⟩, _, _, rfl, rfl, _, rfl, _, _, rfl, rfl, zs, _, rfl, p, _, rfl, p_rest hp2, ?_⟩
        refine ⟨_, rfl, 10, 18, rfl, rfl, ⟨by decide, by decide, by decide⟩, _, _, rfl, rfl, .inl ⟨_, rfl, _, rfl, _, _, rfl, rfl, zs.1, ?_⟩⟩
        exact fin2 _ _ (fm _ z0).1 (fm _ z0).2
      all_goals
        refine ⟨_, rfl, .inl ⟨_, rfl, _, _, rfl, rfl, (by decide : (2147483269 : Int) ≠ 0), _, 40177, rfl, rfl, .inr ⟨by decide, by decide⟩, ?_⟩⟩
        refine ⟨_, rfl, _, rfl, _, _, rfl, rfl, .inl ⟨by decide, by decide⟩, _, rfl, _, sp0, rfl, rfl, .inr ⟨by omega, by omega⟩, _, _, rfl, rfl, _, rfl, _, _, rfl, rfl, .inl ⟨by decide, by decide⟩, _, _, rfl, rfl, _, _, rfl, rfl, .inl ⟨_, rfl, _, _, rfl, rfl, (by decide : (2147483323 : Int) ≠ 0), ?_⟩⟩
        refine ⟨_, rfl, _, rfl, _, _, rfl, rfl, _, _, rfl, rfl, .inl (small64 _ (by decide) (by decide)), .inl ⟨_, rfl, _, _, rfl, rfl, (by decide : (2147483353 : Int) ≠ 0), ?_⟩⟩
        refine ⟨_, rfl, _, rfl, _, _, rfl, rfl, .inl (small64 _ (by decide) (by decide)), _, rfl, _, _, rfl, rfl, .inl ⟨by decide, by decide⟩, _, _, rfl, rfl, .inl ⟨_, rfl, _, _, rfl, rfl, (by decide : (2147483399 : Int) ≠ 0), _, _, rfl, rfl, ⟨by decide, by decide⟩, .inl ⟨_, rfl, _, rfl, _, _, rfl, rfl, zs.1, ?_⟩⟩⟩
        exact fin _ 0 (fm _ z0).1 (fm _ z0).2
structure Fn (K : PySem.W.Frag) (mg : Str → Option Value) (nm : Str) (f : Addr) : Prop where
  g : mg nm = some (.ref f)
  k : PySem.W.keepIn K (.ref f) = true
theorem scPick : FnScope ["_law_pen_here", "_law_items_here"] ["_law_pen_here", "_law_items_here"] (defScope sPick) := ⟨rfl, rfl, rfl, by decide +kernel, rfl, by decide +kernel, by decide +kernel⟩
theorem ok_pick {f fD : Addr} {fd fdD : FuncData} (F : Fun K "_law_pick" "_law_pick" sPick f fd) (T : Blt mg) (FD : Fun K "_law_draw" "_law_draw" sDraw fD fdD) (bD : Binds K fdD ["_law_pen_here", "_law_size"] []) (gD : Fn K mg "_law_draw" fD) :
    FnOk P w K mg base CX0 2 f fd ["_law_pen_here", "_law_items_here"] (spPick2 K) := by
  have GD : FnOk P w K mg base CX0 1 fD fdD ["_law_pen_here", "_law_size"] spDraw := ok_draw FD T
  refine F.ok scPick (fun vs H Q E h => ?_) (fun cdv A outer s H vs Q E hr h => ?_)
  · obtain ⟨p, c, t, ns, n, xs, rfl, _⟩ := h
    rfl
  · obtain ⟨p, c, t, ns, n, xs, rfl, hP, hn, hl, hS, x0, x1, k⟩ := h
    have hr1 : Room 1 _ := hr
    refine ⟨_, (pss_one (ps_ret (pe_ix ix_seq (pv 1) (pe_call GD hr1 rfl gD.g gD.k bD .nil pass0 (pa_cons (pv 0) (pa_cons (pe_callB call_len (by rfl) T.len PySem.boot_len (pa_cons (pv 1) pa_nil)) pa_nil))) (fun _ _ => rfl)))), ?_⟩
    refine ⟨_, rfl, _, rfl, _, rfl, t, _, rfl, hS.len, p, c, ns, n, _, rfl, hP, hn, hl, by omega, by omega, fun d H' a b hB hP' => ?_⟩
    obtain ⟨x, hx, hm⟩ := item (xs := xs) a b
    obtain ⟨kvs, hp⟩ := hP.at
    exact (hS.but hB hp).ix hx (k x H' hm hB hP')
/-- data that is shown in few signs -/
def sm1 : PyData → Bool
  | .str z => decide (z.length ≤ 1000)
  | _ => true
def smal : PyData → Bool
  | .tuple [a, b] => sm1 a && sm1 b
  | _ => true
/-- a tuple is at hand -/
def TrX (K : PySem.W.Frag) (H : Hp) (x : V) (d : PyData) : Prop := smal d = true ∧ ∀ ds, d = .tuple ds → ∃ a xs, x = .ref a ∧ H a = some (.tup xs) ∧ DpAll K H xs ds ∧ xs.length ≤ 1000
theorem TrX.map {H H' : Hp} {x : V} {d : PyData} (f : ∀ a xs, SqL K H a xs → SqL K H' a xs) (g : ∀ a xs, SqT K H a xs → SqT K H' a xs) (h : ∀ a xs, H a = some (.tup xs) → H' a = some (.tup xs)) (t : TrX K H x d) : TrX K H' x d :=
  ⟨t.1, fun ds e => let ⟨a, xs, e1, e2, e3, e4⟩ := t.2 ds e; ⟨a, xs, e1, h _ _ e2, dp_mapAll f g ds _ e3, e4⟩⟩
theorem TrX.same {H H' : Hp} {x : V} {d : PyData} (S : Same H H') (t : TrX K H x d) : TrX K H' x d := t.map (fun _ _ h => S.seq h) (fun _ _ h => SqT.same S h) (fun _ _ h => S _ _ h)
def Good (K : PySem.W.Frag) (H : Hp) (x : V) : Prop := ∃ d : PyData, Dq K H x d ∧ d.showable = true ∧ d.depth ≤ 10 ∧ d.shown.length ≤ 1000 ∧ PyData.strOk d.shown = true ∧ TrX K H x d
theorem Good.same {H H' : Hp} {x : V} (S : Same H H') (g : Good K H x) : Good K H' x := let ⟨d, q, a, b, c, e, t⟩ := g; ⟨d, q.same S, a, b, c, e, t.same S⟩
def All (K : PySem.W.Frag) (H : Hp) (xs : List V) : Prop := ∀ x ∈ xs, Good K H x
theorem All.same {H H' : Hp} {xs : List V} (S : Same H H') (g : All K H xs) : All K H' xs := fun x h => (g x h).same S
theorem All.nil {H : Hp} : All K H [] := fun x h => by cases h
theorem All.cons {H : Hp} {x : V} {xs : List V} (g : Good K H x) (h : All K H xs) : All K H (x :: xs) := fun y m => by
  rcases List.mem_cons.mp m with rfl | m
  · exact g
  · exact h y m
theorem All.app {H : Hp} {xs ys : List V} (g : All K H xs) (h : All K H ys) : All K H (xs ++ ys) := fun y m => (List.mem_append.mp m).elim (g y) (h y)
theorem plain {H : Hp} {x : V} {d : PyData} (h : Dp K H x d) (n : d.hasDict = false) (sh : SeqAt.shaped d = true) (e : PyData.eqv d d = true) (s : d.showable = true) (z : d.depth ≤ 10) (l : d.shown.length ≤ 1000) (o : PyData.strOk d.shown = true) (t : TrX K H x d) : Good K H x := ⟨d, .pl h n sh e, s, z, l, o, t⟩
def spAny (K : PySem.W.Frag) : Sp := fun vs H Q _ => ∃ (p c : Addr) (ns : List Int) (n : Nat), vs = [.ref p] ∧ PenAt H p c ns n ∧ n ≤ 1000000000 ∧ ns.length ≤ 63 ∧
  ∀ (x : V) (H' : Hp), Good K H' x → (∀ z, x = .str z → z.length ≤ 1000 ∧ PyData.strOk z = true) → But p H H' → PenAt H' p c ns (n + 1) → Q x H'
theorem Good.but {H H' : Hp} {p c : Addr} {ns : List Int} {n : Nat} {x : V} (hP : PenAt H p c ns n) (B : But p H H') (g : Good K H x) : Good K H' x := by
  obtain ⟨d, q, r1, r2, r3, r4, tr⟩ := g
  obtain ⟨_, s, t, hp, _⟩ := hP
  refine ⟨d, ?_, r1, r2, r3, r4, tr.map (fun _ _ z => B.lst hp z) (fun _ _ z => B.tup hp z) (fun _ _ z => B _ _ (ne_of z hp (by intro z; cases z)) z)⟩
  cases q with
  | pl h n sh e => exact .pl (dp_map (fun _ _ z => B.lst hp z) (fun _ _ z => B.tup hp z) d x h) n sh e
  | d0 h => exact .d0 (B _ _ (ne_of h hp (by intro z; cases z)) h)
  | d1 h => exact .d1 (B _ _ (ne_of h hp (by intro z; cases z)) h)
/-- while the values are made: what stood stands, the pen, the first values at l, those that are made so far -/
structure Mk1 (K : PySem.W.Frag) (H0 Hk : Hp) (p c : Addr) (ns : List Int) (n : Nat) (l : Addr) (fs acc : List V) : Prop where
  S : Same H0 Hk
  P : PenAt Hk p c ns n
  L : Hk l = some (.lst fs)
  A : All K Hk acc
theorem same_new {H : Hp} {q : Addr} {o : HO} (h : H q = none) : Same H (upd H q o) := fun b u e => by
  rw [upd_ne (ne_of_none e h)]
  exact e
theorem Mk1.new {H0 Hk : Hp} {p c : Addr} {ns : List Int} {n : Nat} {l : Addr} {fs acc : List V} {q : Addr} (m : Mk1 K H0 Hk p c ns n l fs acc) (h : Hk q = none) (o : HO) : Mk1 K H0 (upd Hk q o) p c ns n l fs acc :=
  ⟨m.S.trans (same_new h), m.P.same (same_new h), same_new h _ _ m.L, m.A.same (same_new h)⟩
theorem Mk1.add {H0 Hk : Hp} {p c : Addr} {ns : List Int} {n : Nat} {l : Addr} {fs acc : List V} {x : V} (m : Mk1 K H0 Hk p c ns n l fs acc) (g : Good K Hk x) : Mk1 K H0 Hk p c ns n l fs (acc ++ [x]) :=
  ⟨m.S, m.P, m.L, m.A.app (.cons g .nil)⟩
theorem Mk1.put {H0 Hk : Hp} {p c : Addr} {ns : List Int} {n : Nat} {l : Addr} {fs acc : List V} {q : Addr} (m : Mk1 K H0 Hk p c ns n l fs acc) (h : Hk q = none) (o : HO) (g : Good K (upd Hk q o) (.ref q)) : Mk1 K H0 (upd Hk q o) p c ns n l fs (acc ++ [.ref q]) := (m.new h o).add g
theorem good_d {H : Hp} {x : V} {d : PyData} (a : Dp K H x d) (n : d.hasDict = false := by decide +kernel) (sh : SeqAt.shaped d = true := by decide +kernel) (e : PyData.eqv d d = true := by decide +kernel)
    (s : d.showable = true := by decide +kernel) (z : d.depth ≤ 10 := by decide +kernel) (l : d.shown.length ≤ 1000 := by decide +kernel) (o : PyData.strOk d.shown = true := by decide +kernel) (t : TrX K H x d := by exact ⟨by decide +kernel, fun ds e => by cases e⟩) : Good K H x := plain a n sh e s z l o t
theorem good_t {H : Hp} {q : Addr} {xs : List V} {ds : List PyData} (h : H q = some (.tup xs)) (a : DpAll K H xs ds) (n : (PyData.tuple ds).hasDict = false := by decide +kernel) (sh : SeqAt.shaped (.tuple ds) = true := by decide +kernel) (e : PyData.eqv (.tuple ds) (.tuple ds) = true := by decide +kernel)
    (s : (PyData.tuple ds).showable = true := by decide +kernel) (z : (PyData.tuple ds).depth ≤ 10 := by decide +kernel) (l : (PyData.tuple ds).shown.length ≤ 1000 := by decide +kernel) (o : PyData.strOk (PyData.tuple ds).shown = true := by decide +kernel) (m : smal (PyData.tuple ds) = true := by decide +kernel) (lx : xs.length ≤ 1000 := by decide) : Good K H (.ref q) := plain (.tup (SqT.of h) a) n sh e s z l o ⟨m, fun ds' e' => by cases e'; exact ⟨q, xs, rfl, h, a, lx⟩⟩
theorem good_l {H : Hp} {q : Addr} {xs : List V} {ds : List PyData} (h : H q = some (.lst xs)) (a : DpAll K H xs ds) (n : (PyData.list ds).hasDict = false := by decide +kernel) (sh : SeqAt.shaped (.list ds) = true := by decide +kernel) (e : PyData.eqv (.list ds) (.list ds) = true := by decide +kernel)
    (s : (PyData.list ds).showable = true := by decide +kernel) (z : (PyData.list ds).depth ≤ 10 := by decide +kernel) (l : (PyData.list ds).shown.length ≤ 1000 := by decide +kernel) (o : PyData.strOk (PyData.list ds).shown = true := by decide +kernel) : Good K H (.ref q) := plain (.lst (SqL.of h) a) n sh e s z l o ⟨rfl, fun ds' e' => by cases e'⟩
def first17 : List V := [.non, .bl true, .bl false, .int 0, .int 1, .int 2, .int 3, .int (-1), .int (10 ^ (9 : Int).toNat), .int (10 ^ (9 : Int).toNat + 1), .str "", .str "a", .str "A", .str "ab", .str "abcdefghi", .str "a b", .str "!a"]
theorem good17 {H : Hp} : All K H first17 :=
  .cons (good_d .non) (.cons (good_d (.bl true)) (.cons (good_d (.bl false)) (.cons (good_d (.int 0)) (.cons (good_d (.int 1)) (.cons (good_d (.int 2)) (.cons (good_d (.int 3)) (.cons (good_d (.int (-1)))
  (.cons (good_d (.int (10 ^ (9 : Int).toNat))) (.cons (good_d (.int (10 ^ (9 : Int).toNat + 1))) (.cons (good_d (.str "")) (.cons (good_d (.str "a")) (.cons (good_d (.str "A")) (.cons (good_d (.str "ab")) (.cons (good_d (.str "abcdefghi")) (.cons (good_d (.str "a b")) (.cons (good_d (.str "!a")) .nil))))))))))))))))
theorem s17 (z : PySem.Str) (h : V.str z ∈ first17) : z.length ≤ 1000 ∧ PyData.strOk z = true := by
  unfold first17 at h
  simp only [List.mem_cons, List.not_mem_nil, or_false, V.str.injEq, reduceCtorEq, false_or] at h
  rcases h with rfl | rfl | rfl | rfl | rfl | rfl | rfl <;> exact ⟨by decide +kernel, by decide +kernel⟩
theorem scAny : FnScope ["_law_pen_here", "_law_some"] ["_law_pen_here"] (defScope sAny) := ⟨rfl, rfl, rfl, by decide +kernel, rfl, by decide +kernel, by decide +kernel⟩
theorem ok_any {f fP fD : Addr} {fd fdP fdD : FuncData} (F : Fun K "_law_any_value" "_law_any_value" sAny f fd) (T : Blt mg) (FD : Fun K "_law_draw" "_law_draw" sDraw fD fdD) (bD : Binds K fdD ["_law_pen_here", "_law_size"] []) (gD : Fn K mg "_law_draw" fD)
    (FP : Fun K "_law_pick" "_law_pick" sPick fP fdP) (bP : Binds K fdP ["_law_pen_here", "_law_items_here"] []) (gP : Fn K mg "_law_pick" fP) : FnOk P w K mg base CX0 3 f fd ["_law_pen_here"] (spAny K) := by
  have GP : FnOk P w K mg base CX0 2 fP fdP ["_law_pen_here", "_law_items_here"] (spPick2 K) := ok_pick FP T FD bD gD
  refine F.ok scAny (fun vs H Q E h => ?_) (fun cdv A outer s H vs Q E hr h => ?_)
  · obtain ⟨p, c, ns, n, rfl, _⟩ := h
    rfl
  · obtain ⟨p, c, ns, n, rfl, hP, hn, hl, k⟩ := h
    have hr1 : Room 2 _ := hr
    refine ⟨_, (pss_cons (ps_set (i := 1) scAny.nd rfl (Or.inl rfl) (pe_lst (pa_cons pe_non (pa_cons pe_bl (pa_cons pe_bl (pa_cons pe_int (pa_cons pe_int (pa_cons pe_int (pa_cons pe_int (pa_cons (pe_un un_neg pe_int) (pa_cons (pe_op op_pow pe_int pe_int) (pa_cons (pe_op op_add (pe_op op_pow pe_int pe_int) pe_int) (pa_cons pe_str (pa_cons pe_str (pa_cons pe_str (pa_cons pe_str (pa_cons pe_str (pa_cons pe_str (pa_cons pe_str pa_nil)))))))))))))))))))
      (pss_cons (ps_set (i := 1) scAny.nd rfl (Or.inl rfl) (pe_op op_cat (pv 1) (pe_lst (pa_cons (pe_tup pa_nil) (pa_cons (pe_tup (pa_cons pe_str pa_nil)) (pa_cons (pe_lst pa_nil) (pa_cons (pe_lst (pa_cons pe_str pa_nil)) (pa_cons (pe_lst (pa_cons pe_int pa_nil)) (pa_cons pe_dnewK (pa_cons (pe_disp (pps_cons pe_str pe_int pps_nil) (by rfl) (by rfl) (fun z => by cases z) (by decide)) (pa_cons (pe_tup (pa_cons pe_int (pa_cons pe_int pa_nil))) (pa_cons (pe_tup (pa_cons pe_str (pa_cons pe_str pa_nil))) (pa_cons (pe_tup (pa_cons pe_non pa_nil)) (pa_cons (pe_tup (pa_cons pe_str (pa_cons pe_int pa_nil))) (pa_cons (pe_lst (pa_cons (pe_lst (pa_cons pe_str pa_nil)) pa_nil)) (pa_cons pe_str pa_nil))))))))))))))))
      (pss_one (ps_ret (pe_call GP hr1 rfl gP.g gP.k bP .nil pass0 (pa_cons (pv 0) (pa_cons (pv 1) pa_nil))))))), ?_⟩
    refine ⟨1, rfl, 10, 9, rfl, rfl, ⟨by decide, by decide, by decide⟩, 10, 9, rfl, rfl, ⟨by decide, by decide, by decide⟩, _, _, rfl, rfl, (by show 17 ≤ sizeLine; decide), fun l hl0 => ?_⟩
    have m0 : Mk1 K H (upd H l (.lst first17)) p c ns n l first17 [] := ⟨same_new hl0, hP.same (same_new hl0), upd_same, .nil⟩
    refine ⟨_, rfl, Nat.zero_le _, fun a1 h1 => ?_⟩
    have m1 := m0.put h1 (.tup []) (good_t upd_same .nil)
    refine ⟨(by show 1 ≤ sizeLine; decide), fun a2 h2 => ?_⟩
    have m2 := m1.put h2 (.tup [.str "a"]) (good_t upd_same (.cons (.str _) .nil))
    refine ⟨Nat.zero_le _, fun a3 h3 => ?_⟩
    have m3 := m2.put h3 (.lst []) (good_l upd_same .nil)
    refine ⟨(by show 1 ≤ sizeLine; decide), fun a4 h4 => ?_⟩
    have m4 := m3.put h4 (.lst [.str "a"]) (good_l upd_same (.cons (.str _) .nil))
    refine ⟨(by show 1 ≤ sizeLine; decide), fun a5 h5 => ?_⟩
    have m5 := m4.put h5 (.lst [.int 1]) (good_l upd_same (.cons (.int _) .nil))
    intro a6 h6
    have m6 := m5.put h6 (.dK []) ⟨_, .d0 upd_same, rfl, by decide, by decide +kernel, by decide +kernel, rfl, fun ds e => by cases e⟩
    intro a7 h7
    refine ⟨upd_same, [(.inr "a", .int 1)], rfl, by show 1 ≤ 15; decide, ?_⟩
    rw [upd_upd]
    have m7 := m6.put h7 (.dK (mergeK [] [(.inr "a", .int 1)])) ⟨_, .d1 upd_same, rfl, by decide, by decide +kernel, by decide +kernel, rfl, fun ds e => by cases e⟩
    refine ⟨(by show 2 ≤ sizeLine; decide), fun a8 h8 => ?_⟩
    have m8 := m7.put h8 (.tup [.int 1, .int 2]) (good_t upd_same (.cons (.int _) (.cons (.int _) .nil)))
    refine ⟨(by show 2 ≤ sizeLine; decide), fun a9 h9 => ?_⟩
    have m9 := m8.put h9 (.tup [.str "m", .str "a"]) (good_t upd_same (.cons (.str _) (.cons (.str _) .nil)))
    refine ⟨(by show 1 ≤ sizeLine; decide), fun b1 g1 => ?_⟩
    have n1 := m9.put g1 (.tup [.non]) (good_t upd_same (.cons .non .nil))
    refine ⟨(by show 2 ≤ sizeLine; decide), fun b2 g2 => ?_⟩
    have n2 := n1.put g2 (.tup [.str "a", .int 1]) (good_t upd_same (.cons (.str _) (.cons (.int _) .nil)))
    refine ⟨(by show 1 ≤ sizeLine; decide), fun b3 g3 => ?_⟩
    have n3 := n2.new g3 (.lst [.str "a"])
    refine ⟨(by show 1 ≤ sizeLine; decide), fun b4 g4 => ?_⟩
    have n4 := n3.put g4 (.lst [.ref b3]) (good_l upd_same (.cons (.lst (ds := [.str "a"]) (SqL.of (by rw [upd_ne (ne_of_none upd_same g4)]; exact upd_same)) (.cons (.str _) .nil)) .nil))
    have n5 := n4.add (x := .str "2(a)") (good_d (.str "2(a)"))
    refine ⟨(by show 13 ≤ sizeLine; decide), fun r1 j1 => ?_⟩
    have n6 := n5.new j1 (.lst [.ref a1, .ref a2, .ref a3, .ref a4, .ref a5, .ref a6, .ref a7, .ref a8, .ref a9, .ref b1, .ref b2, .ref b4, .str "2(a)"])
    refine ⟨l, r1, first17, _, rfl, rfl, n6.L, upd_same, (by show 30 ≤ sizeLine; decide), fun r2 j2 => ?_⟩
    have n7 := n6.new j2 (.lst (first17 ++ [.ref a1, .ref a2, .ref a3, .ref a4, .ref a5, .ref a6, .ref a7, .ref a8, .ref a9, .ref b1, .ref b2, .ref b4, .str "2(a)"]))
    refine ⟨_, rfl, _, rfl, p, c, _, ns, n, _, rfl, n7.P, hn, hl, .inl ⟨_, rfl, SqL.of upd_same⟩, (by show 0 < 30; decide), (by show 30 < 1073741824; decide), fun x H' hm hB hP' => ?_⟩
    have all : All K _ _ := good17.app n7.A
    refine k x H' ((all x hm).but n7.P hB) (fun z e => ?_) ((Same.but p n7.S).trans hB) hP'
    subst e
    rcases List.mem_append.mp hm with hm | hm
    · exact s17 z hm
    · simp only [List.mem_cons, List.not_mem_nil, or_false, V.str.injEq, reduceCtorEq, false_or] at hm
      subst hm
      exact ⟨by decide +kernel, by decide +kernel⟩
end
end KP
end

section
set_option Elab.async false
set_option linter.all false
set_option maxRecDepth 100000
set_option maxHeartbeats 2000000
/-! for i, x in enumerate(t), t a tuple. -/
namespace PySem
open Sem (wp)
set_option maxHeartbeats 1000000 in
theorem meets_enumerate_newB1 {v : Value} {o : Obj} {H : Heap → Prop} (B : Begins v o H) :
    Meets (Builtin.«enumerate.__new__» ⟨[.type "enumerate", v], []⟩) (fun _ R s => H s.heap ∧
      R (.ok (.ret (.ref (s.heap.push o).objs.size))) { s with heap := (s.heap.push o).push { cls := .type "enumerate", data := .fields #[.none, .bool false, .ref s.heap.objs.size, rawInt 0, .none, .none] } }) :=
  .of_wp fun prog w A R s h => by
    obtain ⟨hp, g, d, tk, os⟩ := s; obtain ⟨h1, h⟩ := h
    have hsub := sub_enumerate
    have q1 : ∀ {A' : Around} {E : Value → Shared → Prop} {Q : Value → Shared → Prop}, Q (.ref hp.objs.size) ⟨hp.push o, g, d, tk, os⟩ → wpAny (model prog w) A' (pyIter v) Q E ⟨hp, g, d, tk, os⟩ :=
      fun q => B.iter prog w _ _ ⟨hp, g, d, tk, os⟩ _ h1 q
    wp_walk using q1
    refine wpAny_stack_any fun st => wpAny_pure ?_
    split
    · rename_i c _ _ _ _ _
      cases (c == Value.type "enumerate")
      · wp_walk using q1
        exact ⟨_, rfl, h⟩
      · wp_walk using q1
        exact ⟨_, rfl, h⟩
    · wp_walk using q1
      exact ⟨_, rfl, h⟩
theorem enum_begins1 {prog : Program} {w : World} {A : Around} {E : Value → Shared → Prop} {s : Shared} {v : Value} {o : Obj} {H : Heap → Prop} {Q : Value → Shared → Prop} (B : Begins v o H) (h1 : H s.heap)
    (h : ∀ h', IsEnum h' (s.heap.objs.size + 1) s.heap.objs.size 0 .none → h'.get? s.heap.objs.size = some o → h'.objs.size = s.heap.objs.size + 2 →
      (∀ b o, s.heap.get? b = some o → h'.get? b = some o) → Q (.ref (s.heap.objs.size + 1)) { s with heap := h' }) :
    wpAny (model prog w) A (call (.type "enumerate") [v]) Q E s := by
  refine callType_new F.called_enumerate (by decide) (F.typeCall_enumerate_1 _) (F.newCall_enumerate_1 _) (fun obj => F.args_object_init_2 obj _) F.entry_enumerate_new
    (meets_enumerate_newB1 B) ⟨h1, ?_⟩
  have hz : (s.heap.push o).objs.size = s.heap.objs.size + 1 := Heap.size_push ..
  show _ ∧ _
  rw [hz]
  have he : IsEnum ((s.heap.push o).push { cls := .type "enumerate", data := .fields #[.none, .bool false, .ref s.heap.objs.size, rawInt 0, .none, .none] }) (s.heap.objs.size + 1) s.heap.objs.size 0 .none := by
    have := Heap.get?_push_size (s.heap.push o) (o := { cls := .type "enumerate", data := .fields #[.none, .bool false, .ref s.heap.objs.size, rawInt 0, .none, .none] }) rfl
    rw [hz] at this; exact this
  refine ⟨⟨_, he, rfl⟩, h _ he (Heap.get?_push_of_some _ (Heap.get?_push_size _ B.free)) (by rw [Heap.size_push, hz]) fun b o x => Heap.get?_push_of_some _ (Heap.get?_push_of_some _ x)⟩
end PySem
namespace L2
open PySem PySem.Spec PyProof.Rows
def IteT (K : PySem.W.Frag) (a : Addr) : It :=
  ⟨fun i H => ∃ (xs : List V) (x : V), SqT K H a xs ∧ xs[i]? = some x, fun i H v H' => ∃ T x, v = .ref T ∧ H T = none ∧ H' = upd H T (.tup [.int (i : Nat), x]) ∧ ∀ xs, SqT K H a xs → xs[i]? = some x, fun i H => ∃ xs : List V, SqT K H a xs ∧ xs.length ≤ i⟩
theorem turn_enumT {P : Program} {w : World} {K : PySem.W.Frag} {elts : List Expr} {kk : Nat} {tpos : Pos} (a e it : Addr) :
    Turn P w K (.Tuple elts kk tpos) (IteT K a) [e, it] e (fun i h => (∃ old, IsEnum h e it ((i : Nat) : Int) old) ∧ h.IsTupleIter it a i ∧ e ≠ it) where
  mem := by simp
  obj := fun i h st b hb => by
    obtain ⟨⟨old, he⟩, ⟨o, ho, hc, hd⟩, _⟩ := st
    have e' : b = e ∨ b = it := by simpa using hb
    rcases e' with z | z
    · rw [z]; exact ⟨_, he, fun v q => nomatch q⟩
    · rw [z]; exact ⟨o, ho, fun v q => by rw [hd] at q; cases q⟩
  keep := fun i h h' st k => let ⟨⟨old, he⟩, hi, hne⟩ := st; ⟨⟨old, k e (by simp) _ he⟩, hi.at fun o q => k it (by simp) o q, hne⟩
  item := by
    intro X hP hw hK hc i pins s σ H E I hf st hg
    subst hP hw hK
    obtain ⟨⟨old, he⟩, hit, hne⟩ := st
    obtain ⟨xs, x, hq, hx⟩ := hg
    obtain ⟨its, rv, p, hz⟩ := I.tuple hq
    have p' : s.heap.IsTuple a its.toArray := p
    obtain ⟨u, hu, ru⟩ := rv.get hx
    have hel : e < s.heap.objs.size := Heap.lt_size he
    have hil : it < s.heap.objs.size := by obtain ⟨_, q, _⟩ := hit; exact Heap.lt_size q
    have hia : a ≠ it := fun z => by
      obtain ⟨o1, q1, c1, _⟩ := hit
      obtain ⟨o2, q2, c2, _⟩ := p'
      rw [z, q1] at q2
      cases q2
      rw [c1] at c2
      exact absurd (Value.type.inj c2) (by decide)
    have hea : e ≠ a := fun z => by
      obtain ⟨o2, q2, c2, _⟩ := p'
      have he2 : s.heap.get? e = _ := he
      rw [z, q2] at he2
      cases he2
      exact absurd (Value.type.inj c2) (by decide)
    have hin : i < its.toArray.size := by
      have := (List.getElem?_eq_some_iff.mp hu).1
      simpa using this
    refine wpAny_pyNext_enum_itemD (Draws.tuple (A := X.A.in1) (I.ok.hd hc) it a hia its.toArray) he ⟨hit, p'⟩ hin hne (by simp [hne, hea]) fun y h' tk hy ho hst' hT hsz hk => ?_
    have ey : y = u := by
      have hy' : its.toArray[i]? = some y := hy
      rw [List.getElem?_toArray, hu] at hy'
      exact (Option.some.inj hy').symm
    subst ey
    refine ⟨_, rfl, wpAny_letOwnedTupleGo_enum (s := { s with heap := h', toks := tk + 1 }) ho fun h'' he' sb => ?_⟩
    have hT2 : h''.get? s.heap.objs.size = some { cls := .type "tuple", data := .seq #[.int i tk, y] } := (sb.2 _ (Nat.ne_of_gt hel)).trans hT
    have new : ObjOk X.prog X.w (upd H s.heap.objs.size (.tup [.int (i : Nat), x])) h'' s.heap.objs.size (.tup [.int (i : Nat), x]) :=
      ⟨by show 2 ≤ sizeLine; decide, [.int i tk, y], .cons ⟨_, rfl⟩ (.cons ru .nil), ⟨_, hT2, rfl, _, rfl⟩⟩
    have I1 : Inv X pins σ (upd H s.heap.objs.size (.tup [.int (i : Nat), x])) { s with heap := h'', toks := tk + 1 } :=
      I.turnedNew (ch := [e, it]) (fun b ob hb q => (sb.2 b (fun z => hb (by simp [z]))).trans (hk b ob (fun z => hb (by simp [z])) (fun z => hb (by simp [z])) q)) hf (Nat.le_refl _) new
    refine ⟨.ref s.heap.objs.size, _, I1, rfl, ⟨_, x, rfl, I.hok.fresh (Nat.le_refl _), rfl, fun ys hy => by rw [I.tuple_inj hy hq]; exact hx⟩, ⟨⟨y, ?_⟩, hst'.1.at fun o q => (sb.2 it (Ne.symm hne)).trans q, hne⟩, fun b hb => ?_⟩
    · have e1 : ((i + 1 : Nat) : Int) = (i : Int) + 1 := by omega
      rw [e1]; exact he'
    · have hb' : b < s.heap.objs.size := by
        have e' : b = e ∨ b = it := by simpa using hb
        rcases e' with z | z
        · rw [z]; exact hel
        · rw [z]; exact hil
      rw [upd_ne (Nat.ne_of_lt hb')]
      exact (hf b hb).1
  done := by
    intro X hP hw hK hc i pins s σ H E I hf st hg
    subst hP hw hK
    obtain ⟨⟨old, he⟩, hit, hne⟩ := st
    obtain ⟨xs, hq, hx⟩ := hg
    obtain ⟨its, rv, p, hz⟩ := I.tuple hq
    have p' : s.heap.IsTuple a its.toArray := p
    obtain ⟨f0, f1, f2, f3, f4, f5⟩ := hf it (by simp)
    have hl := rv.length
    have hia : a ≠ it := fun z => by
      obtain ⟨o1, q1, c1, _⟩ := hit
      obtain ⟨o2, q2, c2, _⟩ := p'
      rw [z, q1] at q2
      cases q2
      rw [c1] at c2
      exact absurd (Value.type.inj c2) (by decide)
    have D : Draws X.prog X.w X.A.in1 it [it, a] i (fun _ _ => False) (fun j h => j = i ∧ h.IsTupleIter it a i ∧ h.IsTuple a its.toArray) := by
      refine ⟨fun j h st => let ⟨o, ho, _⟩ := st.2.1; ⟨o, ho⟩, fun j h h' st hk => ⟨st.1, st.2.1.at fun o e => hk it (by simp) o e, st.2.2.at fun o e => hk a (by simp) o e⟩, fun j s Q E hj st hQ => absurd st.1 (Nat.ne_of_lt hj), fun s Q E st hE => ?_⟩
      exact wpAny_nextOf_tuple_end (I.ok.hd hc) st.2.1 st.2.2 (by simp; omega) hE
    exact wpAny_pyNext_enum_endD D he ⟨rfl, hit, p'⟩ fun h' eb => ⟨rfl, I.turned (t' := s.toks) (fun b o hb q => eb b o hb q) f0 f1 f3 f4 f5⟩
  self := fun A i s Q E st h => let ⟨⟨_, he⟩, _⟩ := st; wpAny_pyIter_enum he h
def iEnumT (K : PySem.W.Frag) (ta : TA) : TI := fun σ H R => ta σ H fun vs H1 => ∃ a xs, vs = [.ref a] ∧ SqT K H1 a xs ∧ R (IteT K a) H1
theorem pi_enumT {X : Cx} {e : Expr} {ta : TA} {p pos tpos : Pos} {elts : List Expr} {kk : Nat} (hg : Gl X "enumerate") (hm : X.mg "enumerate" = none) (ha : PA X [e] ta) (hs : starEach [e] X.env = [(false, eval e X.env)] := by rfl) :
    PI X (.Tuple elts kk tpos) (.Call (.Name "enumerate" p) [e] [] pos) (iEnumT X.K ta) := by
  refine ⟨fun pins s σ H R I h => ?_⟩
  refine Call_ (ld_blt I hg hm boot_enumerate (PyProof.Rows.callWith_type1 (thn (ha.run pos pins s σ H _ I h) fun us s1 ⟨vs, H1, I1, r1, q1⟩ => ?_) hs rfl))
  obtain ⟨a, xs, ex, hq, q⟩ := q1
  subst ex
  cases r1 with
  | cons r rr =>
    cases rr
    cases r
    obtain ⟨its, rv, p', hz⟩ := I1.tuple hq
    refine enum_begins1 (begins_tuple a its.toArray) p' fun h' he hit hsz hk => wpAny_pyIter_enum he ?_
    have I2 : Inv X pins σ H1 { s1 with heap := h' } := I1.kept (t' := s1.toks) hk
    refine ⟨s1.heap.objs.size + 1, [s1.heap.objs.size + 1, s1.heap.objs.size], _, _, H1, rfl, I2, turn_enumT a (s1.heap.objs.size + 1) s1.heap.objs.size, ⟨⟨.none, he⟩, ⟨_, hit, rfl, rfl⟩, Nat.succ_ne_self _⟩, fun b hb => ?_, q⟩
    have e' : b = s1.heap.objs.size + 1 ∨ b = s1.heap.objs.size := by simpa using hb
    have hle : s1.heap.objs.size ≤ b := by
      rcases e' with z | z
      · rw [z]; exact Nat.le_add_right _ _
      · rw [z]; exact Nat.le_refl _
    exact I1.fpOk hle (I1.hok.fresh hle)
section
variable {K : PySem.W.Frag} {a : Addr} {xs : List V}
theorem walk_enumT : Walk (IteT K a) xs.length (fun H => SqT K H a xs) (YPair (fun i => some (.int (i : Nat))) (fun i => xs[i]?)) := by
  refine ⟨fun i _ hi q => ⟨xs, xs[i], q, by simp [hi]⟩, fun _ q => ⟨xs, q, Nat.le_refl _⟩, fun i H v H' _ q y => ?_⟩
  obtain ⟨T, x, h1, h2, h3, h4⟩ := y
  exact ⟨T, .int (i : Nat), x, h1, h2, h3, rfl, h4 xs q⟩
end
end L2
end

section
set_option Elab.async false
set_option linter.all false
set_option maxRecDepth 100000
set_option maxHeartbeats 2000000
/-! for i, x in enumerate(s), s a text; a method of a text that wants a token out. -/
namespace L2
open PySem PySem.Spec PyProof.Rows
def IteS (z : Str) : It :=
  ⟨fun i _ => i < z.cps.size, fun i H v H' => ∃ T c, v = .ref T ∧ H T = none ∧ z.cps[i]? = some c ∧ H' = upd H T (.tup [.int (i : Nat), .str ⟨#[c]⟩]), fun i _ => z.cps.size ≤ i⟩
theorem turn_enumS {P : Program} {w : World} {K : PySem.W.Frag} {elts : List Expr} {kk : Nat} {tpos : Pos} (z : Str) (t : Tok) (e it : Addr) :
    Turn P w K (.Tuple elts kk tpos) (IteS z) [e, it] e (fun i h => (∃ old, IsEnum h e it ((i : Nat) : Int) old) ∧ h.IsStrIter it (strIterType z) z t i ∧ e ≠ it) where
  mem := by simp
  obj := fun i h st b hb => by
    obtain ⟨⟨old, he⟩, ⟨o, ho, hc, hd⟩, _⟩ := st
    have e' : b = e ∨ b = it := by simpa using hb
    rcases e' with z | z
    · rw [z]; exact ⟨_, he, fun v q => nomatch q⟩
    · rw [z]; exact ⟨o, ho, fun v q => by rw [hd] at q; cases q⟩
  keep := fun i h h' st k => let ⟨⟨old, he⟩, ⟨o, ho, r⟩, hne⟩ := st; ⟨⟨old, k e (by simp) _ he⟩, ⟨o, k it (by simp) o ho, r⟩, hne⟩
  item := by
    intro X hP hw hK hc i pins s σ H E I hf st hg
    subst hP hw hK
    obtain ⟨⟨old, he⟩, hit, hne⟩ := st
    have hel : e < s.heap.objs.size := Heap.lt_size he
    have hil : it < s.heap.objs.size := by obtain ⟨_, q, _⟩ := hit; exact Heap.lt_size q
    refine wpAny_pyNext_enum_itemD (Draws.text (A := X.A.in1) (I.ok.hd hc) it z t) he hit hg hne (by simp [hne]) fun y h' tk hy ho hst' hT hsz hk => ?_
    obtain ⟨c, u, hcx, rfl⟩ := hy
    refine ⟨_, rfl, wpAny_letOwnedTupleGo_enum (s := { s with heap := h', toks := tk + 1 }) ho fun h'' he' sb => ?_⟩
    have hT2 : h''.get? s.heap.objs.size = some { cls := .type "tuple", data := .seq #[.int i tk, .str ⟨#[c]⟩ u] } := (sb.2 _ (Nat.ne_of_gt hel)).trans hT
    have new : ObjOk X.prog X.w (upd H s.heap.objs.size (.tup [.int (i : Nat), .str ⟨#[c]⟩])) h'' s.heap.objs.size (.tup [.int (i : Nat), .str ⟨#[c]⟩]) :=
      ⟨by show 2 ≤ sizeLine; decide, [.int i tk, .str ⟨#[c]⟩ u], .cons ⟨_, rfl⟩ (.cons ⟨_, rfl⟩ .nil), ⟨_, hT2, rfl, _, rfl⟩⟩
    have I1 : Inv X pins σ (upd H s.heap.objs.size (.tup [.int (i : Nat), .str ⟨#[c]⟩])) { s with heap := h'', toks := tk + 1 } :=
      I.turnedNew (ch := [e, it]) (fun b ob hb q => (sb.2 b (fun z => hb (by simp [z]))).trans (hk b ob (fun z => hb (by simp [z])) (fun z => hb (by simp [z])) q)) hf (Nat.le_refl _) new
    refine ⟨.ref s.heap.objs.size, _, I1, rfl, ⟨_, c, rfl, I.hok.fresh (Nat.le_refl _), hcx, rfl⟩, ⟨⟨Value.str ⟨#[c]⟩ u, ?_⟩, (let ⟨o, q, r⟩ := hst'; ⟨o, (sb.2 it (Ne.symm hne)).trans q, r⟩), hne⟩, fun b hb => ?_⟩
    · have e1 : ((i + 1 : Nat) : Int) = (i : Int) + 1 := by omega
      rw [e1]; exact he'
    · have hb' : b < s.heap.objs.size := by
        have e' : b = e ∨ b = it := by simpa using hb
        rcases e' with z | z
        · rw [z]; exact hel
        · rw [z]; exact hil
      rw [upd_ne (Nat.ne_of_lt hb')]
      exact (hf b hb).1
  done := by
    intro X hP hw hK hc i pins s σ H E I hf st hg
    subst hP hw hK
    obtain ⟨⟨old, he⟩, hit, hne⟩ := st
    obtain ⟨f0, f1, f2, f3, f4, f5⟩ := hf it (by simp)
    have hx : z.cps[i]? = none := Array.getElem?_eq_none hg
    have D : Draws X.prog X.w X.A.in1 it [it] i (fun _ _ => False) (fun j h => j = i ∧ h.IsStrIter it (strIterType z) z t i) := by
      refine ⟨fun j h st => let ⟨o, ho, _⟩ := st.2; ⟨o, ho⟩, fun j h h' st hk => ⟨st.1, let ⟨o, ho, r⟩ := st.2; ⟨o, hk it (by simp) o ho, r⟩⟩, fun j s Q E hj st hQ => absurd st.1 (Nat.ne_of_lt hj), fun s Q E st hE => ?_⟩
      have st2 := st.2
      cases ha : z.cps.all (· < 128)
      · simp only [strIterType, ha, Bool.false_eq_true, if_false] at st2
        exact wpAny_nextOf_wide_end (I.ok.hd hc) st2 hx hE
      · simp only [strIterType, ha, if_true] at st2
        exact wpAny_nextOf_ascii_end (I.ok.hd hc) st2 hx hE
    exact wpAny_pyNext_enum_endD D he ⟨rfl, hit⟩ fun h' eb => ⟨rfl, I.turned (t' := s.toks) (fun b o hb q => eb b o hb q) f0 f1 f3 f4 f5⟩
  self := fun A i s Q E st h => let ⟨⟨_, he⟩, _⟩ := st; wpAny_pyIter_enum he h
def iEnumS (ta : TA) : TI := fun σ H R => ta σ H fun vs H1 => ∃ z, vs = [.str z] ∧ R (IteS z) H1
theorem pi_enumS {X : Cx} {e : Expr} {ta : TA} {p pos tpos : Pos} {elts : List Expr} {kk : Nat} (hg : Gl X "enumerate") (hm : X.mg "enumerate" = none) (ha : PA X [e] ta) (hs : starEach [e] X.env = [(false, eval e X.env)] := by rfl) :
    PI X (.Tuple elts kk tpos) (.Call (.Name "enumerate" p) [e] [] pos) (iEnumS ta) := by
  refine ⟨fun pins s σ H R I h => ?_⟩
  refine Call_ (ld_blt I hg hm boot_enumerate (PyProof.Rows.callWith_type1 (thn (ha.run pos pins s σ H _ I h) fun us s1 ⟨vs, H1, I1, r1, q1⟩ => ?_) hs rfl))
  obtain ⟨z, ex, q⟩ := q1
  subst ex
  cases r1 with
  | cons r rr =>
    cases rr
    obtain ⟨t, rfl⟩ := r
    refine enum_begins1 (begins_text z t) trivial fun h' he hit hsz hk => wpAny_pyIter_enum he ?_
    have I2 : Inv X pins σ H1 { s1 with heap := h' } := I1.kept (t' := s1.toks) hk
    refine ⟨s1.heap.objs.size + 1, [s1.heap.objs.size + 1, s1.heap.objs.size], _, _, H1, rfl, I2, turn_enumS z t (s1.heap.objs.size + 1) s1.heap.objs.size, ⟨⟨.none, he⟩, ⟨_, hit, rfl, rfl⟩, Nat.succ_ne_self _⟩, fun b hb => ?_, q⟩
    have e' : b = s1.heap.objs.size + 1 ∨ b = s1.heap.objs.size := by simpa using hb
    have hle : s1.heap.objs.size ≤ b := by
      rcases e' with z | z
      · rw [z]; exact Nat.le_add_right _ _
      · rw [z]; exact Nat.le_refl _
    exact I1.fpOk hle (I1.hok.fresh hle)
theorem walk_enumS {z : Str} : Walk (IteS z) z.cps.size (fun _ => True) (YPair (fun i => some (.int (i : Nat))) (fun i => (z.cps[i]?).map fun c => V.str ⟨#[c]⟩)) := by
  refine ⟨fun i _ hi q => hi, fun _ q => Nat.le_refl _, fun i H v H' _ q y => ?_⟩
  obtain ⟨T, c, h1, h2, h3, h4⟩ := y
  exact ⟨T, .int (i : Nat), .str ⟨#[c]⟩, h1, h2, h4, rfl, by show Option.map _ (z.cps[i]?) = _; rw [h3]; rfl⟩
section
variable {X : Cx} {o e : Expr} {to te : TE}
theorem pet_m0 {id : String} {name : Str} {apos pos : Pos} {r : V → List V → Hp → VK → Prop} (slot : Slot "str" name id) (ty : typeOf (.builtin id) = pure (.type "method_descriptor")) (rule : MtR X id r) (ho : PET X o to)
    (hbase : attributeBase o name X.env (eval o X.env) = eval o X.env := by rfl) (hline : (apos.endLine == pos.line) = true := by rfl) : PET X (.Call (.Attribute o name apos) [] [] pos) (tM0 r to) := by
  intro pins s σ H Q h0 I h
  refine PySem.Call_method0 hbase hline (thn (ho pins s σ H _ h0 I h) fun v s1 ⟨x, H1, I1, r1, q1⟩ => ?_)
  obtain ⟨⟨a, rfl⟩, q1⟩ := q1
  obtain ⟨t, rfl⟩ := _root_.id r1
  exact ⟨"str", _, F.plainAttrs_str, slot, ty, typeIs_str _ _ _, (fun _ e => nomatch e), Calls.callWith_builtin rfl (PySem.evalArgs_none (rule pins s1 σ H1 _ [] _ [] Q I1 r1 .nil q1))⟩
theorem pet_words {apos pos : Pos} (ho : PET X o to) (hbase : attributeBase o "split" X.env (eval o X.env) = eval o X.env := by rfl) (hline : (apos.endLine == pos.line) = true := by rfl) :
    PET X (.Call (.Attribute o "split" apos) [] [] pos) (tM0 (fun x xs H Q => ∃ a, x = .str a ∧ xs = [] ∧ a.length + 2 ≤ sizeLine ∧ rNewStrs (Txt.words a) H Q) to) :=
  pet_m0 F.slot_str_split F.type_str_split mt_words ho hbase hline
end
end L2
end

section
set_option Elab.async false
set_option linter.all false
set_option maxRecDepth 100000
set_option maxHeartbeats 2000000
/-! s * n, s a text. -/
namespace L2
open PySem PySem.Spec PyProof.Rows
theorem op_mul_str {X : Cx} : OpR X (binaryOp .Mult) (fun x y H Q => ∃ i n, x = .str i ∧ y = .int n ∧ MulOk i n ∧ Q (.str (Txt.mul i n)) H) := by
  intro pins s σ H x y v u Q I rx ry h
  obtain ⟨i, n, rfl, rfl, hz, q⟩ := h
  obtain ⟨t, rfl⟩ := rx
  obtain ⟨t', rfl⟩ := ry
  exact SB.mul hz (fun t' tk => ⟨.str (Txt.mul i n), H, I.tok _, ⟨_, rfl⟩, q⟩)
end L2
end

section
set_option Elab.async false
set_option linter.all false
set_option maxRecDepth 100000
set_option maxHeartbeats 2000000
/-! Sets of scannable keys (texts, numbers) whose table can be walked: what is added. -/
namespace L2
open PySem PySem.Spec PyProof.Rows
section
variable {P : Program} {w : World} {κ : Type} [DecidableEq κ]
/-- at a there is a set, its keys are those of L (each once), and its table can be walked -/
def SetG (G : KeyKind P w κ) (h : Heap) (a : Addr) (L : List κ) : Prop :=
  ∃ o es ep t, (h.get? a = some o ∧ o.ExactSet ∧ o.data = .set es ep t) ∧ (ElemsOf G es.toList ∧ es.size = L.length ∧ L.Nodup ∧ ∀ k, k ∈ L ↔ ∃ e ∈ es.toList, G.is k e.2 = true) ∧
    es.size < scanBound ∧ t.fits es.size = true ∧ Ris t.place.toList ∧ (w.params.followText "set-order" = true ∨ t.led = true)
variable {G : KeyKind P w κ} {A : Around} {E : Value → Shared → Prop} {s : Shared} {a : Addr} {L : List κ}
theorem SetG.keep {h h' : Heap} (R : SetG G h a L) (k : ∀ o, h.get? a = some o → h'.get? a = some o) : SetG G h' a L := by
  obtain ⟨o, es, ep, t, ⟨ho, r⟩, q⟩ := R
  exact ⟨o, es, ep, t, ⟨k o ho, r⟩, q⟩
theorem SetG.ob {h : Heap} (R : SetG G h a L) : ∃ o, h.get? a = some o ∧ o.cls = .type "set" := by
  obtain ⟨o, es, ep, t, ⟨ho, r, _⟩, q⟩ := R
  exact ⟨o, ho, r.1⟩
/-- what lets go on whatever is asked of it -/
def Lets (P : Program) (w : World) (A : Around) (E : Value → Shared → Prop) (f : Bool → Sem Unit) : Prop := ∀ (b : Bool) (s1 : Shared) (Q1 : Unit → Shared → Prop), Q1 () s1 → wpAny (model P w) A (f b) Q1 E s1
theorem lets_go {f : Bool → Sem Unit} (h : Lets P w A E f) (b : Bool) {Q1 : Unit → Shared → Prop} (q : Q1 () s) : wpAny (model P w) A (f b) Q1 E s := h b s Q1 q
/-- the two stores behind a new key -/
theorem setG_put {gw : Bool → Sem Unit} (hgw : Lets P w A E gw) {R : Option Bool → Shared → Prop} {o : Obj} {es es1 : Array (Int × Value)} {ep : Nat} {t t2 : SetTable} {wd : Bool} {L' : List κ} (ho : s.heap.get? a = some o) (hx : o.ExactSet) (hd : o.data = .set es ep t)
    (g : ElemsOf G es1.toList ∧ es1.size = L'.length ∧ L'.Nodup ∧ ∀ k, k ∈ L' ↔ ∃ e ∈ es1.toList, G.is k e.2 = true) (hb : es1.size < scanBound) (hf : t2.fits es1.size = true) (hr : Ris t2.place.toList) (hl : w.params.followText "set-order" = true ∨ t2.led = true)
    (hR : ∀ h', Heap.SameBut a s.heap h' → SetG G h' a L' → R (some true) { s with heap := h' }) :
    wpAny (model P w) A (do
      storeSet a es1 t2
      if !wd && t2.tooFull then
        let (es, t, gave) := relayAll t2 es1 (SetTable.grown es1.size)
        gw gave
        storeSet a es t
      return some true) R E s := by
  refine wpAny_bind (wpAny_storeSet_of ho hd ?_ (fits_of_scanBound hb))
  have ho1 := store_at (es' := es1) (t' := t2) ho hd
  have b1 := Heap.SameBut.update s.heap a (Obj.putSet es1 t2)
  cases c : (!wd && t2.tooFull) with
  | false =>
    simp only [Bool.false_eq_true, if_false]
    exact wpAny_pure (hR _ b1 ⟨_, es1, _, t2, ⟨ho1, hx, rfl⟩, g, hb, hf, hr, hl⟩)
  | true =>
    simp only [if_true]
    have p3 := relayAll_perm t2 es1 (SetTable.grown es1.size)
    have f3 := relayAll_fits t2 es1 (SetTable.grown es1.size)
    have r3 := relayAll_ris t2 es1 (SetTable.grown es1.size)
    have l3 := relayAll_led t2 es1 (SetTable.grown es1.size)
    generalize relayAll t2 es1 (SetTable.grown es1.size) = z at p3 f3 r3 l3 ⊢
    obtain ⟨e3, t3, gave⟩ := z
    simp only at p3 f3 r3 l3 ⊢
    have z3 : e3.size = es1.size := by rw [← Array.length_toList, p3.length_eq, Array.length_toList]
    refine wpAny_bind (lets_go hgw _ ?_)
    refine wpAny_bind (wpAny_storeSet_of ho1 rfl ?_ (fits_of_scanBound (by rw [z3]; exact hb)))
    refine wpAny_pure (hR _ (b1.trans (Heap.SameBut.update _ a _)) ⟨_, e3, _, t3, ⟨store_at ho1 rfl, hx, rfl⟩, ⟨fun e m => g.1 e (p3.mem_iff.mp m), z3.trans g.2.1, g.2.2.1, fun k => ?_⟩, by rw [z3]; exact hb, f3, r3, hl.imp id fun q => l3.trans q⟩)
    rw [g.2.2.2 k]
    exact ⟨fun ⟨e, m, q⟩ => ⟨e, p3.mem_iff.mpr m, q⟩, fun ⟨e, m, q⟩ => ⟨e, p3.mem_iff.mp m, q⟩⟩
/-- a key is added -/
theorem setG_add {k : κ} {x : Value} {Q : Bool → Shared → Prop} (hk : G.is k x = true) (hsc : x.scannable = true) (R : SetG G s.heap a L) (room : L.length + 1 < scanBound)
    (hQ : ∀ h' L' b, Heap.SameBut a s.heap h' → SetG G h' a L' → (∀ j, j ∈ L' ↔ j ∈ L ∨ j = k) → L'.length ≤ L.length + 1 → Q b { s with heap := h' }) :
    wpAny (model P w) A (setAddHashed a x (G.hash k)) Q E s := by
  obtain ⟨o, es, ep, t, ⟨ho, hx, hd⟩, g, hb, hf, hr, hl⟩ := id R
  unfold setAddHashed setAddHashedIn
  refine wpAny_holding (wpAny_bind (wpAny_setState_of ho hd hf ?_))
  simp only
  rw [byScan_of hsc hb g.1, if_pos rfl]
  unfold setAddByScan
  refine wpAny_bind (wpAny_bind (wpAny_rule (wpAny_bind (wpAny_setScan_of hk ho hd hf g.1 ?_))))
  cases hfi : List.findIdx? (fun e => G.is k e.2) es.toList with
  | some j =>
    obtain ⟨hj, pj, _⟩ := List.findIdx?_eq_some_iff_getElem.mp hfi
    have m : k ∈ L := (g.2.2.2 k).mpr ⟨_, List.getElem_mem hj, pj⟩
    exact wpAny_pure (wpAny_pure (hQ s.heap L false (Heap.SameBut.refl a s.heap) R (fun j => ⟨.inl, fun z => z.elim id fun e => e ▸ m⟩) (Nat.le_succ _)))
  | none =>
    have nk : k ∉ L := fun z => by
      obtain ⟨e, m, q⟩ := (g.2.2.2 k).mp z
      rw [List.findIdx?_eq_none_iff.mp hfi e m] at q
      cases q
    have p1 := layNew_perm t es (G.hash k) x
    have f1 := layNew_fits t es (G.hash k) x
    have r1 := layNew_ris t es (G.hash k) x hr
    have l1 := layNew_led t es (G.hash k) x
    generalize layNew t es (G.hash k) x = z at p1 f1 r1 l1 ⊢
    obtain ⟨e1, t1, wd, gave⟩ := z
    simp only at p1 f1 r1 l1 ⊢
    rw [Array.toList_push] at p1
    have pc := p1.trans (List.perm_append_singleton _ _)
    have z1 : e1.size = (k :: L).length := by rw [← Array.length_toList, pc.length_eq, List.length_cons, List.length_cons, Array.length_toList, g.2.1]
    have g1 : ElemsOf G e1.toList ∧ e1.size = (k :: L).length ∧ (k :: L).Nodup ∧ ∀ j, j ∈ k :: L ↔ ∃ e ∈ e1.toList, G.is j e.2 = true := by
      refine ⟨fun e m => ?_, z1, List.nodup_cons.mpr ⟨nk, g.2.2.1⟩, fun j => ?_⟩
      · rcases List.mem_cons.mp (pc.mem_iff.mp m) with y | y
        · rw [y]; exact ⟨⟨k, hk, rfl⟩, hsc⟩
        · exact g.1 e y
      · rw [List.mem_cons, g.2.2.2 j]
        constructor
        · rintro (rfl | ⟨e, m, q⟩)
          · exact ⟨_, pc.mem_iff.mpr (List.mem_cons_self ..), hk⟩
          · exact ⟨e, pc.mem_iff.mpr (List.mem_cons_of_mem _ m), q⟩
        · rintro ⟨e, m, q⟩
          rcases List.mem_cons.mp (pc.mem_iff.mp m) with y | y
          · rw [y] at q
            exact .inl (G.inj _ _ _ q hk)
          · exact .inr ⟨e, y, q⟩
    have b1 : e1.size < scanBound := by rw [z1, List.length_cons]; exact room
    have fin : ∀ h', Heap.SameBut a s.heap h' → SetG G h' a (k :: L) → Q true { s with heap := h' } := fun h' sb r => hQ h' (k :: L) true sb r (fun j => by rw [List.mem_cons]; exact Or.comm) (Nat.le_refl _)
    refine wpAny_bind (lets_go (fun b s1 Q1 q => by cases b <;> first | exact wpAny_pure q | exact wpAny_rule q) _ ?_)
    have led1 : w.params.followText "set-order" = true ∨ t1.led = true := hl.imp id fun q => l1.trans q
    split
    · refine wpAny_bind ?_
      rw [hashByValue_scannable 8 hsc]
      refine wpAny_pure (setG_put (L' := k :: L) (fun b s1 Q1 q => by cases b <;> first | exact wpAny_pure q | exact wpAny_rule q) ho hx hd g1 b1 ?_ ?_ ?_ fun h' sb r => ?_)
      · split <;> first | exact f1 | exact SetTable.fits_plain_off f1
      · split <;> exact r1
      · split <;> exact led1
      · exact wpAny_pure (fin h' sb r)
    · exact wpAny_bind (wpAny_pure (setG_put (L' := k :: L) (fun b s1 Q1 q => by cases b <;> first | exact wpAny_pure q | exact wpAny_rule q) ho hx hd g1 b1 f1 r1 led1 fun h' sb r => wpAny_pure (fin h' sb r)))
end
end L2
end

section
set_option Elab.async false
set_option linter.all false
set_option maxRecDepth 100000
set_option maxHeartbeats 4000000
/-! set(xs), xs a list or a tuple of scannable keys; sorted(set(xs)) of texts. -/
namespace L2
open PySem PySem.Spec PyProof.Rows
section
variable {P : Program} {w : World} {κ : Type} [DecidableEq κ] {G : KeyKind P w κ} {A : Around} {E : Value → Shared → Prop} {s : Shared}
abbrev newS (w : World) : Obj := { cls := .type "set", dict := none, data := .set #[] 0 (.fresh 0 0 (!w.params.followText "set-order")) }
theorem setG_new {h : Heap} {a : Addr} (e : h.get? a = some (newS w)) : SetG G h a [] := by
  refine ⟨_, #[], 0, _, ⟨e, ⟨rfl, rfl, rfl⟩, rfl⟩, ⟨fun e m => by simp at m, rfl, List.nodup_nil, fun k => by simp⟩, by decide, rfl, List.Pairwise.nil, ?_⟩
  rcases Bool.eq_false_or_eq_true (w.params.followText "set-order") with c | c
  · exact .inl c
  · exact .inr (show (!w.params.followText "set-order") = true by rw [c]; rfl)
theorem setG_loop {I S : Addr} {fp wr : List Addr} {Γ : Array GenState → Array GenState → Prop} {n : Nat} {Pv : Nat → Value → Prop} {St : Nat → Shared → Prop} {R : Result → Shared → Prop} (W : WalksS P w A.in1 I fp wr Γ n Pv St) (nS : S ∉ fp)
    {ks : List κ} (hn : n = ks.length) (hb : ks.length + 1 < scanBound) (hv : ∀ i v, Pv i v → ∃ k, ks[i]? = some k ∧ G.is k v = true ∧ v.scannable = true) :
    ∀ (m i : Nat) (s : Shared), n - i = m → i ≤ n → St i s → (∃ L, SetG G s.heap S L ∧ L.length ≤ i ∧ ∀ j, j ∈ L ↔ j ∈ ks.take i) →
      (∀ s' L, Moved (S :: wr) Γ s s' → SetG G s'.heap S L → L.length ≤ n → (∀ j, j ∈ L ↔ j ∈ ks) → R (.ok (.ret .none)) s') → codeAny (model P w) A (.builtin "set.update.loop" ⟨[.ref S, .ref I], []⟩) R s := by
  have nw : S ∉ wr := fun z => nS (W.sub _ z)
  have up : ∀ b ∈ wr, b ∈ S :: wr := fun b z => List.mem_cons_of_mem _ z
  intro m
  induction m with
  | zero =>
    intro i s e li st ⟨L, R0, lL, mL⟩ kR
    cases (show i = n by omega)
    refine codeAny_builtin F.entry_set_update_loop (by
      rw [Around.under_plainId F.plain_set_update_loop _]
      exact wpAny_bind (W.done s _ _ st fun s' mv => wpAny_pure (kR s' L (mv.mono up) (R0.keep fun o e => mv.heap S o nw e) lL (fun j => by rw [mL j, List.take_of_length_le (by omega)]))))
  | succ m ih =>
    intro i s e li st ⟨L, R0, lL, mL⟩ kR
    have lt : i < n := by omega
    refine codeAny_builtin F.entry_set_update_loop ?_
    rw [Around.under_plainId F.plain_set_update_loop _]
    refine wpAny_bind (W.item i s _ _ lt st fun v s' hP st' mv => ?_)
    obtain ⟨k, ek, hk, hsc⟩ := hv i v hP
    have R1 : SetG G s'.heap S L := R0.keep fun o e => mv.heap S o nw e
    show wpAny _ A.in1 (holding [v] (setAdd S v) >>= _) _ _ s'
    unfold setAdd
    refine wpAny_bind (wpAny_holding (wpAny_holding (wpAny_bind (G.pyHash hk (setG_add (s := { s' with toks := s'.toks + 1 }) hk hsc R1 (by omega) fun h' L' b sb R2 mL' lL' => ?_)))))
    have off : ∀ b o, b ≠ S → s'.heap.get? b = some o → h'.get? b = some o := fun b o z e => by rw [sb.2 b z]; exact e
    refine wpAny_pure ⟨plainId_quiet F.plain_set_update_loop _, ih (i + 1) _ (by omega) lt (W.frame _ s' _ _ st' (Nat.le_succ _) fun b z o e => off b o (fun q => nS (q ▸ z)) e) ⟨L', R2, by omega, fun j => ?_⟩ fun s2 L2 mv2 R3 => kR s2 L2 ?_ R3⟩
    · rw [mL' j, mL j, List.take_add_one, ek, List.mem_append]
      simp
    · exact Moved.trans W.gtrans ((mv.mono up).then_heap (Nat.le_succ _) fun b o z e => off b o (fun q => z (q ▸ List.mem_cons_self)) e) mv2

set_option maxHeartbeats 3200000 in
theorem call_setlist {l : Addr} {its : Array Value} {ks : List κ} {Q : Value → Shared → Prop} (hh : A.handled = none) (hl : s.heap.IsList l its) (sz : its.size = ks.length) (hb : ks.length + 1 < scanBound) (hv : ∀ (i : Nat) (v : Value), its[i]? = some v → ∃ k, ks[i]? = some k ∧ G.is k v = true ∧ v.scannable = true)
    (h : ∀ h' tk L, SetG G h' s.heap.objs.size L → L.length ≤ ks.length → (∀ j, j ∈ L ↔ j ∈ ks) → (∀ b o, s.heap.get? b = some o → h'.get? b = some o) → Q (.ref s.heap.objs.size) { s with heap := h', toks := tk }) : wpAny (model P w) A (call (.type "set") [.ref l]) Q E s := by
  have ⟨⟨c, tl, hmro⟩, hmade, hsub, hnt, hcr⟩ := And.intro F.called_set.mro (And.intro F.called_set.made (And.intro F.called_set.sub (And.intro F.called_set.notType F.called_set.canCreate)))
  have hct := F.typeCall_set_1 (.ref l)
  refine wpAny_call (codeAny_of_tree (show wpAny _ _ (callAny (.type "set") _) _ _ _ from wpAny_pure ⟨Code.quiet_builtin _ (by decide +kernel), codeAny_builtin F.entry_type_call ?_⟩))
  rw [Around.under_plain (weight_type_call_type "set" [.ref l] []) rfl]
  repeat (any_goals (first | assumption | wp_step))
  refine codeAny_mono (code_set_led1 (.ref l) (E := E) (Q₁ := fun v s1 => v = .ref s.heap.objs.size ∧ s1 = { s with heap := s.heap.push (newS w) }) ⟨rfl, rfl⟩) fun r s1 hr => ?_
  cases r with
  | error e => exact hr
  | ok fl =>
    cases fl with
    | ret v =>
      obtain ⟨rfl, rfl⟩ := hr
      have oS : (s.heap.push (newS w)).get? s.heap.objs.size = some (newS w) := Heap.get?_push_size _ rfl
      have tS : Shared.TypeIs { s with heap := s.heap.push (newS w) } (.ref s.heap.objs.size) "set" := ⟨_, oS, rfl⟩
      have ⟨hli, hbi⟩ := And.intro F.called_set.init.lookup (F.called_set.init.bind (.ref s.heap.objs.size))
      repeat (any_goals (first | assumption | wp_step))
      refine codeAny_mono (codeAny_call_builtin (R := wants (fun v s2 => v = .none ∧ ∃ h' tk L, s2 = { s with heap := h', toks := tk } ∧ SetG G h' s.heap.objs.size L ∧ L.length ≤ ks.length ∧ (∀ j, j ∈ L ↔ j ∈ ks) ∧ ∀ b o, s.heap.get? b = some o → h'.get? b = some o) E) F.called_set.init.plain F.entry_set_init (check_set_init_1 tS ?_)) fun r2 s2 hr2 => ?_
      · obtain ⟨⟨oc, od, oda, os⟩, hol, hc, nl, hd⟩ := hl
        simp only at hc hd
        subst hc; subst hd
        have ol1 : (s.heap.push (newS w)).get? l = some ⟨.type "list", od, .seq its nl, os⟩ := Heap.get?_push_of_some _ hol
        have ⟨sb1, sb2⟩ := And.intro F.sub_list_set F.sub_list_frozenset
        have nd : (Value.type "list" == Value.type "dict") = false := by decide
        have hl1 : (s.heap.push (newS w)).IsList l its := ⟨_, ol1, rfl, nl, rfl⟩
        have ls : l < s.heap.objs.size := Heap.lt_size hol
        have z1 : (s.heap.push (newS w)).objs.size = s.heap.objs.size + 1 := Heap.size_push ..
        unfold Builtin.«set.__init__» noKeywords Builtin.Frozenset.updateFrom
        generalize hPI : pyIter = PI
        wp_walk
        subst hPI
        refine wpAny_pyIter_list hl1 (wpAny_bind (wpAny_runValue ?_))
        have nI : l ≠ (s.heap.push (newS w)).objs.size := by rw [z1]; exact Nat.ne_of_lt (Nat.lt_succ_of_lt ls)
        have nS : s.heap.objs.size ∉ [(s.heap.push (newS w)).objs.size, l] := by
          rw [z1]
          intro z
          rcases List.mem_cons.mp z with z | z
          · exact Nat.ne_of_lt (Nat.lt_succ_self _) z
          · exact Nat.ne_of_gt ls (List.mem_singleton.mp z)
        refine setG_loop (G := G) ((Walks.list (show A.in1.in1.in1.handled = none by simp [hh]) _ l nI its).toS) nS sz hb hv (its.size - 0) 0 _ rfl (Nat.zero_le _) ⟨⟨_, Heap.get?_push_size _ rfl, rfl, rfl⟩, (hl1.push _)⟩ ⟨[], setG_new (Heap.get?_push_of_some _ oS), Nat.le_refl 0, fun j => by simp⟩ ?_
        intro s' L mv R lL mL
        obtain ⟨h', g', d', tk', os'⟩ := s'
        cases (show g' = s.gens from mv.gens); cases (show d' = s.drawn from mv.drawn); cases (show os' = s.os from mv.os)
        show wpAny _ _ _ _ _ _
        refine wpAny_pure (show wpAny _ _ (ret Value.none) _ _ _ from wpAny_pure ⟨rfl, h', tk', L, rfl, R, by omega, mL, fun b o e => ?_⟩)
        have lb := Heap.lt_size e
        refine mv.heap b o (fun z => ?_) (Heap.get?_push_of_some _ (Heap.get?_push_of_some _ e))
        rcases List.mem_cons.mp z with z | z
        · exact Nat.ne_of_lt lb z
        · have := List.mem_singleton.mp z
          rw [z1] at this
          exact Nat.ne_of_lt (Nat.lt_succ_of_lt lb) this
      · cases r2 with
        | error e => exact hr2
        | ok f2 =>
          cases f2 with
          | ret r =>
            obtain ⟨rfl, h', tk, L, rfl, R, lL, mL, kp⟩ := hr2
            repeat (any_goals (first | assumption | wp_step))
            exact h _ _ _ R lL mL kp
          | _ => exact hr2.elim
    | _ => exact hr.elim

set_option maxHeartbeats 3200000 in
theorem call_settuple {l : Addr} {its : Array Value} {ks : List κ} {Q : Value → Shared → Prop} (hh : A.handled = none) (hl : s.heap.IsTuple l its) (sz : its.size = ks.length) (hb : ks.length + 1 < scanBound) (hv : ∀ (i : Nat) (v : Value), its[i]? = some v → ∃ k, ks[i]? = some k ∧ G.is k v = true ∧ v.scannable = true)
    (h : ∀ h' tk L, SetG G h' s.heap.objs.size L → L.length ≤ ks.length → (∀ j, j ∈ L ↔ j ∈ ks) → (∀ b o, s.heap.get? b = some o → h'.get? b = some o) → Q (.ref s.heap.objs.size) { s with heap := h', toks := tk }) : wpAny (model P w) A (call (.type "set") [.ref l]) Q E s := by
  have ⟨⟨c, tl, hmro⟩, hmade, hsub, hnt, hcr⟩ := And.intro F.called_set.mro (And.intro F.called_set.made (And.intro F.called_set.sub (And.intro F.called_set.notType F.called_set.canCreate)))
  have hct := F.typeCall_set_1 (.ref l)
  refine wpAny_call (codeAny_of_tree (show wpAny _ _ (callAny (.type "set") _) _ _ _ from wpAny_pure ⟨Code.quiet_builtin _ (by decide +kernel), codeAny_builtin F.entry_type_call ?_⟩))
  rw [Around.under_plain (weight_type_call_type "set" [.ref l] []) rfl]
  repeat (any_goals (first | assumption | wp_step))
  refine codeAny_mono (code_set_led1 (.ref l) (E := E) (Q₁ := fun v s1 => v = .ref s.heap.objs.size ∧ s1 = { s with heap := s.heap.push (newS w) }) ⟨rfl, rfl⟩) fun r s1 hr => ?_
  cases r with
  | error e => exact hr
  | ok fl =>
    cases fl with
    | ret v =>
      obtain ⟨rfl, rfl⟩ := hr
      have oS : (s.heap.push (newS w)).get? s.heap.objs.size = some (newS w) := Heap.get?_push_size _ rfl
      have tS : Shared.TypeIs { s with heap := s.heap.push (newS w) } (.ref s.heap.objs.size) "set" := ⟨_, oS, rfl⟩
      have ⟨hli, hbi⟩ := And.intro F.called_set.init.lookup (F.called_set.init.bind (.ref s.heap.objs.size))
      repeat (any_goals (first | assumption | wp_step))
      refine codeAny_mono (codeAny_call_builtin (R := wants (fun v s2 => v = .none ∧ ∃ h' tk L, s2 = { s with heap := h', toks := tk } ∧ SetG G h' s.heap.objs.size L ∧ L.length ≤ ks.length ∧ (∀ j, j ∈ L ↔ j ∈ ks) ∧ ∀ b o, s.heap.get? b = some o → h'.get? b = some o) E) F.called_set.init.plain F.entry_set_init (check_set_init_1 tS ?_)) fun r2 s2 hr2 => ?_
      · obtain ⟨⟨oc, od, oda, os⟩, hol, hc, nl, hd⟩ := hl
        simp only at hc hd
        subst hc; subst hd
        have ol1 : (s.heap.push (newS w)).get? l = some ⟨.type "tuple", od, .seq its nl, os⟩ := Heap.get?_push_of_some _ hol
        have ⟨sb1, sb2⟩ := And.intro F.sub_tuple_set F.sub_tuple_frozenset
        have nd : (Value.type "tuple" == Value.type "dict") = false := by decide
        have hl1 : (s.heap.push (newS w)).IsTuple l its := ⟨_, ol1, rfl, nl, rfl⟩
        have ls : l < s.heap.objs.size := Heap.lt_size hol
        have z1 : (s.heap.push (newS w)).objs.size = s.heap.objs.size + 1 := Heap.size_push ..
        unfold Builtin.«set.__init__» noKeywords Builtin.Frozenset.updateFrom
        generalize hPI : pyIter = PI
        wp_walk
        subst hPI
        refine wpAny_pyIter_tuple hl1 (wpAny_bind (wpAny_runValue ?_))
        have nI : l ≠ (s.heap.push (newS w)).objs.size := by rw [z1]; exact Nat.ne_of_lt (Nat.lt_succ_of_lt ls)
        have nS : s.heap.objs.size ∉ [(s.heap.push (newS w)).objs.size, l] := by
          rw [z1]
          intro z
          rcases List.mem_cons.mp z with z | z
          · exact Nat.ne_of_lt (Nat.lt_succ_self _) z
          · exact Nat.ne_of_gt ls (List.mem_singleton.mp z)
        refine setG_loop (G := G) ((Walks.tuple (show A.in1.in1.in1.handled = none by simp [hh]) _ l nI its).toS) nS sz hb hv (its.size - 0) 0 _ rfl (Nat.zero_le _) ⟨⟨_, Heap.get?_push_size _ rfl, rfl, rfl⟩, (hl1.push _)⟩ ⟨[], setG_new (Heap.get?_push_of_some _ oS), Nat.le_refl 0, fun j => by simp⟩ ?_
        intro s' L mv R lL mL
        obtain ⟨h', g', d', tk', os'⟩ := s'
        cases (show g' = s.gens from mv.gens); cases (show d' = s.drawn from mv.drawn); cases (show os' = s.os from mv.os)
        show wpAny _ _ _ _ _ _
        refine wpAny_pure (show wpAny _ _ (ret Value.none) _ _ _ from wpAny_pure ⟨rfl, h', tk', L, rfl, R, by omega, mL, fun b o e => ?_⟩)
        have lb := Heap.lt_size e
        refine mv.heap b o (fun z => ?_) (Heap.get?_push_of_some _ (Heap.get?_push_of_some _ e))
        rcases List.mem_cons.mp z with z | z
        · exact Nat.ne_of_lt lb z
        · have := List.mem_singleton.mp z
          rw [z1] at this
          exact Nat.ne_of_lt (Nat.lt_succ_of_lt lb) this
      · cases r2 with
        | error e => exact hr2
        | ok f2 =>
          cases f2 with
          | ret r =>
            obtain ⟨rfl, h', tk, L, rfl, R, lL, mL, kp⟩ := hr2
            repeat (any_goals (first | assumption | wp_step))
            exact h _ _ _ R lL mL kp
          | _ => exact hr2.elim
    | _ => exact hr.elim
end
end L2
end

section
set_option Elab.async false
set_option linter.all false
set_option maxRecDepth 100000
set_option maxHeartbeats 4000000
/-! sorted(set(xs)) of texts. -/
namespace L2
open PySem PySem.Spec PyProof.Rows
theorem perm_nodup {κ : Type} [DecidableEq κ] : ∀ (L ys : List κ), L.Nodup → (∀ x ∈ L, x ∈ ys) → ys.length = L.length → ys.Perm L
  | [], ys, _, _, l => by
    cases List.eq_nil_of_length_eq_zero l
    exact .refl _
  | x :: L, ys, n, m, l => by
    have hx := m x (List.mem_cons_self ..)
    have n2 := List.nodup_cons.mp n
    have pe := List.perm_cons_erase hx
    refine pe.trans (.cons x (perm_nodup L (ys.erase x) n2.2 (fun y my => (List.mem_erase_of_ne (fun z => n2.1 (by rw [← z]; exact my))).mpr (m y (List.mem_cons_of_mem _ my))) ?_))
    have := pe.length_eq
    rw [List.length_cons] at this l
    omega
def txtV (v : Value) : Str := match v with
  | .str x _ => x
  | _ => ""
theorem strs_txt : ∀ (vs : List Value), (∀ v ∈ vs, ∃ x t, v = Value.str x t) → StrsAre vs (vs.map txtV)
  | [], _ => .nil
  | v :: vs, h => by
    obtain ⟨x, t, rfl⟩ := h v List.mem_cons_self
    exact .cons x t (strs_txt vs fun u m => h u (List.mem_cons_of_mem _ m))
section
variable {P : Program} {w : World} {A : Around} {E : Value → Shared → Prop} {s : Shared}
theorem sorted_setS {a : Addr} {L : List Str} {Q : Value → Shared → Prop} (R : SetG (PySem.strKind P w) s.heap a L) (hh : A.handled = none) (h64 : L.length < 64)
    (hQ : ∀ s' p (out : Array Value) (c : Nat) (ys : List Str), (∀ b o, s.heap.get? b = some o → s'.heap.get? b = some o) → s'.gens = s.gens → s'.os = s.os → s.heap.objs.size ≤ p → s'.heap.get? p = some (seqObj "list" out c) → StrsAre out.toList ys → ys.Perm L → sortedS ys = true → Q (.ref p) s') :
    wpAny (model P w) A (call (.builtin "sorted") [.ref a]) Q E s := by
  obtain ⟨o, es, ep, t, ⟨ho, hx, hd⟩, g, hb, hf, hr, hl⟩ := R
  refine Calls.call_function_entry kind_sorted plain_sorted entry_sorted (args_sorted1 _) ?_
  unfold Builtin.«sorted»
  refine wpAny_bind (m := checkCount "sorted" 1 1 _) (wpAny_pure (wpAny_bind (collect_set (A := A.in1) hh ⟨o, ho, hx.1, hd⟩ hf hb hr hl fun s1 vs k1 z1 g1 o1 pm => ?_)))
  have lv : vs.length = L.length := by rw [pm.length_eq, List.length_map, Array.length_toList, g.2.1]
  have hS : StrsAre vs (vs.map txtV) := strs_txt vs fun v m => by
    obtain ⟨e, me, rfl⟩ := List.mem_map.mp (pm.mem_iff.mp m)
    obtain ⟨⟨k, hk, _⟩, _⟩ := g.1 e me
    obtain ⟨t, q⟩ := Value.isStrOf_shape hk
    exact ⟨k, t, q⟩
  have pL : (vs.map txtV).Perm L := perm_nodup L _ g.2.2.1 (fun x m => by
    obtain ⟨e, me, q⟩ := (g.2.2.2 x).mp m
    obtain ⟨t, q⟩ := Value.isStrOf_shape q
    exact List.mem_map.mpr ⟨e.2, pm.mem_iff.mpr (List.mem_map.mpr ⟨e, me, rfl⟩), by rw [q]; rfl⟩) (by rw [List.length_map, lv])
  refine wpAny_bind (wpAny_newList ?_ (by rw [lv, sizeLine_eq]; omega))
  have oL : (s1.heap.push (seqObj "list" vs.toArray 0)).get? s1.heap.objs.size = some (seqObj "list" vs.toArray 0) := Heap.get?_push_size _ rfl
  refine wpAny_bind (wpAny_holding (wpAny_call_entry slot_list_sort ⟨_, oL, rfl⟩ entry_list_sort (list_sort_treeK strKind_oneLt oL hS.keysOf (fun v₁ v₂ rest e => keyKind_strs (by rw [← e]; exact hS)) (by rw [lv]; exact h64) fun st' hp hs => ⟨_, rfl, ?_⟩) (args_list_sort _)))
  obtain ⟨ys, g1', g2, g3⟩ := sorted_out_str hS hp hs
  obtain ⟨c, hc⟩ := sortedHeap_at (vs := vs) (out := (arrOf st').map (·.2)) oL
  refine wpAny_pure ⟨_, rfl, hQ _ s1.heap.objs.size _ c ys (fun b u e => ?_) g1 o1 z1 hc g1' (g2.trans pL) g3⟩
  have q := k1 b u e
  have lt := Heap.lt_size q
  rw [show ∀ z, (sortedHeap (s1.heap.push (seqObj "list" vs.toArray 0)) s1.heap.objs.size vs z).get? b = some u from fun z => by
    rw [sortedHeap_old (Nat.ne_of_lt lt) (by rw [size_push']; exact Nat.lt_succ_of_lt lt)]
    exact Heap.get?_push_of_some _ q]
end
end L2
end

section
set_option Elab.async false
set_option linter.all false
set_option maxRecDepth 100000
set_option maxHeartbeats 4000000
/-! The hand rules: set(xs) of a list or tuple of texts; sorted of such a set. -/
namespace L2
open PySem PySem.Spec PyProof.Rows
/-- a set of texts, known by its keys -/
def SetTx (P : Program) (w : World) (a : Addr) (L : List Str) : HO := .ext fun h => SetG (PySem.strKind P w) h a L
theorem setTx_ok {P : Program} {w : World} {H : Hp} {h : Heap} {a : Addr} {L : List Str} (R : SetG (PySem.strKind P w) h a L) : ObjOk P w H h a (SetTx P w a L) := by
  obtain ⟨o, ho, _⟩ := R.ob
  exact ⟨R, ⟨o, ho⟩, fun h1 h2 p k => SetG.keep p k⟩
theorem txs_at : ∀ {xs : List Str} {us : List Value}, Vals (xs.map V.str) us → ∀ (i : Nat) (v : Value), us[i]? = some v → ∃ x, xs[i]? = some x ∧ ∃ t, v = .str x t
  | [], _, .nil, i, v, e => by cases i <;> cases e
  | x :: xs, _, .cons r t, 0, v, e => by
    obtain ⟨k, rfl⟩ := r
    cases e
    exact ⟨x, rfl, k, rfl⟩
  | x :: xs, _, .cons r t, i + 1, v, e => txs_at t i v e
section
variable {X : Cx}
/-- set(xs) -/
def rSetTx (K : PySem.W.Frag) (P : Program) (w : World) : List V → Hp → VK → Prop := fun vs H Q => ∃ (l : Addr) (xs : List Str), vs = [V.ref l] ∧ (SqL K H l (xs.map V.str) ∨ SqT K H l (xs.map V.str)) ∧ xs.length ≤ 1000 ∧
  ∀ a L, H a = none → L.length ≤ xs.length → L.Nodup → (∀ x, x ∈ L ↔ x ∈ xs) → Q (.ref a) (upd H a (SetTx P w a L))
theorem cr_setTx (hc : X.calm = true) : CallR X (.type "set") (rSetTx X.K X.prog X.w) := by
  intro pins s σ H vs us Q I r h
  obtain ⟨l, xs, rfl, hl, hz, q⟩ := h
  rw [Vals.ref1 r]
  have hn : H s.heap.objs.size = none := I.hok.fresh (Nat.le_refl _)
  have hb : xs.length + 1 < scanBound := by
    have : scanBound = 4096 := rfl
    omega
  have at_ : ∀ {its : List Value}, Vals (xs.map V.str) its → its.toArray.size = xs.length ∧ ∀ (i : Nat) (v : Value), its.toArray[i]? = some v → ∃ k, xs[i]? = some k ∧ (PySem.strKind X.prog X.w).is k v = true ∧ v.scannable = true := fun {its} rv => by
    have l1 := rv.length
    rw [List.length_map] at l1
    refine ⟨by rw [List.size_toArray]; exact l1.symm, fun i v e => ?_⟩
    obtain ⟨x, ex, t, rfl⟩ := txs_at rv i v (by simpa using e)
    exact ⟨x, ex, PySem.strKind_is _ _ _ _, rfl⟩
  have fin : ∀ (h' : Heap) (tk : Nat) (L : List Str), SetG (PySem.strKind X.prog X.w) h' s.heap.objs.size L → L.length ≤ xs.length → (∀ j, j ∈ L ↔ j ∈ xs) → (∀ b o, s.heap.get? b = some o → h'.get? b = some o) → EP X pins σ Q (.ref s.heap.objs.size) { s with heap := h', toks := tk } := fun h' tk L R lL mL k => by
    obtain ⟨_, _, _, _, _, g, _⟩ := id R
    exact ⟨.ref s.heap.objs.size, upd H s.heap.objs.size (SetTx X.prog X.w s.heap.objs.size L), I.laid (t' := tk) k (Nat.le_refl _) (setTx_ok R), rfl, q _ L hn lL g.2.2.1 mL⟩
  rcases hl with hl | hl
  · obtain ⟨its, rv, pl, _⟩ := I.list hl
    exact call_setlist (G := PySem.strKind X.prog X.w) (I.ok.hd hc) pl.isList (at_ rv).1 hb (at_ rv).2 fin
  · obtain ⟨its, rv, pl, _⟩ := I.tuple hl
    exact call_settuple (G := PySem.strKind X.prog X.w) (I.ok.hd hc) pl (at_ rv).1 hb (at_ rv).2 fin
/-- sorted(set) of fewer than 64 texts -/
def rSortTx (P : Program) (w : World) : List V → Hp → VK → Prop := fun vs H Q => ∃ (a : Addr) (L : List Str), vs = [V.ref a] ∧ H a = some (SetTx P w a L) ∧ L.length < 64 ∧ ∀ ys p, ys.Perm L → sortedS ys = true → H p = none → Q (.ref p) (upd H p (.lst (ys.map V.str)))
theorem cr_sortedTx (hc : X.calm = true) : CallR X (.builtin "sorted") (rSortTx X.prog X.w) := by
  intro pins s σ H vs us Q I r h
  obtain ⟨a, L, rfl, ha, h64, q⟩ := h
  have R : SetG (PySem.strKind X.prog X.w) s.heap a L := (I.hok a _ ha).1
  rw [Vals.ref1 r]
  refine sorted_setS R (I.ok.hd hc) h64 fun s' p out c ys k g o hp hg hS pm st => ?_
  have hn : H p = none := I.hok.fresh hp
  have lz : (ys.map V.str).length ≤ sizeLine := by rw [List.length_map, pm.length_eq, sizeLine_eq]; omega
  have J : Inv X pins σ (upd H p (.lst (ys.map V.str))) { s with heap := s'.heap, gens := s'.gens, drawn := s'.drawn, toks := s'.toks } :=
    I.call (ch := []) (Un.laid k hp hn) (I.hok.laid k hp ⟨lz, out.toList, c, vals_of_strs hS, hg⟩) (by rw [g]; exact I.bare) (fun _ z => nomatch z)
  have e : s' = { s with heap := s'.heap, gens := s'.gens, drawn := s'.drawn, toks := s'.toks } := by
    cases s'; cases s; cases o; rfl
  rw [e]
  exact ⟨.ref p, _, J, rfl, q ys p pm st hn⟩
end
end L2
end

section
set_option Elab.async false
set_option linter.all false
set_option maxRecDepth 100000
set_option maxHeartbeats 4000000
/-! The hand rule: sorted of a list of data (texts, tuples of texts ..). -/
namespace L2
open PySem PySem.Spec PyProof.Rows
theorem each_zip : ∀ {xs : List V} {us : List Value} {ds : List PyData}, Vals xs us → xs.length = ds.length → PySem.W.EachIs (fun v (b : V × PyData) => RelV b.1 v) us (xs.zip ds)
  | _, _, [], .nil, _ => .nil
  | _, _, d :: ds, .cons r t, l => .cons r (each_zip t (by simpa using l))
theorem vals_each : ∀ {zs : List (V × PyData)} {us : List Value}, PySem.W.EachIs (fun v (b : V × PyData) => RelV b.1 v) us zs → Vals (zs.map (·.1)) us
  | _, _, .nil => .nil
  | _, _, .cons r t => .cons r (vals_each t)
theorem dpAll_len {K : PySem.W.Frag} {H : Hp} : ∀ {xs : List V} {ds : List PyData}, DpAll K H xs ds → xs.length = ds.length
  | _, _, .nil => rfl
  | _, _, .cons _ r => by rw [List.length_cons, List.length_cons, dpAll_len r]
theorem zip_snd : ∀ {xs : List V} {ds : List PyData}, xs.length = ds.length → (xs.zip ds).map (·.2) = ds
  | [], [], _ => rfl
  | x :: xs, d :: ds, l => by rw [List.zip_cons_cons, List.map_cons, zip_snd (by simpa using l)]
section
variable {X : Cx}
def rSortD (K : PySem.W.Frag) : List V → Hp → VK → Prop := fun vs H Q => ∃ (a : Addr) (xs : List V) (ds : List PyData), vs = [V.ref a] ∧ SqL K H a xs ∧ DpAll K H xs ds ∧ PySem.W.AllAlike ds ∧ PySem.W.Sortable ds ∧ (∀ d ∈ ds, d.depth ≤ 10) ∧ xs.length ≤ 1000 ∧
  ∀ p, H p = none → Q (.ref p) (upd H p (.lst (((xs.zip ds).mergeSort (PySem.W.dataLe false (·.2))).map (·.1))))
theorem cr_sortedD (hu : X.A.units + 64 < cLine) : CallR X (.builtin "sorted") (rSortD X.K) := by
  intro pins s σ H vs us Q I r h
  obtain ⟨a, xs, ds, rfl, hl, hd, al, so, dp, z, q⟩ := h
  rw [Vals.ref1 r]
  obtain ⟨its, rv, pl, hz⟩ := I.list hl
  have ln := dpAll_len hd
  have zs := zip_snd ln
  have zl : (xs.zip ds).length = xs.length := by rw [List.length_zip, ← ln, Nat.min_self]
  obtain ⟨as, rd⟩ := Dp.readsAll I ds xs its hd rv
  refine PySem.W.sorted_data (β := V × PyData) (bs := xs.zip ds) (enc := fun b : V × PyData => b.2) (R := fun v b => RelV b.1 v) pl.isList (each_zip rv ln) (PySem.W.readsAll_each (fun b : V × PyData => b.2) (by rw [zs]; exact rd)) (by rw [zs]; exact al) (by rw [zs]; exact so) (by rw [zl, sizeLine_eq]; omega) (fun b m => ?_) fun out lo ev => ?_
  · have : b.2 ∈ ds := by rw [← zs]; exact List.mem_map.mpr ⟨b, m, rfl⟩
    have := dp _ this
    omega
  · obtain ⟨e, he⟩ := PyProof.Rows.sortedAll_at s.heap its (List.toArray out)
    have hv := vals_each ev
    have lz : (((xs.zip ds).mergeSort (PySem.W.dataLe false (·.2))).map (·.1)).length ≤ sizeLine := by rw [List.length_map, List.length_mergeSort, zl, sizeLine_eq]; omega
    exact ⟨.ref _, upd H (s.heap.objs.size + 1) (.lst (((xs.zip ds).mergeSort (PySem.W.dataLe false (·.2))).map (·.1))), I.laid (t' := s.toks) (fun _ _ => PyProof.Rows.sortedAll_old) (Nat.le_succ _) ⟨lz, out, e, hv, he⟩, rfl, q _ (I.hok.fresh (Nat.le_succ _))⟩
end
end L2
end

section
set_option Elab.async false
set_option linter.all false
set_option maxRecDepth 100000
set_option maxHeartbeats 4000000
/-! == of two dicts whose keys are tuples and whose values have an own ==. -/
namespace L2
open PySem PySem.Spec PyProof.Rows
section
variable {P : Program} {w : World} {κ : Type} [DecidableEq κ] {G : HeapKind P w κ} {A : Around} {E : Value → Shared → Prop}
theorem samePairsH {nm : String} {a b : Addr} {oa ob : Obj} {ea eb : Array DictEntry} {pa pb : Nat} {xa xb : List (κ × Addr × Value)} {I : Nat → Shared → Prop} {B : Nat → Bool} {Q : Bool → Shared → Prop} (hu : G.room A)
    (na : (a == sysModules) = false) (nb : (b == sysModules) = false) (da : oa.data = .dict ea pa) (db : ob.data = .dict eb pb) (la : ea.toList = xa.map (entryOfKey G)) (lb : eb.toList = xb.map (entryOfKey G)) (dn : (xb.map (·.1)).Nodup)
    (hI : ∀ i s, I i s → s.heap.get? a = some oa ∧ s.heap.get? b = some ob ∧ (∀ x ∈ xa, G.is s.heap x.1 x.2.1) ∧ ∀ x ∈ xb, G.is s.heap x.1 x.2.1)
    (turn : ∀ (i : Nat) (k : κ) (p : Addr) (v : Value), xa[i]? = some (k, p, v) → ∀ s, I i s → (∀ (j : Nat) (q : Addr) (y : Value), xb[j]? = some (k, q, y) → wpAny (model P w) A (eqBool v y) (fun r s' => r = B i ∧ I (i + 1) s') E s) ∧ ((∀ (j : Nat) (p : Addr × Value), xb[j]? ≠ some (k, p)) → B i = false))
    (kL : xa.length ≠ xb.length → ∀ s, I 0 s → Q false s) (kF : ∀ i s, xa.length = xb.length → i < xa.length → B i = false → I i s ∨ I (i + 1) s → Q false s) (kT : xa.length = xb.length → (∀ i, i < xa.length → B i = true) → ∀ s, I xa.length s → Q true s) {s : Shared} (h : I 0 s) :
    wpAny (model P w) A (Builtin.Dict.samePairs nm a b) Q E s := by
  have sa : ea.size = xa.length := size_of_entries la
  have sb : eb.size = xb.length := size_of_entries lb
  obtain ⟨ha, hb, _, _⟩ := hI 0 s h
  unfold Builtin.Dict.samePairs Builtin.Dict.showsAll
  rw [na, nb]
  simp only [Bool.false_eq_true, if_false]
  refine wpAny_bind (wpAny_pure (wpAny_bind (wpAny_pure (wpAny_bind (wpAny_dictEntries ha da (wpAny_bind (wpAny_dictEntries hb db ?_)))))))
  by_cases c : ea.size = eb.size
  · rw [if_neg (by rw [c]; simp)]
    have el : xa.length = xb.length := by omega
    refine wpAny_bind (wpAny_dictEpoch ha da (wpAny_bind ?_))
    rw [Std.Legacy.Range.forIn_eq_forIn_range']
    simp only [Std.Legacy.Range.size, Nat.sub_zero, Nat.add_sub_cancel, Nat.div_one]
    refine wpAny_forIn_list _ (fun rest q s' => q = (none, ()) ∧ ∃ i, rest = List.range' i (ea.size - i) ∧ i ≤ ea.size ∧ (∀ j, j < i → B j = true) ∧ I i s') _ ?_ ?_ _ _ ⟨rfl, 0, by simp, Nat.zero_le _, fun j z => absurd z (Nat.not_lt_zero j), h⟩
    · rintro x rest q s' ⟨rfl, i, hr, hi, hB, hi2⟩
      have lt : i < ea.size := by
        rcases Nat.lt_or_ge i ea.size with z | z
        · exact z
        · rw [Nat.sub_eq_zero_of_le z] at hr; simp at hr
      rw [show ea.size - i = (ea.size - (i + 1)) + 1 by omega, List.range'_succ] at hr
      injection hr with h1 h2
      subst h1
      obtain ⟨ha, hb, ka, kb⟩ := hI x s' hi2
      obtain ⟨⟨k, p, v⟩, ex⟩ : ∃ y, xa[x]? = some y := ⟨_, List.getElem?_eq_getElem (by omega)⟩
      have ee : ea[x]? = some (entryOfKey G (k, p, v)) := by rw [entry_at la, ex]; rfl
      obtain ⟨t1, t2⟩ := turn x k p v ex s' hi2
      refine wpAny_bind (wpAny_dictEntries ha da ?_)
      rw [ee]
      show wpAny _ _ (holding [Value.ref p, v] _ >>= _) _ _ _
      refine wpAny_bind (wpAny_holding (wpAny_bind (wpAny_dictFind_heap hu (ka _ (List.mem_of_getElem? ex)) hb db lb kb dn (fun no => ?_) fun j y ey => ?_)))
      · exact wpAny_pure (by
          show wpAny _ _ (if (!false) = true then _ else _) _ _ _
          rw [if_pos (by decide)]
          exact wpAny_pure (wpAny_pure (kF x s' el (by omega) (t2 no) (.inl hi2))))
      · obtain ⟨q, y⟩ := y
        have e2 : eb[j]? = some (entryOfKey G (k, q, y)) := by rw [entry_at lb, ey]; rfl
        refine wpAny_bind (wpAny_dictEntries hb db ?_)
        rw [e2]
        refine wpAny_holding (wpAny_mono (t1 j q y ey) (fun r s2 ⟨er, i2⟩ => ?_) fun _ _ z => z)
        subst er
        cases c2 : B x with
        | false =>
          show wpAny _ _ (if (!false) = true then _ else _) _ _ _
          rw [if_pos (by decide)]
          exact wpAny_pure (wpAny_pure (kF x s2 el (by omega) c2 (.inr i2)))
        | true =>
          show wpAny _ _ (if (!true) = true then _ else _) _ _ _
          rw [if_neg (by decide)]
          obtain ⟨ha2, _⟩ := hI (x + 1) s2 i2
          refine wpAny_bind (wpAny_dictEpoch ha2 da ?_)
          rw [if_neg (by simp)]
          refine wpAny_pure ⟨rfl, x + 1, h2, lt, fun j z => ?_, i2⟩
          rcases Nat.lt_or_ge j x with z2 | z2
          · exact hB j z2
          · rw [show j = x by omega]; exact c2
    · rintro q s' ⟨rfl, i, hr, hi, hB, hi2⟩
      have e : i = ea.size := by
        rcases Nat.lt_or_ge i ea.size with z | z
        · rw [show ea.size - i = (ea.size - (i + 1)) + 1 by omega, List.range'_succ] at hr
          cases hr
        · omega
      rw [e, sa] at hi2
      exact wpAny_pure (kT el (fun j z => hB j (by omega)) s' hi2)
  · rw [if_pos (by simpa using c)]
    exact wpAny_bind (wpAny_rule (wpAny_pure (kL (by omega) s h)))
end
end L2
end

section
set_option Elab.async false
set_option linter.all false
set_option maxRecDepth 100000
set_option maxHeartbeats 2000000
/-! == by an own __eq__ and of tuples of such values, where it may say True or False. -/
namespace GQ
open PySem PySem.SeqAt
open AutoSeq1 (wpAny_loadPart')
open MeetsSeq MeetsSeq2 MeetsSeq3 SeqRoads2
section
variable {prog : Program} {w : World} {A : Around} {R : Result → Shared → Prop}
theorem tuple_eqB (l b : Addr) (items items2 : Array Value) (n n2 : Nat) (dd dd2 : Option Addr) (sl sl2 : Array (Option Value)) (F : Nat → Bool) (I : Nat → Shared → Prop)
    (turn : ∀ i (h1 : i < items.size) (h2 : i < items2.size) s, I i s → wpAny (model prog w) A.in1 (eqBool items[i] items2[i]) (fun r s' => r = F i ∧ I (i + 1) s') (fun e s' => R (.error e) s') s)
    (finT : ∀ i s, (i = items.size ∨ i = items2.size) → i ≤ items.size → i ≤ items2.size → (∀ j, j < i → F j = true) → I i s → R (.ok (.ret (.bool (items.size == items2.size)))) s)
    (finF : ∀ i s, i < items.size → i < items2.size → F i = false → I (i + 1) s → R (.ok (.ret (.bool false))) s)
    {s : Shared} (hl1 : s.heap.get? l = some { cls := .type "tuple", dict := dd, data := .seq items n, slots := sl }) (hb1 : s.heap.get? b = some { cls := .type "tuple", dict := dd2, data := .seq items2 n2, slots := sl2 }) (h : I 0 s) :
    wpAny (model prog w) A.in1 (Builtin.«tuple.__eq__» ⟨[.ref l, .ref b], []⟩) (FinOf prog w A R) (fun e s' => R (.error e) s') s := by
  have f2 := AutoSeq1.sub_tuple_tuple
  have hZ : (items.toList.zip items2.toList).length = min items.size items2.size := by simp
  have h0 := h
  obtain ⟨hp, g, d, tk, os⟩ := s
  wp_walk using wpAny_loadPart' hl1, wpAny_loadPart' hb1, wpAny_forIn_list _ (fun rest b s' => b.1 = none ∧ ∃ i, rest = (items.toList.zip items2.toList).drop i ∧ i ≤ items.size ∧ i ≤ items2.size ∧ (∀ j, j < i → F j = true) ∧ I i s') _
  case turn =>
    rintro ⟨y, x⟩ rest b s' ⟨hb', i, hz, hi, hi2, hF, hI⟩
    have hlt : i < (items.toList.zip items2.toList).length := by
      rcases Nat.lt_or_ge i (items.toList.zip items2.toList).length with h' | h'
      · exact h'
      · rw [List.drop_of_length_le h'] at hz; cases hz
    have h1 : i < items.size := by omega
    have h2 : i < items2.size := by omega
    rw [List.drop_eq_getElem_cons hlt] at hz
    injection hz with hyx hrest
    have hy : y = items[i] := by have := congrArg Prod.fst hyx; simpa using this
    have hx : x = items2[i] := by have := congrArg Prod.snd hyx; simpa using this
    subst hy hx
    refine wpAny_bind (wpAny_mono (turn i h1 h2 s' hI) (fun r s2 q2 => ?_) fun _ _ x => x)
    obtain ⟨hr, q2⟩ := q2
    subst hr
    cases e : F i with
    | true =>
      wp_walk
      exact ⟨rfl, i + 1, hrest, h1, h2, fun j hj => by
        by_cases ej : j = i
        · rw [ej]; exact e
        · exact hF j (by omega), q2⟩
    | false =>
      have hR := finF i s2 h1 h2 e q2
      wp_walk
      exact hR
  case fin =>
    rintro ⟨b1, b2⟩ s' ⟨hb', i, hz, hi, hi2, hF, hI⟩
    simp only at hb'
    subst hb'
    have hge : min items.size items2.size ≤ i := by
      rcases Nat.lt_or_ge i (items.toList.zip items2.toList).length with h' | h'
      · rw [List.drop_eq_getElem_cons h'] at hz; cases hz
      · exact hZ ▸ h'
    have hR := finT i s' (by omega) hi hi2 hF hI
    wp_walk
    simpa [Builtin.Tuple.tupleCompareSizes] using hR
  case h =>
    exact ⟨rfl, 0, rfl, Nat.zero_le _, Nat.zero_le _, fun j hj => absurd hj (Nat.not_lt_zero _), h0⟩
end
section
variable {prog : Program} {w : World} {A : Around} {E : Value → Shared → Prop} {s : Shared}
theorem rc_tupB {l b : Addr} {items items2 : Array Value} {Q : Value → Shared → Prop} (hu : A.units < cLine) (Fb : Nat → Bool) (I : Nat → Shared → Prop)
    (hl : s.heap.IsTuple l items) (hb : s.heap.IsTuple b items2)
    (turn : ∀ i (h1 : i < items.size) (h2 : i < items2.size) s, I i s → wpAny (model prog w) A.in1 (eqBool items[i] items2[i]) (fun r s' => r = Fb i ∧ I (i + 1) s') E s)
    (finT : ∀ i s, (i = items.size ∨ i = items2.size) → i ≤ items.size → i ≤ items2.size → (∀ j, j < i → Fb j = true) → I i s → Q (.bool (items.size == items2.size)) s)
    (finF : ∀ i s, i < items.size → i < items2.size → Fb i = false → I (i + 1) s → Q (.bool false) s) (h : I 0 s) : wpAny (model prog w) A (richCompare .Eq (.ref l) (.ref b)) Q E s := by
  obtain ⟨⟨cls, dd, data, sl⟩, ho, hc, n, hd⟩ := id hl
  obtain ⟨⟨cls2, dd2, data2, sl2⟩, ho2, hc2, n2, hd2⟩ := id hb
  simp only at hc hd hc2 hd2
  subst hc hd hc2 hd2
  refine wpAny_richCompare_same_room (op := .Eq) ⟨_, ho, rfl⟩ ⟨_, ho2, rfl⟩ F.slot_tuple_eq (call_here F.slot_tuple_eq ⟨_, ho, rfl⟩ F.entry_tuple_eq (F.args_tuple_eq_2 _ _) ?_) hu
  exact tuple_eqB (R := wants (fun v s' => v ≠ .notImplemented ∧ Q v s') E) l b items items2 n n2 dd dd2 sl sl2 Fb I turn (fun i s' a b c d q => ⟨(fun x => nomatch x), finT i s' a b c d q⟩) (fun i s' a b c q => ⟨(fun x => nomatch x), finF i s' a b c q⟩) ho ho2 h
end
end GQ
end

section
set_option Elab.async false
set_option linter.all false
set_option maxRecDepth 100000
set_option maxHeartbeats 2000000
/-! == by an own __eq__ and of tuples of such values: the hand's rules. -/
namespace L2
open PySem PySem.Spec PyProof.Rows
abbrev EqvB := V → V → Hp → Bool → Prop
def MonB (D : EqvB) : Prop := ∀ x y b H H', Ext H H' → D x y H b → D x y H' b
def EqB (X : Cx) (n : Nat) (D : EqvB) : Prop :=
  ∀ (A : Around) (pins : List (Addr × Obj)) (s : Shared) (σ : St) (H : Hp) (x y : V) (u v : Value) (b : Bool), Sub X n A → Inv X pins σ H s → RelV x u → RelV y v → D x y H b →
    wpAny (model X.prog X.w) A (eqBool u v) (fun r s' => r = b ∧ ∃ H', Inv X pins σ H' s' ∧ Ext H H') X.xe s
def RcB (X : Cx) (n : Nat) (D : EqvB) : Prop :=
  ∀ (A : Around) (pins : List (Addr × Obj)) (s : Shared) (σ : St) (H : Hp) (x y : V) (u v : Value) (b : Bool), Sub X n A → Inv X pins σ H s → RelV x u → RelV y v → D x y H b →
    wpAny (model X.prog X.w) A (richCompare .Eq u v) (fun r s' => r = .bool b ∧ ∃ H', Inv X pins σ H' s' ∧ Ext H H') X.xe s
/-- an instance of the class at C, with the text's own ==, and a value of any type that is no subclass of it: what R says of the two -/
def DInsB (K : PySem.W.Frag) (C : Addr) (R : Addr → V → Hp → Bool → Prop) : EqvB := fun x y H b => ∃ a dx fs t, x = .ref a ∧ H a = some (.ins C dx fs) ∧ TyX K H y t ∧ PySem.W.notFirst K C t = true ∧ R a y H b
def spEqB (R : Addr → V → Hp → Bool → Prop) : Sp := fun vs H Q _ => ∃ a y b, vs = [.ref a, y] ∧ R a y H b ∧ ∀ H', Ext H H' → Q (.bl b) H'
def DTupB (K : PySem.W.Frag) (D : EqvB) : EqvB := fun x y H b => ∃ (a a' : Addr) (xs ys : List V) (Fb : Nat → Bool), x = .ref a ∧ y = .ref a' ∧ SqT K H a xs ∧ SqT K H a' ys ∧
  (∀ (i : Nat) u v, xs[i]? = some u → ys[i]? = some v → D u v H (Fb i)) ∧ b = (decide (xs.length = ys.length) && (List.range xs.length).all Fb)
def rEqB (D : EqvB) : R2 := fun x y H Q => ∃ b, D x y H b ∧ ∀ H', Ext H H' → Q (.bl b) H'
section
variable {X : Cx} {n m : Nat} {D D' : EqvB}
theorem EqB.mono (h : EqB X n D) (hn : n ≤ m) : EqB X m D := fun A pins s σ H x y u v b sb => h A pins s σ H x y u v b (sb.mono hn)
theorem RcB.mono (h : RcB X n D) (hn : n ≤ m) : RcB X m D := fun A pins s σ H x y u v b sb => h A pins s σ H x y u v b (sb.mono hn)
theorem RcB.or (h : RcB X n D) (h' : RcB X n D') : RcB X n (fun x y H b => D x y H b ∨ D' x y H b) := fun A pins s σ H x y u v b sb I rx ry d => by
  rcases d with d | d
  · exact h A pins s σ H x y u v b sb I rx ry d
  · exact h' A pins s σ H x y u v b sb I rx ry d
theorem RcB.imp (h : RcB X n D) (hd : ∀ x y H b, D' x y H b → D x y H b) : RcB X n D' := fun A pins s σ H x y u v b sb I rx ry d => h A pins s σ H x y u v b sb I rx ry (hd x y H b d)
theorem rcB_ins {CX : CXT} {C f : Addr} {fd : FuncData} {ps : List Str} {R : Addr → V → Hp → Bool → Prop} {E : XK} (F : FnOk X.prog X.w X.K X.mg X.base CX n f fd ps (spEqB R))
    (hs : PySem.W.findIn X.K (.ref C) "__eq__" = some (some (.ref f))) (hf : PySem.W.isFn X.K (.ref f) = true) (hb : Binds X.K fd ps []) (hx : Passes CX X E) : RcB X n (DInsB X.K C R) := by
  intro A pins s σ H x y u v b sb I rx ry d
  obtain ⟨a, dx, fs, t, rfl, ha, ty, nf, hr⟩ := d
  cases rx
  obtain ⟨mA, J, _⟩ := ins_get I.hok ha
  obtain ⟨od, J, _⟩ := J.look
  obtain ⟨m, hF⟩ := I.fr
  obtain ⟨P, Z, p, _⟩ := kit_of I ry ty
  refine PySem.W.cmp_K (op := .Eq) (tb := t) sb.room.units0 hF I.ok.mod.kin J (Z.ty _ _ I.kIn p) nf hs hf ?_
  have hsp : spEqB R [.ref a, y] H (fun v H' => v = .bl b ∧ Ext H H') E := ⟨a, y, b, rfl, hr, fun H' e => ⟨rfl, e⟩⟩
  have e0 : Env0 X.prog X.w X.K X.mg X.base A X.stack s H := by
    have e := I.env0
    exact ⟨by rw [sb.fr]; exact e.frames, e.mod, e.bs, e.bsz, e.funs, e.frf, e.hok, e.bare⟩
  have hl := F.len _ _ _ _ hsp
  have r2 : Vals [V.ref a, y] [Value.ref a, v] := .cons rfl (.cons ry .nil)
  refine wpAny_call (codeAny_mono (F.run A X.stack s H ⟨[.ref a, v], []⟩ [.ref a, v] [.ref a, y] _ E sb.room e0 (by
    have := hb s [.ref a, v] I.kIn (by simpa using hl)
    simpa using this) r2 hsp) fun r s' hq => ?_)
  cases r with
  | error e => exact hx pins σ H s e s' I hq
  | ok fl =>
    cases fl with
    | ret w =>
      obtain ⟨z, H', I', rz, ez, ex⟩ := I.after hq
      subst ez
      cases rz
      exact ⟨rfl, H', I', ex⟩
    | next => exact False.elim hq
    | brk => exact False.elim hq
    | cont => exact False.elim hq
theorem RcB.eqB (h : RcB X n D) (hr : ∀ x y H b, D x y H b → ∃ a b', x = .ref a ∧ y = .ref b') (hrefl : ∀ x H b, D x x H b → b = true) : EqB X n D := by
  intro A pins s σ H x y u v b sb I rx ry d
  obtain ⟨a, b', rfl, rfl⟩ := hr _ _ _ _ d
  cases rx
  cases ry
  by_cases hab : a = b'
  · subst hab
    have e := hrefl _ _ _ d
    subst e
    exact SeqAt.EqAt.same (A := A) (s := s) (.ref a) X.prog X.w X.xe _ ⟨rfl, H, I, Ext.rfl'⟩
  · refine GQ.eqBool_refG hab (wpAny_mono (h A pins s σ H (.ref a) (.ref b') _ _ b sb I rfl rfl d) (fun r s' q => ?_) fun _ _ x => x)
    obtain ⟨hr', q⟩ := q
    exact ⟨b, hr', rfl, q⟩
theorem rcB_tup (hD : MonB D) (h : EqB X n D) : RcB X (n + 1) (DTupB X.K D) := by
  intro A pins s σ H x y u v b sb I rx ry d
  obtain ⟨a, a', xs, ys, Fb, rfl, rfl, ha, hb, p, hbb⟩ := d
  cases rx
  cases ry
  obtain ⟨its, r, e, z⟩ := I.tuple ha
  obtain ⟨its2, r2, e2, z2⟩ := I.tuple hb
  have s1 : its.toArray.size = xs.length := by rw [List.size_toArray, ← r.length]
  have s2 : its2.toArray.size = ys.length := by rw [List.size_toArray, ← r2.length]
  refine GQ.rc_tupB (Fb := Fb) sb.room.units0 (fun _ s' => LoopI X pins σ H s') e e2 (fun i h1 h2 s' q => ?_) (fun i s' hi i1 i2 hF q => ⟨?_, q⟩) (fun i s' i1 i2 hF q => ⟨?_, q⟩) ⟨H, I, Ext.rfl'⟩
  · obtain ⟨H1, I1, e1⟩ := q
    have g1 : its[i]? = some its.toArray[i] := by
      have h1' : i < its.length := by simpa using h1
      rw [List.getElem?_eq_getElem h1'] <;> simp
    have g2 : its2[i]? = some its2.toArray[i] := by
      have h2' : i < its2.length := by simpa using h2
      rw [List.getElem?_eq_getElem h2'] <;> simp
    have k1 : i < xs.length := by omega
    have k2 : i < ys.length := by omega
    obtain ⟨u, hu, ru⟩ := r.get (List.getElem?_eq_getElem k1)
    obtain ⟨v, hv, rv⟩ := r2.get (List.getElem?_eq_getElem k2)
    rw [g1] at hu
    rw [g2] at hv
    rw [Option.some.inj hu, Option.some.inj hv]
    refine wpAny_mono (h A.in1 pins s' σ H1 _ _ u v (Fb i) sb.in1 I1 ru rv (hD _ _ _ _ _ e1 (p i _ _ (List.getElem?_eq_getElem k1) (List.getElem?_eq_getElem k2)))) (fun r s2 q => ?_) fun _ _ x => x
    obtain ⟨hr, H2, I2, e2⟩ := q
    exact ⟨hr, H2, I2, e1.trans e2⟩
  · rw [hbb]
    rw [s1, s2] at *
    by_cases hl : xs.length = ys.length
    · have : (List.range xs.length).all Fb = true := List.all_eq_true.mpr fun j hj => hF j (by have := List.mem_range.mp hj; omega)
      rw [this, hl]
      simp
    · have : (xs.length == ys.length) = false := by simpa using hl
      rw [this, decide_eq_false hl]
      rfl
  · rw [hbb]
    have : (List.range xs.length).all Fb = false := by
      cases q : (List.range xs.length).all Fb with
      | false => rfl
      | true =>
        have := List.all_eq_true.mp q i (List.mem_range.mpr (by omega))
        rw [hF] at this
        cases this
    rw [this, Bool.and_false]
theorem op_eqB (h : RcB X n D) (hr : Room n X.A) : OpR X (compareOp .Eq) (rEqB D) := by
  intro pins s σ H x y v u Q I rx ry hq
  obtain ⟨b, d, q⟩ := hq
  show wpAny (model X.prog X.w) X.A (richCompare .Eq v u) (EP X pins σ Q) X.xe s
  refine wpAny_mono (h X.A pins s σ H x y v u b ⟨hr, rfl⟩ I rx ry d) (fun r s' z => ?_) fun _ _ x => x
  obtain ⟨hr', H', I', e⟩ := z
  subst hr'
  exact ⟨.bl b, H', I', rfl, q H' e⟩
end
end L2
end

section
set_option Elab.async false
set_option linter.all false
set_option maxRecDepth 100000
set_option maxHeartbeats 4000000
/-! == of two dicts with tuples as keys, as the hand's rule (RcB). -/
namespace L2
open PySem PySem.Spec PyProof.Rows
/-- two dicts with tuples as keys, and what == of their values says -/
def DDctB (D : EqvB) : EqvB := fun x y H b => ∃ (a a' : Addr) (ks ls : List (List Key × V)) (Fb : Nat → Bool), x = .ref a ∧ y = .ref a' ∧ a ≠ a' ∧ H a = some (.dT ks) ∧ H a' = some (.dT ls) ∧
  (∀ (oa ob : Obj) (i : Nat) (k : List Key) (u : V), ks[i]? = some (k, u) → (∀ v, valV ls k = some v → D u v (upd (upd H a (.frz oa (.dT ks))) a' (.frz ob (.dT ls))) (Fb i)) ∧ (valV ls k = none → Fb i = false)) ∧
  b = (decide (ks.length = ls.length) && (List.range ks.length).all Fb)
theorem valT_at {κ : Type} [DecidableEq κ] : ∀ {l : List (κ × V)} {j : Nat} {k : κ} {v : V}, (l.map (·.1)).Nodup → l[j]? = some (k, v) → valV l k = some v
  | [], j, k, v, _, e => by cases e
  | (k0, v0) :: l, 0, k, v, _, e => by
    cases e
    unfold valV
    simp
  | (k0, v0) :: l, j + 1, k, v, n, e => by
    have n2 := List.nodup_cons.mp n
    have m : k ∈ l.map (·.1) := List.mem_map.mpr ⟨_, List.mem_of_getElem? (show l[j]? = some (k, v) from e), rfl⟩
    have ne : ¬ k0 = k := fun z => n2.1 (by rw [z]; exact m)
    have ih := valT_at n2.2 (show l[j]? = some (k, v) from e)
    unfold valV at ih ⊢
    rw [List.find?_cons_of_neg (by simpa using ne)]
    exact ih
theorem valT_not {κ : Type} [DecidableEq κ] {l : List (κ × V)} {k : κ} (h : ∀ (j : Nat) (v : V), l[j]? ≠ some (k, v)) : valV l k = none := by
  unfold valV
  cases e : l.find? fun kv => decide (kv.1 = k) with
  | none => rfl
  | some y =>
    obtain ⟨k1, v1⟩ := y
    have p := List.find?_some e
    have q : k1 = k := by simpa using p
    subst q
    obtain ⟨j, hj⟩ := List.getElem?_of_mem (List.mem_of_find?_eq_some e)
    exact absurd hj (h j v1)
theorem kt_keys {H : Hp} : ∀ {l : List (List Key × V)} {m : List (List Key × Addr × Value)}, KT H l m → l.map (·.1) = m.map (·.1)
  | _, _, .nil => rfl
  | _, _, .cons hq t => by rw [List.map_cons, List.map_cons, hq.1, kt_keys t]
section
variable {X : Cx} {n : Nat} {D : EqvB}
theorem rcB_dT (hD : MonB D) (h : EqB X n D) : RcB X (n + 1) (DDctB D) := by
  intro A pins s σ H x y u v b sb I rx ry d
  obtain ⟨a, a', ks, ls, Fb, rfl, rfl, ne, ha, hb, hv, hbb⟩ := d
  cases rx
  cases ry
  obtain ⟨oa, I1⟩ := I.lock ha (by trivial)
  have hb1 : upd H a (.frz oa (.dT ks)) a' = some (.dT ls) := by rw [upd_ne (fun z => ne z.symm)]; exact hb
  obtain ⟨ob, I2⟩ := I1.lock hb1 (by trivial)
  have nfa := I.nofrz ha (by trivial)
  have nfb := I.nofrz hb (by trivial)
  obtain ⟨Hk, eH⟩ : ∃ Hk, Hk = upd (upd H a (.frz oa (.dT ks))) a' (.frz ob (.dT ls)) := ⟨_, rfl⟩
  rw [← eH] at I2
  have hv' := hv oa ob
  rw [← eH] at hv'
  have ka : Hk a = some (.frz oa (.dT ks)) := by rw [eH, upd_ne ne, upd_same]
  have kb : Hk a' = some (.frz ob (.dT ls)) := by rw [eH, upd_same]
  have ke : ∀ c, c ≠ a → c ≠ a' → Hk c = H c := fun c n1 n2 => by rw [eH, upd_ne n2, upd_ne n1]
  obtain ⟨ga, _, sya, xa, ta, o1, ea, pa, g1, xda, da, la, dna⟩ := I2.hok a _ ka
  obtain ⟨gb, _, syb, xb, tb, o2, eb, pb, g2, xdb, db, lb, dnb⟩ := I2.hok a' _ kb
  cases (Option.some.inj (g1.symm.trans ga))
  cases (Option.some.inj (g2.symm.trans gb))
  have lnA : ks.length = xa.length := Paired.length ta
  have lnB : ls.length = xb.length := Paired.length tb
  have keysA : ∀ {l : List (List Key × V)} {m : List (List Key × Addr × Value)}, KT Hk l m → ∀ q ∈ m, ∃ ws, Hk q.2.1 = some (.tup (q.1.map kV)) ∧ ws = q.1 := by
    intro l m t
    induction t with
    | nil => intro q z; cases z
    | @cons p q ps qs hq t ih =>
      intro y my
      rcases List.mem_cons.mp my with e | my
      · subst e
        exact ⟨_, by rw [← hq.1]; exact hq.2.1, rfl⟩
      · exact ih y my
  have keep : ∀ (H1 : Hp) (s' : Shared), Inv X pins σ H1 s' → Ext Hk H1 → s'.heap.get? a = some oa ∧ s'.heap.get? a' = some ob ∧ (∀ q ∈ xa, (tupleKind (mixKind X.prog X.w)).is s'.heap q.1 q.2.1) ∧ ∀ q ∈ xb, (tupleKind (mixKind X.prog X.w)).is s'.heap q.1 q.2.1 := fun H1 s' J e => by
    refine ⟨(J.hok a _ (e _ _ ka)).1, (J.hok a' _ (e _ _ kb)).1, fun q m => ?_, fun q m => ?_⟩
    · obtain ⟨_, g, _⟩ := keysA ta q m
      exact key_of J.hok (e _ _ g)
    · obtain ⟨_, g, _⟩ := keysA tb q m
      exact key_of J.hok (e _ _ g)
  have done : ∀ (H1 : Hp) (s' : Shared) (r : Bool), Inv X pins σ H1 s' → Ext Hk H1 → r = b → (Value.bool r = .bool b ∧ ∃ H', Inv X pins σ H' s' ∧ Ext H H') := fun H1 s' r J e er => by
    subst er
    have J1 := J.unlock (e _ _ kb) nfb
    have J2 := J1.unlock (show upd H1 a' (.dT ls) a = some (.frz oa (.dT ks)) by rw [upd_ne ne]; exact e _ _ ka) nfa
    refine ⟨rfl, _, J2, fun c o ec => ?_⟩
    by_cases n1 : c = a
    · subst n1
      rw [ha] at ec
      cases ec
      exact upd_same
    · rw [upd_ne n1]
      by_cases n2 : c = a'
      · subst n2
        rw [hb] at ec
        cases ec
        exact upd_same
      · rw [upd_ne n2]
        exact e _ _ (by rw [ke c n1 n2]; exact ec)
  have tyA : s.TypeIs (.ref a) "dict" := ⟨oa, ga, xda.1⟩
  have tyB : s.TypeIs (.ref a') "dict" := ⟨ob, gb, xdb.1⟩
  refine wpAny_richCompare_same_room (op := .Eq) tyA tyB PySem.F.slot_dict_eq (wpAny_call_entry PySem.F.slot_dict_eq tyA PySem.F.entry_dict_eq ?_ (PySem.F.args_dict_eq_2 _ _)) sb.room.units0
  show wpAny _ _ (Builtin.Dict.dictSlotArgs "__eq__" ⟨[Value.ref a, Value.ref a'], []⟩ >>= _) _ _ s
  unfold Builtin.Dict.dictSlotArgs
  refine wpAny_bind (wpAny_bind (wpAny_notOrdered_dict tyA (show wpAny _ _ (pure (Value.ref a, Value.ref a')) _ _ s from wpAny_pure ?_)))
  refine wpAny_bind (wpAny_isInstance (T := "dict") tyB PySem.F.sub_dict_dict ?_)
  simp only [Bool.not_true, Bool.false_eq_true, if_false]
  refine wpAny_bind (wpAny_pure (wpAny_bind (wpAny_pure (wpAny_bind ?_))))
  refine samePairsH (G := tupleKind (mixKind X.prog X.w)) (I := fun _ s' => ∃ H1, Inv X pins σ H1 s' ∧ Ext Hk H1) (B := Fb) sb.room.in1.units0 sya syb da db la lb dnb (fun i s' ⟨H1, J, e⟩ => keep H1 s' J e) ?turn ?kL ?kF ?kT ⟨Hk, I2, Ext.rfl'⟩
  case turn =>
    rintro i k q v ex s' ⟨H1, J, e⟩
    have li : i < ks.length := by rw [lnA]; exact (List.getElem?_eq_some_iff.mp ex).1
    obtain ⟨⟨k1, u1⟩, eu⟩ : ∃ y, ks[i]? = some y := ⟨_, List.getElem?_eq_getElem li⟩
    obtain ⟨z, ez, hz1, hz2, hz3⟩ := paired_get ta eu
    cases (Option.some.inj (ez.symm.trans ex))
    have ek : k1 = k := hz1
    subst ek
    obtain ⟨v1, v2⟩ := hv' i k1 u1 eu
    refine ⟨fun j q2 y ey => ?_, fun no => v2 (valT_not fun j w2 ew => ?_)⟩
    · have lj : j < ls.length := by rw [lnB]; exact (List.getElem?_eq_some_iff.mp ey).1
      obtain ⟨⟨k2, u2⟩, eu2⟩ : ∃ y, ls[j]? = some y := ⟨_, List.getElem?_eq_getElem lj⟩
      obtain ⟨z2, ez2, hy1, hy2, hy3⟩ := paired_get tb eu2
      cases (Option.some.inj (ez2.symm.trans ey))
      have ek2 : k2 = k1 := hy1
      subst ek2
      have nd : (ls.map (·.1)).Nodup := by
        rw [kt_keys tb]
        exact dnb
      have dv := v1 u2 (valT_at nd eu2)
      refine wpAny_mono (h A.in1 pins s' σ H1 u1 u2 v y (Fb i) sb.in1 J hz3 hy3 (hD _ _ _ _ _ e dv)) (fun r s2 ⟨er, H2, J2, e2⟩ => ⟨er, H2, J2, e.trans e2⟩) fun _ _ z => z
    · obtain ⟨z2, ez2, hy1, hy2, hy3⟩ := paired_get tb ew
      obtain ⟨k2, p2⟩ := z2
      have ek2 : k1 = k2 := hy1
      subst ek2
      exact no j p2 ez2
  case kL =>
    intro nl s2 ⟨H1, J, e⟩
    exact wpAny_pure ⟨_, rfl, fun z => (nomatch z), done H1 s2 false J e (by rw [hbb, decide_eq_false (by omega), Bool.false_and])⟩
  case kF =>
    intro i s2 el li fi hJ
    have ff : (List.range ks.length).all Fb = false := by
      cases q : (List.range ks.length).all Fb with
      | false => rfl
      | true =>
        have := List.all_eq_true.mp q i (List.mem_range.mpr (by omega))
        rw [fi] at this
        cases this
    rcases hJ with ⟨H1, J, e⟩ | ⟨H1, J, e⟩ <;> exact wpAny_pure ⟨_, rfl, fun z => (nomatch z), done H1 s2 false J e (by rw [hbb, ff, Bool.and_false])⟩
  case kT =>
    intro el all s2 ⟨H1, J, e⟩
    have tt : (List.range ks.length).all Fb = true := List.all_eq_true.mpr fun j hj => all j (by have := List.mem_range.mp hj; omega)
    exact wpAny_pure ⟨_, rfl, fun z => (nomatch z), done H1 s2 true J e (by rw [hbb, tt, Bool.and_true]; exact (decide_eq_true (by omega)).symm)⟩
theorem ext_upd {H H' : Hp} (e : Ext H H') (a : Addr) (o : HO) : Ext (upd H a o) (upd H' a o) := fun c u ec => by
  by_cases z : c = a
  · rw [z, upd_same] at ec
    rw [z, upd_same]
    exact ec
  · rw [upd_ne z] at ec
    rw [upd_ne z]
    exact e _ _ ec
theorem monB_dct (hD : MonB D) : MonB (DDctB D) := fun x y b H H' e ⟨a, a', ks, ls, Fb, ex, ey, ne, ha, hb, hv, hbb⟩ =>
  ⟨a, a', ks, ls, Fb, ex, ey, ne, e _ _ ha, e _ _ hb, fun oa ob i k u eu => ⟨fun v ev => hD _ _ _ _ _ (ext_upd (ext_upd e a _) a' _) ((hv oa ob i k u eu).1 v ev), (hv oa ob i k u eu).2⟩, hbb⟩
/-- the same dict, or two -/
def DDctE (D : EqvB) : EqvB := fun x y H b => (∃ a, x = .ref a ∧ y = .ref a ∧ b = true) ∨ DDctB D x y H b
theorem monB_dctE (hD : MonB D) : MonB (DDctE D) := fun x y b H H' e d => d.imp id (monB_dct hD x y b H H' e)
theorem eqB_dT (hD : MonB D) (h : EqB X n D) : EqB X (n + 1) (DDctE D) := by
  intro A pins s σ H x y u v b sb I rx ry d
  rcases d with ⟨a, rfl, rfl, rfl⟩ | d
  · cases rx
    cases ry
    exact SeqAt.EqAt.same (A := A) (s := s) (.ref a) X.prog X.w X.xe _ ⟨rfl, H, I, Ext.rfl'⟩
  · obtain ⟨a, a', _, _, _, ex, ey, ne, _⟩ := id d
    subst ex; subst ey
    cases rx
    cases ry
    refine GQ.eqBool_refG ne (wpAny_mono (rcB_dT hD h A pins s σ H (.ref a) (.ref a') _ _ b sb I rfl rfl d) (fun r s' q => ?_) fun _ _ z => z)
    obtain ⟨er, q⟩ := q
    exact ⟨b, er, rfl, q⟩
end
end L2
end

section
set_option Elab.async false
set_option linter.all false
set_option maxRecDepth 100000
set_option maxHeartbeats 4000000
/-! dict([(key, value), ..]) whose keys are tuples. -/
namespace L2
open PySem PySem.Spec PyProof.Rows
/-- a pair: where it stands, its key, where the key stands, its value -/
structure Pr4 where
  (p : Addr) (k : List Key) (q : Addr) (v : V)
def mergeT (kvs more : List (List Key × V)) : List (List Key × V) := more.foldl (fun acc kv => putK acc kv.1 kv.2) kvs
theorem mergeT_len : ∀ (more kvs : List (List Key × V)), (mergeT kvs more).length ≤ kvs.length + more.length
  | [], kvs => Nat.le_refl _
  | m :: r, kvs => by
    have := mergeT_len r (putK kvs m.1 m.2)
    have := length_putK kvs m.1 m.2
    show (mergeT (putK kvs m.1 m.2) r).length ≤ _
    rw [List.length_cons]
    omega
theorem kt_merge {H : Hp} : ∀ {more : List (List Key × V)} {rs : List (List Key × Addr × Value)} {kvs : List (List Key × V)} {xs : List (List Key × Addr × Value)}, KT H more rs → KT H kvs xs → KT H (mergeT kvs more) (storedAllH xs rs)
  | _, _, _, _, .nil, g => g
  | (k, v) :: more, (k2, b, u) :: rs, _, _, .cons hq t, g => by
    have e : k = k2 := hq.1
    subst e
    exact (show KT H (mergeT (putK _ k v) more) (storedAllH (storedH _ k b u) rs) from kt_merge t (g.put k hq.2.1 hq.2.2))
theorem pairs_vals {X : Cx} {pins : List (Addr × Obj)} {σ : St} {H : Hp} {s : Shared} (I : Inv X pins σ H s) : ∀ es : List Pr4, (∀ e ∈ es, SqT X.K H e.p [.ref e.q, e.v]) → ∃ us : List Value, us.length = es.length ∧ ∀ (i : Nat) e, es[i]? = some e → ∃ u, us[i]? = some u ∧ RelV e.v u ∧ s.heap.IsTuple e.p #[Value.ref e.q, u]
  | [], _ => ⟨[], rfl, fun i e z => by cases z⟩
  | e :: es, h => by
    obtain ⟨us, l, g⟩ := pairs_vals I es fun e m => h e (List.mem_cons_of_mem _ m)
    obtain ⟨its, r, t, _⟩ := I.tuple (h e List.mem_cons_self)
    cases r with
    | @cons _ w1 _ ws r1 r2 =>
      cases r2 with
      | @cons _ u _ ws2 r3 r4 =>
        cases r4
        cases r1
        refine ⟨u :: us, by rw [List.length_cons, List.length_cons, l], fun i e2 z => ?_⟩
        cases i with
        | zero =>
          cases z
          exact ⟨u, rfl, r3, t⟩
        | succ i => exact g i e2 z
section
variable {X : Cx}
def rDictT (K : PySem.W.Frag) : List V → Hp → VK → Prop := fun xs H Q => ∃ (a : Addr) (es : List Pr4), xs = [V.ref a] ∧ SqL K H a (es.map fun e => .ref e.p) ∧ (∀ e ∈ es, SqT K H e.p [.ref e.q, e.v] ∧ H e.q = some (.tup (e.k.map kV))) ∧ es.length ≤ 1000 ∧
  ∀ d, H d = none → Q (.ref d) (upd H d (.dT (mergeT [] (es.map fun e => (e.k, e.v)))))
theorem zip_get {α β : Type} : ∀ {l : List α} {m : List β} {i : Nat} {x : α} {y : β}, l[i]? = some x → m[i]? = some y → (l.zip m)[i]? = some (x, y)
  | [], _, i, x, y, h, _ => by cases h
  | x :: l, [], i, _, y, _, h => by cases h
  | x :: l, z :: m, 0, _, _, h, g => by cases h; cases g; rfl
  | x :: l, z :: m, i + 1, _, _, h, g => zip_get (l := l) (m := m) (i := i) h g
theorem kt_zip {H : Hp} : ∀ {es : List Pr4} {ws : List Value}, ws.length = es.length → (∀ (i : Nat) e u, es[i]? = some e → ws[i]? = some u → RelV e.v u) → (∀ e ∈ es, H e.q = some (.tup (e.k.map kV))) → KT H (es.map fun e => (e.k, e.v)) ((es.zip ws).map fun z => (z.1.k, z.1.q, z.2))
  | [], _, _, _, _ => .nil
  | e :: es, [], l, _, _ => by cases l
  | e :: es, u :: ws, l, h, g => .cons ⟨rfl, g e List.mem_cons_self, h 0 e u rfl rfl⟩ (kt_zip (by simpa using l) (fun i e2 u2 a b => h (i + 1) e2 u2 a b) fun e2 m => g e2 (List.mem_cons_of_mem _ m))
theorem call_dictT (hcalm : X.calm = true) (hu : X.A.units + 64 < cLine) : CallR X (.type "dict") (rDictT X.K) := by
  intro pins s σ H xs us Q I r q
  obtain ⟨a, es, rfl, hq, hp, lz, q⟩ := q
  rw [Vals.ref1 r]
  obtain ⟨its, rv, pl, hz⟩ := I.list hq
  obtain ⟨ws, lw, gw⟩ := pairs_vals I es fun e m => (hp e m).1
  have li : its.length = es.length := by have := rv.length; rw [List.length_map] at this; exact this.symm
  have lzp : (es.zip ws).length = es.length := by rw [List.length_zip, lw, Nat.min_self]
  have zg : ∀ {i : Nat} {z : Pr4 × Value}, (es.zip ws)[i]? = some z → es[i]? = some z.1 ∧ RelV z.1.v z.2 ∧ s.heap.IsTuple z.1.p #[Value.ref z.1.q, z.2] := fun {i z} ez => by
    have lt : i < es.length := by rw [← lzp]; exact (List.getElem?_eq_some_iff.mp ez).1
    have e1 : es[i]? = some es[i] := List.getElem?_eq_getElem lt
    obtain ⟨u, e2, r2, t2⟩ := gw i _ e1
    cases (Option.some.inj ((zip_get e1 e2).symm.trans ez))
    exact ⟨e1, r2, t2⟩
  obtain ⟨o, n, ho, hc, hd, hdat⟩ := pl
  have hn : H s.heap.objs.size = none := I.hok.fresh (Nat.le_refl _)
  refine call_dict_pairsH (knd := tupleKind (mixKind X.prog X.w)) (ps := (es.zip ws).map fun z => (z.1.k, z.1.q, z.2)) (PairArg.list a its.toArray (fun j => (es.getD j ⟨0, [], 0, .non⟩).p) ((es.zip ws).map fun z => (Value.ref z.1.q, z.2))) (I.ok.hd hcalm) (show X.A.units + 1 + 1 < cLine by omega)
    ⟨⟨o, n, ho, hc, hd, hdat⟩, by rw [List.size_toArray, List.length_map, lzp, li], fun j k v ej => ?items⟩ ⟨by rw [List.length_map, List.length_map], fun i key v ej => ?have_⟩ (fun h' hk x mx => ?stay) (by rw [List.length_map, lzp, sizeLine_eq]; omega) fun h' tk hd' hk => ?fin
  case items =>
    rw [List.getElem?_map] at ej
    cases ez : (es.zip ws)[j]? with
    | none => rw [ez] at ej; cases ej
    | some z =>
      rw [ez] at ej
      cases ej
      obtain ⟨e1, r2, t2⟩ := zg ez
      obtain ⟨u, eu, ru⟩ := Vals.get rv (show (es.map fun e => V.ref e.p)[j]? = some (V.ref z.1.p) by rw [List.getElem?_map, e1]; rfl)
      cases ru
      have ed : (es.getD j ⟨0, [], 0, .non⟩) = z.1 := by rw [List.getD_eq_getElem?_getD, e1]; rfl
      show its.toArray[j]? = some (Value.ref (es.getD j ⟨0, [], 0, .non⟩).p) ∧ PairAt s.heap (es.getD j ⟨0, [], 0, .non⟩).p (Value.ref z.1.q) z.2
      rw [ed]
      exact ⟨by simpa using eu, .inl t2⟩
  case have_ =>
    rw [show PairRel ((es.zip ws).map fun z => (Value.ref z.1.q, z.2)) i key v = (((es.zip ws).map fun z => (Value.ref z.1.q, z.2))[i]? = some (key, v)) from rfl, List.getElem?_map] at ej
    cases ez : (es.zip ws)[i]? with
    | none => rw [ez] at ej; cases ej
    | some z =>
      rw [ez] at ej
      cases ej
      exact ⟨z.1.k, z.1.q, by rw [List.getElem?_map, ez]; rfl, rfl⟩
  case stay =>
    obtain ⟨z, mz, rfl⟩ := List.mem_map.mp mx
    have me := (List.of_mem_zip (show (z.1, z.2) ∈ es.zip ws from mz)).1
    obtain ⟨o2, i2, n2, g2, r2⟩ := key_of (P := X.prog) (w := X.w) I.hok (hp _ me).2
    exact ⟨o2, i2, n2, hk _ o2 (Nat.ne_of_lt (Heap.lt_size g2)) (by simp) g2, r2⟩
  case fin =>
    obtain ⟨o2, e2, p2, h1, h2, h3, h4, _, h5⟩ := hd'
    have kt : KT H (es.map fun e => (e.k, e.v)) ((es.zip ws).map fun z => (z.1.k, z.1.q, z.2)) := kt_zip lw (fun i e u a b => by
      obtain ⟨u2, b2, r2, _⟩ := gw i e a
      cases (Option.some.inj (b2.symm.trans b))
      exact r2) fun e m => (hp e m).2
    have hm : (s.heap.objs.size == sysModules) = false := beq_eq_false_iff_ne.mpr (Nat.ne_of_gt I.big)
    have hl : (mergeT [] (es.map fun e => (e.k, e.v))).length ≤ sizeLine := by
      have := mergeT_len (es.map fun e => (e.k, e.v)) []
      rw [List.length_map, List.length_nil] at this
      rw [sizeLine_eq]
      omega
    have kd : KT (upd H s.heap.objs.size (.dT (mergeT [] (es.map fun e => (e.k, e.v))))) (mergeT [] (es.map fun e => (e.k, e.v))) (storedAllH [] ((es.zip ws).map fun z => (z.1.k, z.1.q, z.2))) := (kt_merge kt .nil).keeps fun c ys ec => by
      rw [upd_ne (ne_of_none ec hn)]
      exact ec
    exact ⟨.ref s.heap.objs.size, upd H s.heap.objs.size (.dT (mergeT [] (es.map fun e => (e.k, e.v)))), I.laid (t' := tk) (fun b o e => hk b o (by simp) e) (Nat.le_refl _) (show ObjOk X.prog X.w _ _ _ (.dT _) from ⟨hl, hm, _, kd, o2, e2, p2, h1, h2, h3, h4, h5⟩), rfl, q _ hn⟩
end
end L2
end

section
set_option Elab.async false
set_option linter.all false
set_option maxRecDepth 100000
set_option maxHeartbeats 4000000
/-! A dict comprehension whose keys are tuples. -/
namespace L2
open PySem PySem.Spec PyProof.Rows
/-- a store under a tuple -/
theorem d_dictSetT {X : Cx} {pins : List (Addr × Obj)} {σ : St} {H : Hp} {s : Shared} {E : Value → Shared → Prop} {D b : Addr} {kvs : List (List Key × V)} {k : List Key} {v : V} {r : Value} {Q : Unit → Shared → Prop} (hu : X.A.units < cLine) (I : Inv X pins σ H s) (hD : H D = some (.dT kvs)) (hz : kvs.length < sizeLine)
    (eb : H b = some (.tup (k.map kV))) (rv : RelV v r) (h : ∀ s', Inv X pins σ (upd H D (.dT (putK kvs k v))) s' → Q () s') : wpAny (model X.prog X.w) X.A (dictSet D (.ref b) r) Q E s := by
  obtain ⟨z, nd, xs, rel, dd⟩ := dt_of I.hok hD
  have lx : xs.length ≤ sizeLine := by rw [← Paired.length rel]; exact z
  have lp : (putK kvs k v).length ≤ sizeLine := by have := length_putK kvs k v; omega
  refine wpAny_dictSet_heap (knd := tupleKind (mixKind X.prog X.w)) (hsz := lx) hu (key_of I.hok eb) dd fun h' d2 sb => h _ ?_
  obtain ⟨o, es, ep, g1, g2, g3, g4, _, g5⟩ := d2
  exact d_write I (by rw [hD]; exact True.intro) sb ⟨o, g1⟩ ⟨lp, nd, _, (rel.put k eb rv).keeps fun c ys ec => (by rw [upd_ne (ne_of ec hD (fun z => nomatch z))]; exact ec), o, es, ep, g1, g2, g3, g4, g5⟩
/-- what is to be shown of {k: v for ..} -/
def tDcT (wi : TI) (g : TG) (tt : TT) (tk tv : TE) (vs : List Nat) : TE := fun σ H Q => wi σ H fun J H1 => ∀ D, H1 D = none → ∃ W : Nat → Nat → Hp → Prop, (∃ m, W 0 m (upd H1 D (.dT []))) ∧ ∀ i m H, W i m H →
  (J.stop i H ∧ Q (.ref D) H) ∨
  (J.go i H ∧ ∃ Nx : Hp → Prop, (∀ H', Nx H' → ∃ m', m' < m ∧ W (i + 1) m' H') ∧
  ∀ x H', J.yld i H x H' → g x (wipe σ vs) H' fun σ2 H2 => wipe σ2 vs = wipe σ vs ∧ tt σ2 H2 fun b H3 =>
    if b = true then tk σ2 H3 fun y H4 => tv σ2 H4 fun z H5 => ∃ kvs k q, y = .ref q ∧ H5 q = some (.tup (k.map kV)) ∧ H5 D = some (.dT kvs) ∧ kvs.length < sizeLine ∧ Nx (upd H5 D (.dT (putK kvs k z))) else Nx H3)
section
variable {X : Cx}
/-- what each part of a comprehension promises, whatever block it stands in -/
abbrev InBlk (X : Cx) (scope : Scope) (F : Cx → Prop) : Prop := ∀ (s : Shared) (H : Hp) (C : Addr) (cl : List (Str × Addr)) (fp : List Addr), F (X.blk s H scope (compEnvC scope cl C X.env) fp)
theorem dcT_core {pins : List (Addr × Obj)} {s : Shared} {σ : St} {H : Hp} {Q : VK} {kx vx tg iter : Expr} {ifs : List Expr} {scope : Scope} {own : List (Str × Nat)} {pos pos' : Pos} {wi : TI} {g : TG} {tt : TT} {tk tv : TE} {use : Option (Value → Sem Unit)} {Qf : Value → Shared → Prop} (hu : X.A.units < cLine) (hc : X.calm = true) (hN : X.N.Nodup) (I : Inv X pins σ H s) (hi : PI X tg iter wi) (ok : BlkOk X.N X.env.scope scope own)
    (hg : InBlk X scope fun Y => PG Y tg g) (ht : InBlk X scope fun Y => PTs Y ifs tt) (hk : InBlk X scope fun Y => PE Y kx tk) (he : InBlk X scope fun Y => PE Y vx tv) (hs : ∀ x, foldedSetIterable iter X.env x = pure x) (h : tDcT wi g tt tk tv (own.map (·.2)) σ H Q)
    (fine_ : ∀ D C s' m H', Inv X pins σ H' s' → Q (.ref D) H' → s'.heap.Ns C m → FpOk X pins H' C → compPost (model X.prog X.w) X.A X.xe use Qf (.ref D) C (.ok .next) s') :
    wpAny (model X.prog X.w) X.A (comprehension (.DictComp kx vx [⟨tg, iter, ifs, 0⟩] scope pos) scope X.env pos' newDict false (eval iter X.env) use) Qf X.xe s := by
  have free : ∀ y ∈ scope.names, y.2 = .free → ∃ c, X.env.cells.lookup y.1 = some c := fun y m e => (ok.free y m e).elim (fun k => I.ok.has _ (.inl k)) fun k => I.ok.has _ (.inr k)
  refine wpAny_comprehension_free (use := use) rfl hs (closure_ok free) ok.kind (fun y m e => by rw [ok.uniq y m, e]) (thn (hi.run pins s σ H _ I h) fun v0 s1 h1 => thn h1 fun v1 s2 ⟨it, fp, tn, J, H2, e, I2, T, st2, f2, q⟩ => ?_)
  subst e
  refine wpAny_newObj_type (newEnv_comp ?_)
  generalize eD : s2.heap.objs.size = D
  obtain ⟨W, ⟨m0, w0⟩, turn⟩ := q D (I2.hok.fresh (Nat.le_of_eq eD))
  generalize e3 : ({ s2 with heap := s2.heap.push { cls := .type "dict", data := .dict #[] } } : Shared) = s3
  have h3 : s3.heap = s2.heap.push { cls := .type "dict", data := .dict #[] } := by rw [← e3]
  have I3 : Inv X pins σ (upd H2 D (.dT [])) s3 := by
    rw [← e3]
    exact I2.laid (t' := s2.toks) (fun b o e => Heap.get?_push_of_some _ e) (Nat.le_of_eq eD) (by rw [← eD]; exact dt_empty s2.heap I2.big)
  have below : ∀ b ∈ fp, b < s2.heap.objs.size := fun b m => let ⟨_, e, _⟩ := T.obj _ _ st2 b m; Heap.lt_size e
  have f3 : ∀ b ∈ fp, FpOk X pins (upd H2 D (.dT [])) b ∧ b < s3.heap.objs.size := fun b m => by
    have lt := below b m
    exact ⟨⟨by rw [upd_ne (by rw [← eD]; exact Nat.ne_of_lt lt)]; exact (f2 b m).1, (f2 b m).2⟩, by rw [h3, Heap.size_push]; exact Nat.lt_succ_of_lt lt⟩
  have st3 : tn 0 s3.heap := by
    rw [h3]
    exact T.keep _ _ _ st2 fun b _ o e => Heap.get?_push_of_some _ e
  have I4 := block_start (fp := fp) I3 ok hN f3
  have p1 := hg s3 (upd H2 D (.dT [])) s3.heap.objs.size (cellsFrom (s3.heap.objs.size + 1) scope.names (cloFrom X.env.cells scope.names [])) fp
  have p2 := ht s3 (upd H2 D (.dT [])) s3.heap.objs.size (cellsFrom (s3.heap.objs.size + 1) scope.names (cloFrom X.env.cells scope.names [])) fp
  have p3 := hk s3 (upd H2 D (.dT [])) s3.heap.objs.size (cellsFrom (s3.heap.objs.size + 1) scope.names (cloFrom X.env.cells scope.names [])) fp
  have p4 := he s3 (upd H2 D (.dT [])) s3.heap.objs.size (cellsFrom (s3.heap.objs.size + 1) scope.names (cloFrom X.env.cells scope.names [])) fp
  refine (show codeAny _ _ (.compStart (.DictComp kx vx [⟨tg, iter, ifs, 0⟩] scope pos) 0 (.ref it) (.ref D) (compEnvC scope (cellsFrom (s3.heap.objs.size + 1) scope.names (cloFrom X.env.cells scope.names [])) s3.heap.objs.size X.env)) (compPost _ X.A X.xe _ _ (.ref D) s3.heap.objs.size) { s3 with heap := pushCells (s3.heap.push { cls := .type "dict", data := .dict #[] }) scope.names } from ?_)
  have n4 : ∀ b ∈ fp, (upd H2 D (.dT [])) b = none := fun b m => (f3 b m).1.1
  have s4k : ∀ b o, s3.heap.get? b = some o → (pushCells (s3.heap.push { cls := .type "dict", data := .dict #[] }) scope.names).get? b = some o := fun b o e => pushCells_keeps _ _ _ _ (Heap.get?_push_of_some _ e)
  generalize hce : compEnvC scope (cellsFrom (s3.heap.objs.size + 1) scope.names (cloFrom X.env.cells scope.names [])) s3.heap.objs.size X.env = ce at I4 p1 p2 p3 p4 ⊢
  have cL : ce.locals = s3.heap.objs.size := by rw [← hce]; rfl
  generalize upd H2 D (.dT []) = H3 at I3 I4 p1 p2 p3 p4 w0 n4 f3
  have st4 : tn 0 (pushCells (s3.heap.push { cls := .type "dict", data := .dict #[] }) scope.names) := T.keep _ _ _ st3 fun b _ o e => s4k b o e
  have stat : ∀ {σ' : St} {H' : Hp} {s' : Shared}, Inv (X.blk s3 H3 scope ce fp) [] σ' H' s' → (∀ b ∈ fp, H' b = none) → ∀ b ∈ fp, FpOk (X.blk s3 H3 scope ce fp) [] H' b := fun {σ' H' s'} J no b m =>
    ⟨no b m, (J.ok.exf b m).1, J.ok.exfs b m, .inl m, fun x c e => (J.ok.exf b m).2 x c e, fun p mp => absurd (show p ∈ ([] : List (Addr × Obj)) ++ [] from mp) (by simp)⟩
  refine codeAny_compStart_dict ?loop (T.self X.A 0 _ _ _ st4 ?loop)
  case loop =>
    refine compLoop_anyD (fun n s' => ∃ i H', Inv (X.blk s3 H3 scope ce fp) [] (wipe σ (own.map (·.2))) H' s' ∧ tn i s'.heap ∧ (∀ b ∈ fp, H' b = none) ∧ W i n H') ?_ m0 ⟨0, H3, I4, st4, n4, w0⟩
    rintro n s5 ⟨i, H5, J5, st5, no5, w5⟩
    rcases turn i n H5 w5 with ⟨stop, fine⟩ | ⟨go, Nx, less, step⟩
    · refine thnF (T.done (X.blk s3 H3 scope ce fp) rfl rfl rfl hc i [] s5 _ H5 (fun _ _ => False) J5 (stat J5 no5) st5 stop) fun r s6 ⟨er, I6⟩ => ?_
      cases er
      have back : Inv X pins σ H5 s6 := I3.call' (ch := fp) I6.os I6.base I6.hok I6.bare fun b m => let z := (f3 b m).1; ⟨z.2.2.2.1, z.2.1, z.2.2.2.2.1, z.2.2.2.2.2⟩
      have nC : H5 s3.heap.objs.size = none := by rw [← cL]; exact I6.free
      obtain ⟨m, nm, _⟩ := I6.loc
      have nm2 : s6.heap.Ns s3.heap.objs.size m := by rw [← cL]; exact nm
      exact fine_ D s3.heap.objs.size s6 m H5 back fine nm2 (I3.fpOk (Nat.le_refl _) nC)
    · refine thnF (T.item (X.blk s3 H3 scope ce fp) rfl rfl rfl hc i [] s5 _ H5 (fun _ _ => False) J5 (stat J5 no5) st5 go) fun r s6 ⟨u, er, h6⟩ => ?_
      cases er
      refine thnF h6 fun _ s7 ⟨x, H7, J7, r7, y7, st7, no7⟩ => ?_
      have pin7 := J7.pinned (stat J7 no7) (T.obj _ _ st7)
      refine thnF (p1.run _ s7 _ H7 x u _ pin7 r7 (step x H7 y7)) fun _ s8 ⟨σ8, H8, I8, hw, q8⟩ => ?_
      refine thnF (p2.run _ s8 σ8 H8 _ I8 q8) fun b s9 ⟨H9, I9, q9⟩ => ?_
      have on : ∀ {s' : Shared} {H' : Hp}, Inv (X.blk s3 H3 scope ce fp) ([] ++ pinsAt fp s7.heap) σ8 H' s' → Nx H' → ∃ m, m < n ∧ ∃ i H', Inv (X.blk s3 H3 scope ce fp) [] (wipe σ (own.map (·.2))) H' s' ∧ tn i s'.heap ∧ (∀ b ∈ fp, H' b = none) ∧ W i m H' := fun {s' H'} J nx => by
        obtain ⟨m', lt, w'⟩ := less H' nx
        have held : ∀ b ∈ fp, ∀ o, s7.heap.get? b = some o → s'.heap.get? b = some o ∧ H' b = none := fun b m o e => let z := J.pin (b, o) (List.mem_append_right _ (List.mem_append_right _ (mem_pinsAt m e))); ⟨z.1, z.2.1⟩
        refine ⟨m', lt, i + 1, H', (J.unpinned (pins := [])).weak (by rw [← hw, wipe_length]) (fun j v e => (wipe_some (by rw [hw]; exact e)).1), T.keep _ _ _ st7 fun b m o e => (held b m o e).1, fun b m => ?_, w'⟩
        obtain ⟨o, e, _⟩ := T.obj _ _ st7 b m
        exact (held b m o e).2
      cases b with
      | false =>
        simp only [Bool.false_eq_true, if_false] at q9 ⊢
        exact on I9 q9
      | true =>
        simp only [if_true] at q9 ⊢
        refine thnF (p3.run _ s9 σ8 H9 _ I9 q9) fun z s10 ⟨yk, H10, I10, r10, q10⟩ => ?_
        refine thnF (p4.run _ s10 σ8 H10 _ I10 q10) fun z2 s11 ⟨yv, H11, I11, r11, kvs, k, kq, ek, hq, hD, lz, nx⟩ => ?_
        subst ek
        cases r10
        exact d_dictSetT (X := X.blk s3 H3 scope ce fp) hu I11 hD lz hq r11 fun s12 I12 => on I12 nx
theorem pe_dcT {kx vx tg iter : Expr} {ifs : List Expr} {scope : Scope} {own : List (Str × Nat)} {pos : Pos} {wi : TI} {g : TG} {tt : TT} {tk tv : TE} (hu : X.A.units < cLine) (hc : X.calm = true) (hN : X.N.Nodup) (hi : PI X tg iter wi) (ok : BlkOk X.N X.env.scope scope own)
    (hg : InBlk X scope fun Y => PG Y tg g) (ht : InBlk X scope fun Y => PTs Y ifs tt) (hk : InBlk X scope fun Y => PE Y kx tk) (he : InBlk X scope fun Y => PE Y vx tv) (hs : ∀ x, foldedSetIterable iter X.env x = pure x := by intro _; rfl) :
    PE X (.DictComp kx vx [⟨tg, iter, ifs, 0⟩] scope pos) (tDcT wi g tt tk tv (own.map (·.2))) := by
  refine ⟨fun pins s σ H Q I h => ?_⟩
  rw [arm_eval_DictComp]
  exact dcT_core hu hc hN I hi ok hg ht hk he hs h fun D C s' m H' J q nm ⟨k0, k1, _, k3, k4, k5⟩ => ⟨m, nm, fun h2 sb => ⟨.ref D, H', J.turned (t' := s'.toks) (fun b o z e => (sb.2 b z).trans e) k0 k1 k3 k4 k5, rfl, q⟩⟩
theorem ps_setDcT {i : Nat} {y : Str} {py : Pos} {kx vx tg iter : Expr} {ifs : List Expr} {scope : Scope} {own : List (Str × Nat)} {pos spos : Pos} {wi : TI} {g : TG} {tt : TT} {tk tv : TE} (hu : X.A.units < cLine) (hc : X.calm = true) (hN : X.N.Nodup) (hy : X.N[i]? = some y) (hyl : X.env.scope.names.lookup y = some .local)
    (hsw : swapsWith (.DictComp kx vx [⟨tg, iter, ifs, 0⟩] scope pos) (some (.Name y py)) spos.line X.env = pure true) (hi : PI X tg iter wi) (ok : BlkOk X.N X.env.scope scope own)
    (hg : InBlk X scope fun Y => PG Y tg g) (ht : InBlk X scope fun Y => PTs Y ifs tt) (hk : InBlk X scope fun Y => PE Y kx tk) (he : InBlk X scope fun Y => PE Y vx tv) (hs : ∀ x, foldedSetIterable iter X.env x = pure x := by intro _; rfl) :
    PS X (.Assign [.Name y py] (.DictComp kx vx [⟨tg, iter, ifs, 0⟩] scope pos) spos) (tAsg (tDcT wi g tt tk tv (own.map (·.2))) (gName i)) := by
  refine ⟨fun pins s σ H D0 I h => ?_⟩
  rw [exec_Assign_Name_used _ _ _ _ hsw]
  have h : tDcT wi g tt tk tv (own.map (·.2)) σ H (fun x H1 => gName i x σ H1 D0.nx) := h
  refine wpAny_bind (wpAny_standAt (wpAny_bind ((show wpAny _ X.A (do let _ ← comprehension (.DictComp kx vx [⟨tg, iter, ifs, 0⟩] scope pos) scope X.env (firstIterPos [⟨tg, iter, ifs, 0⟩] pos) newDict false (eval iter X.env) (some (assign (.Name y py) X.env))) _ _ s from ?_))))
  refine wpAny_bind (thn (dcT_core (Qf := fun _ s' => SP X pins D0 .next s') hu hc hN I hi ok hg ht hk he hs h fun D C s' m H' J q nm ⟨k0, k1, _, k3, k4, k5⟩ => ?_) fun _ s' z => wpAny_pure (wpAny_pure z))
  refine (show wpAny _ _ (assign (.Name y py) X.env (.ref D)) _ _ _ from wpAny_assign_Name (store_ok2 (v := V.ref D) J hN hy (.inl hyl) rfl (fun s2 J2 ⟨a, sb, ha⟩ => ?_) (.inr hyl)))
  have ne : C ≠ a := by
    rcases ha with z | z
    · rw [z]; exact k1
    · exact fun e => k4 y a z e.symm
  exact ⟨m, nm.sameBut sb ne, fun h3 sb3 => ⟨_, H', J2.turned (t' := s2.toks) (fun b o z e => (sb3.2 b z).trans e) k0 k1 k3 k4 k5, q⟩⟩
theorem sw_trueD {kx vx : Expr} {gs : List Comprehension} {scope : Scope} {pos py : Pos} {y : Str} {l : Nat} {env : Env} (hk : env.scope.kind = .function) (hy : env.scope.names.lookup y = some .local) (hl : (py.line == pos.line) = true)
    (ha : (scope.names.any fun (n, k) => n == y && (k == .local || k == .cell)) = false) : swapsWith (.DictComp kx vx gs scope pos) (some (.Name y py)) l env = pure true := by
  have e1 : env.kindOf y = some .local := hy
  have e2 : env.blockKind = .function := by unfold Env.blockKind; rw [hk]; rfl
  unfold swapsWith
  simp only [e2, e1, ha, Expr.pos, hl]
  rfl
end
end L2
end

section
set_option Elab.async false
set_option linter.all false
set_option maxRecDepth 100000
set_option maxHeartbeats 4000000
/-! A dict comprehension with tuples as keys over any walk; a copy of such a dict. -/
namespace L2
open PySem PySem.Spec PyProof.Rows
theorem dcT_it {J : It} {n : Nat} {G : Hp → Prop} {Y : Nat → Hp → V → Hp → Prop} (w : Walk J n G Y) {g : TG} {tt : TT} {tk tv : TE} {vs : List Nat} {σ : St} {H1 : Hp} {D : Addr} {Qd : Hp → Prop} (Pv : Nat → Hp → Prop) (h0 : Pv 0 (upd H1 D (.dT []))) (hG : ∀ i H, i ≤ n → Pv i H → G H)
    (turn : ∀ i x H H', i < n → Pv i H → Y i H x H' → g x (wipe σ vs) H' fun σ2 H2 => wipe σ2 vs = wipe σ vs ∧ tt σ2 H2 fun b H3 =>
      if b = true then tk σ2 H3 fun y H4 => tv σ2 H4 fun z H5 => ∃ kvs k q, y = .ref q ∧ H5 q = some (.tup (k.map kV)) ∧ H5 D = some (.dT kvs) ∧ kvs.length < sizeLine ∧ Pv (i + 1) (upd H5 D (.dT (putK kvs k z))) else Pv (i + 1) H3) (fine : ∀ H, Pv n H → Qd H) :
    ∃ W : Nat → Nat → Hp → Prop, (∃ m, W 0 m (upd H1 D (.dT []))) ∧ ∀ i m H, W i m H → (J.stop i H ∧ Qd H) ∨ (J.go i H ∧ ∃ Nx : Hp → Prop, (∀ H', Nx H' → ∃ m', m' < m ∧ W (i + 1) m' H') ∧ ∀ x H', J.yld i H x H' → g x (wipe σ vs) H' fun σ2 H2 => wipe σ2 vs = wipe σ vs ∧ tt σ2 H2 fun b H3 =>
      if b = true then tk σ2 H3 fun y H4 => tv σ2 H4 fun z H5 => ∃ kvs k q, y = .ref q ∧ H5 q = some (.tup (k.map kV)) ∧ H5 D = some (.dT kvs) ∧ kvs.length < sizeLine ∧ Nx (upd H5 D (.dT (putK kvs k z))) else Nx H3) := by
  refine ⟨fun i m H => m = n - i ∧ i ≤ n ∧ Pv i H, ⟨n, by rw [Nat.sub_zero], Nat.zero_le _, h0⟩, ?_⟩
  rintro i m H ⟨rfl, li, p⟩
  rcases Nat.lt_or_ge i n with lt | ge
  · exact .inr ⟨w.goes i H lt (hG i H li p), Pv (i + 1), fun H' p' => ⟨n - (i + 1), by omega, rfl, lt, p'⟩, fun x H' y => turn i x H H' lt p (w.yields i H x H' lt (hG i H li p) y)⟩
  · cases (show i = n by omega)
    exact .inl ⟨w.stops H (hG _ H li p), fine H p⟩
theorem mergeT_app (a b c : List (List Key × V)) : mergeT a (b ++ c) = mergeT (mergeT a b) c := by
  unfold mergeT
  rw [List.foldl_append]
theorem mergeT_take {ks : List (List Key × V)} {i : Nat} {k : List Key} {v : V} (a : List (List Key × V)) (e : ks[i]? = some (k, v)) : mergeT a (ks.take (i + 1)) = putK (mergeT a (ks.take i)) k v := by
  rw [List.take_add_one, e, mergeT_app]
  rfl
end L2
end

section
set_option Elab.async false
set_option linter.all false
set_option maxRecDepth 100000
set_option maxHeartbeats 4000000
namespace KP
open PySem PySem.Spec PyProof.Rows L2 Pn
abbrev sWith : Stmt := top 71
theorem scWith : FnScope ["bodies", "others", "told", "pair"] ["bodies", "others"] (defScope sWith) := ⟨rfl, rfl, rfl, by decide +kernel, rfl, by decide +kernel, by decide +kernel⟩
/-- a new dict: the first one's pairs, then the other one's -/
def spWith : Sp := fun vs H Q _ => ∃ (a b : Addr) (ks ls : List (List Key × V)), vs = [.ref a, .ref b] ∧ H a = some (.dT ks) ∧ H b = some (.dT ls) ∧ (ks.map (·.1)).Nodup ∧ (ls.map (·.1)).Nodup ∧ ks.length + ls.length ≤ 1000 ∧
  ∀ p, H p = none → Q (.ref p) (upd H p (.dT (mergeT (mergeT [] ks) ls)))
section
variable {P : Program} {w : World} {K : PySem.W.Frag} {mg : Str → Option Value} {base : Heap}
theorem ok_with {f : Addr} {fd : FuncData} (F : Fun K "with_bodies" "with_bodies" sWith f fd) : FnOk P w K mg base CX0 1 f fd ["bodies", "others"] spWith := by
  refine F.ok scWith (fun vs H Q E h => ?_) (fun cdv A outer s H vs Q E hr h => ?_)
  · obtain ⟨a, b, ks, ls, rfl, _⟩ := h
    rfl
  · obtain ⟨a, b, ks, ls, rfl, ha, hb, na, nb, lz, k⟩ := h
    have hu := hu_of hr
    refine ⟨_, pss_cons (ps_lock (ps_setDcT (i := 2) (own := [("pair", 3)]) (g := gName 3) (tt := tYes) hr.units0 rfl scWith.nd rfl rfl (sw_trueD rfl rfl rfl rfl) (pi_keys (pv 0)) (blkOk_by (N := ["bodies", "others", "told", "pair"]) (sc := defScope sWith) (by decide +kernel)) (fun _ _ _ _ _ => pg_name (i := 3) scWith.nd rfl (Or.inl rfl)) (fun _ _ _ _ _ => pts_nil) (fun _ _ _ _ _ => pv 3) (fun _ _ _ _ _ => pe_dget hu (pv 0) (pv 3) (fun _ _ => rfl))))
      (pss_cons (ps_lock (ps_for PassesOwn.never rfl (pi_keys (pv 1)) (pg_name (i := 3) scWith.nd rfl (Or.inl rfl)) (pss_one (ps_dput hu (pv 2) (pv 3) (pe_dget hu (pv 1) (pv 3) (fun _ _ => rfl)) rfl))))
      (pss_one (ps_ret (pv 2)))), ?_⟩
    have lk := fun (i : Nat) => mergeT_len (ks.take i) []
    refine ⟨a, _, ha, trivial, fun od => ?_⟩
    refine ⟨_, rfl, a, od, rfl, .inr ⟨ks, upd_same, fun D hD => dcT_it (walk_keysT (d := a) (o := od)) (fun i Hk => Hk = upd (upd H a (.frz od (.dT ks))) D (.dT (mergeT [] (ks.take i)))) rfl (fun i Hk _ e => ?hG) ?turn ?fine⟩⟩
    case hG =>
      rw [e, upd_ne (fun z => by rw [← z, upd_same] at hD; cases hD), upd_same]
    case turn =>
      rintro i x Hk H' lt hP ⟨rfl, kk, v, q, e, rfl, hq⟩
      have aD : a ≠ D := fun z => by rw [← z, upd_same] at hD; cases hD
      have fa : H' a = some (.frz od (.dT ks)) := by rw [hP, upd_ne aD, upd_same]
      refine ⟨rfl, _, rfl, _, rfl, _, rfl, a, v, rfl, .inr ⟨ks, kk, q, .inr ⟨od, fa⟩, rfl, hq, (valT_at na e).symm⟩, _, kk, q, rfl, hq, by rw [hP]; exact upd_same, ?_, ?_⟩
      · have := lk i
        rw [List.length_take, List.length_nil] at this
        show _ < 16777216
        omega
      · rw [hP, upd_upd, mergeT_take [] e]
    case fine =>
      rintro Hk hP
      have aD : a ≠ D := fun z => by rw [← z, upd_same] at hD; cases hD
      have hDn : H D = none := by rw [upd_ne (fun z => aD z.symm)] at hD; exact hD
      have bD : b ≠ D := fun z => by rw [z, hDn] at hb; cases hb
      rw [List.take_length] at hP
      refine ⟨by rw [hP, upd_ne aD, upd_same], ?_⟩
      have e2 : upd Hk a (.dT ks) = upd H D (.dT (mergeT [] ks)) := by
        funext c
        rw [hP]
        by_cases c1 : c = a
        · subst c1
          rw [upd_same, upd_ne aD, ha]
        · rw [upd_ne c1]
          by_cases c2 : c = D
          · rw [c2, upd_same, upd_same]
          · rw [upd_ne c2, upd_ne c2, upd_ne c1]
      rw [e2]
      have hb2 : upd H D (.dT (mergeT [] ks)) b = some (.dT ls) := by rw [upd_ne bD]; exact hb
      refine ⟨b, _, hb2, trivial, fun ob => ?_⟩
      have fb : ∀ (o : HO), upd (upd (upd H D (.dT (mergeT [] ks))) b (.frz ob (.dT ls))) D o b = some (.frz ob (.dT ls)) := fun o => by rw [upd_ne bD, upd_same]
      refine ⟨_, rfl, b, ob, rfl, .inr ⟨ls, upd_same, for_it (walk_keysT (d := b) (o := ob)) (fun i σ Hk => ∃ y3, σ = [some (.ref a), some (.ref b), some (.ref D), y3] ∧ Hk = upd (upd (upd H D (.dT (mergeT [] ks))) b (.frz ob (.dT ls))) D (.dT (mergeT (mergeT [] ks) (ls.take i)))) ⟨_, rfl, ?h0⟩ (fun i σ Hk _ ⟨_, _, e⟩ => by rw [e]; exact fb _) ?hs ?hd⟩⟩
      case h0 =>
        funext c
        by_cases c2 : c = D
        · subst c2
          rw [upd_same, upd_ne (fun z => bD z.symm), upd_same]
          rfl
        · rw [upd_ne c2]
      case hs =>
        rintro i x σ Hk H' lt ⟨y3, rfl, hP2⟩ ⟨rfl, kk, v, q, e, rfl, hq⟩
        have f1 : H' b = some (.frz ob (.dT ls)) := by rw [hP2]; exact fb _
        have l2 := mergeT_len (ls.take i) (mergeT [] ks)
        have l1 := mergeT_len ks []
        rw [List.length_nil] at l1
        rw [List.length_take] at l2
        refine ⟨_, rfl, _, rfl, b, v, rfl, .inr ⟨ls, kk, q, .inr ⟨ob, f1⟩, rfl, hq, (valT_at nb e).symm⟩, _, rfl, _, rfl, D, _, rfl, .inr ⟨_, kk, q, by rw [hP2]; exact upd_same, rfl, hq, ?_, rfl⟩, _, rfl, ?_⟩
        · show _ < 16777216
          omega
        · rw [hP2, upd_upd, mergeT_take _ e]
      case hd =>
        rintro σ Hk ⟨y3, rfl, hP2⟩
        rw [List.take_length] at hP2
        refine ⟨by rw [hP2]; exact fb _, _, rfl, ?_⟩
        have e3 : upd Hk b (.dT ls) = upd H D (.dT (mergeT (mergeT [] ks) ls)) := by
          funext c
          rw [hP2]
          by_cases c1 : c = b
          · subst c1
            rw [upd_same, upd_ne bD, hb]
          · rw [upd_ne c1]
            by_cases c2 : c = D
            · rw [c2, upd_same, upd_same]
            · rw [upd_ne c2, upd_ne c2, upd_ne c1, upd_ne c2]
        rw [e3]
        exact k D hDn
end
end KP
end

section
set_option Elab.async false
set_option linter.all false
set_option maxRecDepth 100000
set_option maxHeartbeats 4000000
namespace KP
open PySem PySem.Spec PyProof.Rows L2 Pn
theorem sub_len {κ : Type} [DecidableEq κ] : ∀ (L W : List κ), L.Nodup → (∀ x ∈ L, x ∈ W) → L.length ≤ W.length
  | [], W, _, _ => Nat.zero_le _
  | x :: L, W, n, h => by
    obtain ⟨n1, n2⟩ := List.nodup_cons.mp n
    have m := h x List.mem_cons_self
    have ih := sub_len L (W.erase x) n2 (fun y my => (List.mem_erase_of_ne (fun e => n1 (by rw [← e]; exact my))).mpr (h y (List.mem_cons_of_mem _ my)))
    have := List.length_erase_of_mem m
    have : 0 < W.length := List.length_pos_of_mem m
    rw [List.length_cons]
    omega
abbrev sAsc : Stmt := top 62
theorem scAsc : FnScope ["words"] ["words"] (defScope sAsc) := ⟨rfl, rfl, rfl, by decide +kernel, rfl, by decide +kernel, by decide +kernel⟩
/-- the ascending tuple of the different words -/
def spAsc (K : PySem.W.Frag) : Sp := fun vs H Q _ => ∃ (l : Addr) (xs : List PySem.Str), vs = [.ref l] ∧ (SqL K H l (xs.map V.str) ∨ SqT K H l (xs.map V.str)) ∧ xs.length ≤ 1000 ∧ (∃ W : List PySem.Str, W.length < 64 ∧ ∀ x ∈ xs, x ∈ W) ∧
  ∀ t ys H', Ext H H' → H t = none → H' t = some (.tup (ys.map V.str)) → ys.Nodup → sortedS ys = true → (∀ x, x ∈ ys ↔ x ∈ xs) → Q (.ref t) H'
/-- the names of built-ins that are asked for -/
structure BltG (mg : PySem.Str → Option Value) : Prop where
  set : mg "set" = none
  sorted : mg "sorted" = none
  tuple : mg "tuple" = none
section
variable {P : Program} {w : World} {K : PySem.W.Frag} {mg : Str → Option Value} {base : Heap}
theorem ok_asc {f : Addr} {fd : FuncData} (F : Fun K "ascending" "ascending" sAsc f fd) (T : BltG mg) : FnOk P w K mg base CX0 1 f fd ["words"] (spAsc K) := by
  refine F.ok scAsc (fun vs H Q E h => ?_) (fun cdv A outer s H vs Q E hr h => ?_)
  · obtain ⟨l, xs, rfl, _⟩ := h
    rfl
  · obtain ⟨l, xs, rfl, hl, lz, ⟨W, lW, hW⟩, k⟩ := h
    refine ⟨_, pss_one (ps_ret (pe_callTy (T := "tuple") call_tuple_of (by rfl) T.tuple (by decide +kernel) (pa_cons (pe_callB (cr_sortedTx rfl) (by rfl) T.sorted (by decide +kernel) (pa_cons (pe_callTy (T := "set") (cr_setTx rfl) (by rfl) T.set (by decide +kernel) (pa_cons (pv 0) pa_nil)) pa_nil)) pa_nil))), ?_⟩
    refine ⟨_, rfl, l, xs, rfl, hl, by omega, fun a L ha lL nL mL => ?_⟩
    have l64 : L.length < 64 := by have := sub_len L W nL (fun x m => hW x ((mL x).mp m)); omega
    refine ⟨a, L, rfl, upd_same, l64, fun ys p pm st hp => ?_⟩
    refine ⟨p, ys.map V.str, rfl, .inl ⟨SqL.of upd_same, fun t ht => ?_⟩⟩
    have e1 : Ext H (upd (upd (upd H a (SetTx P w a L)) p (.lst (ys.map V.str))) t (.tup (ys.map V.str))) := ((Ext.upd ha).trans (Ext.upd hp)).trans (Ext.upd ht)
    refine k t ys _ e1 ?_ upd_same (pm.nodup_iff.mpr nL) st (fun x => (pm.mem_iff).trans (mL x))
    cases e : H t with
    | none => rfl
    | some o =>
      have := ((Ext.upd (o := SetTx P w a L) ha).trans (Ext.upd (o := .lst (ys.map V.str)) hp)) t o e
      have z : some o = none := this.symm.trans ht
      exact z
end
end KP
end

section
set_option Elab.async false
set_option linter.all false
set_option maxRecDepth 100000
set_option maxHeartbeats 4000000
/-! The ascending list of some texts is but one. -/
namespace L2
open PySem PySem.Spec PyProof.Rows
def leT (x y : Str) : Prop := ¬ y.cps.toList < x.cps.toList
theorem str_ext {x y : Str} (h : x.cps.toList = y.cps.toList) : x = y := by
  obtain ⟨⟨a⟩⟩ := x
  obtain ⟨⟨b⟩⟩ := y
  cases h
  rfl
theorem leT_trans {x y z : Str} (h : leT x y) (g : leT y z) : leT x z := fun l =>
  h (List.lt_of_le_of_lt (List.not_lt.mp g) l)
theorem leT_anti {x y : Str} (h : leT x y) (g : leT y x) : x = y := str_ext (List.le_antisymm (List.not_lt.mp h) (List.not_lt.mp g))
theorem rising_le : ∀ {p : Str} {l : List Str}, risingS p l = true → ∀ y ∈ l, leT p y
  | p, [], _, y, m => by cases m
  | p, x :: l, h, y, m => by
    have h' : (!ltCps x.cps.toList p.cps.toList && risingS x l) = true := h
    rw [Bool.and_eq_true, ltCps_eq] at h'
    have px : leT p x := by
      have := h'.1
      unfold leT
      simpa using this
    rcases List.mem_cons.mp m with rfl | m
    · exact px
    · exact leT_trans px (rising_le h'.2 y m)
theorem sorted_tail {x : Str} {l : List Str} (h : sortedS (x :: l) = true) : sortedS l = true ∧ ∀ y ∈ l, leT x y := by
  have h' : risingS x l = true := h
  refine ⟨?_, rising_le h'⟩
  cases l with
  | nil => rfl
  | cons z r =>
    have h2 : (!ltCps z.cps.toList x.cps.toList && risingS z r) = true := h'
    rw [Bool.and_eq_true] at h2
    exact h2.2
theorem sorted_unique : ∀ {ys zs : List Str}, sortedS ys = true → sortedS zs = true → ys.Nodup → zs.Nodup → (∀ x, x ∈ ys ↔ x ∈ zs) → ys = zs
  | [], [], _, _, _, _, _ => rfl
  | [], z :: zs, _, _, _, _, m => by have := (m z).mpr List.mem_cons_self; cases this
  | y :: ys, [], _, _, _, _, m => by have := (m y).mp List.mem_cons_self; cases this
  | y :: ys, z :: zs, h, g, n, k, m => by
    obtain ⟨h1, h2⟩ := sorted_tail h
    obtain ⟨g1, g2⟩ := sorted_tail g
    have n2 := List.nodup_cons.mp n
    have k2 := List.nodup_cons.mp k
    have e : y = z := by
      rcases List.mem_cons.mp ((m y).mp List.mem_cons_self) with e | a
      · exact e
      · rcases List.mem_cons.mp ((m z).mpr List.mem_cons_self) with e | b
        · exact e.symm
        · exact leT_anti (h2 z b) (g2 y a)
    subst e
    rw [sorted_unique h1 g1 n2.2 k2.2 fun x => ⟨fun a => ?_, fun a => ?_⟩]
    · rcases List.mem_cons.mp ((m x).mp (List.mem_cons_of_mem _ a)) with e | b
      · exact absurd (e ▸ a) n2.1
      · exact b
    · rcases List.mem_cons.mp ((m x).mpr (List.mem_cons_of_mem _ a)) with e | b
      · exact absurd (e ▸ a) k2.1
      · exact b
end L2
end

section
set_option Elab.async false
set_option linter.all false
set_option maxRecDepth 100000
set_option maxHeartbeats 4000000
namespace KP
open PySem PySem.Spec PyProof.Rows L2 Pn
abbrev sKeysOf : Stmt := top 65
theorem scKeysOf : FnScope ["bodies", "_", "key"] ["bodies"] (defScope sKeysOf) := ⟨rfl, rfl, rfl, by decide +kernel, rfl, by decide +kernel, by decide +kernel⟩
/-- the keys of a dict are pairs of texts -/
def PairKeys (ks : List (List Key × V)) (ps : List (PySem.Str × PySem.Str)) : Prop := ks.map (·.1) = ps.map fun p => [Sum.inr p.1, Sum.inr p.2]
def spKeysOf : Sp := fun vs H Q _ => ∃ (a : Addr) (ks : List (List Key × V)) (ps : List (PySem.Str × PySem.Str)), vs = [.ref a] ∧ H a = some (.dT ks) ∧ PairKeys ks ps ∧ ks.length < 64 ∧
  ∀ t ys H', Ext H H' → H t = none → H' t = some (.tup (ys.map V.str)) → ys.Nodup → sortedS ys = true → (∀ x, x ∈ ys ↔ x ∈ ps.map (·.2)) → Q (.ref t) H'
section
variable {P : Program} {w : World} {K : PySem.W.Frag} {mg : Str → Option Value} {base : Heap}
theorem ok_keysOf {f fA : Addr} {fd fdA : FuncData} (F : Fun K "keys_of" "keys_of" sKeysOf f fd) (FA : Fun K "ascending" "ascending" sAsc fA fdA) (bA : Binds K fdA ["words"] []) (gA : Fn K mg "ascending" fA) (T : BltG mg) : FnOk P w K mg base CX0 2 f fd ["bodies"] spKeysOf := by
  have GA : FnOk P w K mg base CX0 1 fA fdA ["words"] (spAsc K) := ok_asc FA T
  refine F.ok scKeysOf (fun vs H Q E h => ?_) (fun cdv A outer s H vs Q E hr h => ?_)
  · obtain ⟨l, xs, ps, rfl, _⟩ := h
    rfl
  · obtain ⟨a, ks, ps, rfl, ha, hp, lz, k⟩ := h
    have hr1 : Room 1 _ := hr
    refine ⟨_, pss_one (ps_ret (pe_call GA hr1 rfl gA.g gA.k bA .nil pass0 (pa_cons (pe_lock (pe_lc (own := [("_", 1), ("key", 2)]) (g := gTup K 2 (gCons (gName 1) (gCons (gName 2) gNil))) (tt := tYes) rfl scKeysOf.nd (pi_keys (pv 0)) (blkOk_by (N := ["bodies", "_", "key"]) (sc := defScope sKeysOf) (by decide +kernel)) (fun _ _ _ _ _ => by exact pg_tup rfl (pgs_cons (pg_name (i := 1) scKeysOf.nd rfl (Or.inl rfl)) (pgs_cons (pg_name (i := 2) scKeysOf.nd rfl (Or.inl rfl)) pgs_nil))) (fun _ _ _ _ _ => pts_nil) (fun _ _ _ _ _ => pv 2))) pa_nil))), ?_⟩
    refine ⟨a, _, ha, trivial, fun od => ?_⟩
    have pk : ∀ {i : Nat} {kk : List Key} {v : V}, ks[i]? = some (kk, v) → ∃ p, ps[i]? = some p ∧ kk = [Sum.inr p.1, Sum.inr p.2] := fun {i kk v} e => by
      have h1 : (ks.map (·.1))[i]? = some kk := by rw [List.getElem?_map, e]; rfl
      rw [hp, List.getElem?_map] at h1
      cases e2 : ps[i]? with
      | none => rw [e2] at h1; cases h1
      | some p =>
        rw [e2] at h1
        exact ⟨p, rfl, (Option.some.inj h1).symm⟩
    have ln : ks.length = ps.length := by
      have := congrArg List.length hp
      rw [List.length_map, List.length_map] at this
      exact this
    refine ⟨_, rfl, a, od, rfl, .inr ⟨ks, upd_same, fun L hL => lc_it (walk_keysT (d := a) (o := od)) (fun i Hk => Hk = upd (upd H a (.frz od (.dT ks))) L (.lst ((ps.take i).map fun p => V.str p.2))) rfl (fun i Hk _ e => ?hG) ?turn ?fine⟩⟩
    case hG => rw [e, upd_ne (fun z => by rw [← z, upd_same] at hL; cases hL), upd_same]
    case turn =>
      rintro i x Hk H' lt hP ⟨rfl, kk, v, q, e, rfl, hq⟩
      obtain ⟨p, ep, rfl⟩ := pk e
      refine ⟨q, _, rfl, SqT.of hq, rfl, _, _, rfl, _, _, rfl, rfl, ?_⟩
      refine ⟨rfl, _, rfl, _, by rw [hP]; exact upd_same, ?_, ?_⟩
      · rw [List.length_map, List.length_take]
        show _ < 16777216
        omega
      · rw [hP, upd_upd, List.take_add_one, ep, List.map_append]
        rfl
    case fine =>
      rintro Hk hP
      have aL : a ≠ L := fun z => by rw [← z, upd_same] at hL; cases hL
      have hLn : H L = none := by rw [upd_ne (fun z => aL z.symm)] at hL; exact hL
      rw [ln, List.take_length] at hP
      refine ⟨by rw [hP, upd_ne aL, upd_same], ?_⟩
      have e2 : upd Hk a (.dT ks) = upd H L (.lst (ps.map fun p => V.str p.2)) := by
        funext c
        rw [hP]
        by_cases c1 : c = a
        · subst c1
          rw [upd_same, upd_ne aL, ha]
        · rw [upd_ne c1]
          by_cases c2 : c = L
          · rw [c2, upd_same, upd_same]
          · rw [upd_ne c2, upd_ne c2, upd_ne c1]
      rw [e2]
      refine ⟨L, ps.map (·.2), rfl, .inl (by rw [List.map_map]; exact SqL.of upd_same), by rw [List.length_map]; omega, ⟨ps.map (·.2), by rw [List.length_map]; omega, fun x m => m⟩, fun t ys H' eH ht h1 h2 h3 h4 => k t ys H' ((Ext.upd hLn).trans eH) ?_ h1 h2 h3 h4⟩
      cases e : H t with
      | none => rfl
      | some o =>
        have z : (none : Option HO) = some o := ht.symm.trans (Ext.upd (o := .lst (ps.map fun p => V.str p.2)) hLn t o e)
        cases z
end
end KP
end

section
set_option Elab.async false
set_option linter.all false
set_option maxRecDepth 100000
set_option maxHeartbeats 4000000
namespace KP
open PySem PySem.Spec PyProof.Rows L2 Pn
abbrev sWords : Stmt := top 82
section
variable {P : Program} {w : World} {K : PySem.W.Frag} {mg : Str → Option Value} {base : Heap}
/-- so many words in a new list -/
def spWords : Sp := fun vs H Q _ => ∃ (p c : Addr) (ns : List Int) (n : Nat) (m : Nat), vs = [.ref p, .int m] ∧ PenAt H p c ns n ∧ n ≤ 999999000 ∧ ns.length ≤ 63 ∧ m ≤ 20 ∧
  ∀ (a : Addr) (ws : List PySem.Str) (H' : Hp), H a = none → H' a = some (.lst (ws.map V.str)) → ws.length = m → (∀ z ∈ ws, Wd z) → But p H H' → PenAt H' p c ns (n + 10) → Q (.ref a) H'
theorem scWords : FnScope ["_law_pen_here", "_law_count", "_law_signs", "_law_k", "_law_stem", "_law_at_here", "_law_front", "_law_step", "_law_tail", "_law_found", "_law_sign", "_law_word"] ["_law_pen_here", "_law_count"] (defScope sWords) := ⟨rfl, rfl, rfl, by decide +kernel, rfl, by decide +kernel, by decide +kernel⟩
theorem ok_words {f fP fD : Addr} {fd fdP fdD : FuncData} (F : Fun K "_law_words" "_law_words" sWords f fd) (T : Blt mg) (FD : Fun K "_law_draw" "_law_draw" sDraw fD fdD) (bD : Binds K fdD ["_law_pen_here", "_law_size"] []) (gD : Fn K mg "_law_draw" fD)
    (FP : Fun K "_law_pick" "_law_pick" sPick fP fdP) (bP : Binds K fdP ["_law_pen_here", "_law_items_here"] []) (gP : Fn K mg "_law_pick" fP) : FnOk P w K mg base CX0 3 f fd ["_law_pen_here", "_law_count"] spWords := by
  have GD : FnOk P w K mg base CX0 1 fD fdD ["_law_pen_here", "_law_size"] spDraw := ok_draw FD T
  have GP : FnOk P w K mg base CX0 2 fP fdP ["_law_pen_here", "_law_items_here"] (spPick2 K) := ok_pick FP T FD bD gD
  refine F.ok scWords (fun vs H Q E h => ?_) (fun cdv A outer s H vs Q E hr h => ?_)
  · obtain ⟨p, c, ns, n, m, rfl, _⟩ := h
    rfl
  · obtain ⟨p, c, ns, n, m, rfl, hP, hn, hl, hm, k⟩ := h
    have hr2 : Room 2 _ := hr
    have hr1 : Room 1 _ := hr.mono (by decide)
    refine ⟨_, (pss_cons (ps_set (i := 2) scWords.nd rfl (Or.inr rfl) pe_str)
      (pss_cons (ps_set (i := 4) scWords.nd rfl (Or.inl rfl) (pe_join pe_str (pe_lc (own := [("_law_k", 3)]) (g := gName 3) (tt := tYes) rfl scWords.nd (pi_range1 (by rfl) T.range (pa_cons (pe_call GD hr1 rfl gD.g gD.k bD .nil pass0 (pa_cons (pv 0) (pa_cons pe_int pa_nil))) pa_nil)) (blkOk_by (N := ["_law_pen_here", "_law_count", "_law_signs", "_law_k", "_law_stem", "_law_at_here", "_law_front", "_law_step", "_law_tail", "_law_found", "_law_sign", "_law_word"]) (sc := defScope sWords) (by decide +kernel)) (fun _ _ _ _ _ => pg_name (i := 3) scWords.nd rfl (Or.inl rfl)) (fun _ _ _ _ _ => pts_nil) (fun _ _ _ _ _ => (pe_call GP hr2 rfl gP.g gP.k bP .nil pass0 (pa_cons (pv 0) (pa_cons (pv 2) pa_nil)))))))
      (pss_cons (ps_par (i := 5) (j := 6) (by rfl) scWords.nd rfl rfl (by decide) rfl rfl (pa_cons (pe_call GD hr1 rfl gD.g gD.k bD .nil pass0 (pa_cons (pv 0) (pa_cons (pe_op op_add (pe_callB call_len_str (by rfl) T.len PySem.boot_len (pa_cons (pv 4) pa_nil)) pe_int) pa_nil))) (pa_cons (pe_call GD hr1 rfl gD.g gD.k bD .nil pass0 (pa_cons (pv 0) (pa_cons pe_int pa_nil))) pa_nil)) (by rfl))
      (pss_cons (ps_par (i := 7) (j := 8) (by rfl) scWords.nd rfl rfl (by decide) rfl rfl (pa_cons (pe_call GP hr2 rfl gP.g gP.k bP .nil pass0 (pa_cons (pv 0) (pa_cons (pe_lst (pa_cons pe_int (pa_cons pe_int (pa_cons pe_int (pa_cons pe_int (pa_cons pe_int (pa_cons pe_int (pa_cons pe_int (pa_cons pe_int pa_nil))))))))) pa_nil))) (pa_cons (pe_call GP hr2 rfl gP.g gP.k bP .nil pass0 (pa_cons (pv 0) (pa_cons (pe_lst (pa_cons pe_str (pa_cons pe_str (pa_cons pe_str (pa_cons pe_str pa_nil))))) pa_nil))) pa_nil)) (by rfl))
      (pss_cons (ps_set (i := 9) scWords.nd rfl (Or.inl rfl) (pe_lst pa_nil))
      (pss_cons (ps_for PassesOwn.never rfl (pi_range1 (by rfl) T.range (pa_cons (pv 1) pa_nil)) (pg_name (i := 3) scWords.nd rfl (Or.inl rfl)) (pss_cons (ps_set (i := 10) scWords.nd rfl (Or.inl rfl) (pe_ix ix_str (pv 2) (pe_op op_modN (pe_callTy call_int1 (by rfl) T.int (by decide +kernel) (pa_cons (pe_op op_add (pv 6) (pe_op op_mul (pv 7) (pv 3))) pa_nil)) pe_int) (fun _ _ => rfl)))
        (pss_cons (ps_set (i := 11) scWords.nd rfl (Or.inl rfl) (pe_op op_add_str (pe_op op_add_str (pe_slice sl_str (pv 4) po_none (po_some (pv 5))) (pv 10)) (pe_slice sl_str (pv 4) (po_some (pv 5)) po_none)))
        (pss_one (ps_expr (pe_bm PySem.F.plainAttrs_list PySem.F.slot_list_append PySem.F.type_list_append mt_append (pv 9) (pa_cons (pe_ifExp (pt_cmpR op_eq (pe_op op_modN (pe_callTy call_int1 (by rfl) T.int (by decide +kernel) (pa_cons (pv 3) pa_nil)) pe_int) pe_int (nomark _)) (pe_op op_add_str (pv 11) (pv 8)) (pv 11)) pa_nil)))))))
      (pss_one (ps_ret (pv 9))))))))), ?_⟩
    refine ⟨⟨_, rfl⟩, _, rfl, p, c, ns, n, 6, rfl, hP, by omega, hl, by decide, by decide, fun d0 H1 d0a d0b hB1 hP1 => ?_⟩
    refine ⟨d0, rfl, by omega, by omega, fun D hD => ?_⟩
    have hP1' := hP1
    obtain ⟨kvs1, hp1⟩ := hP1.at
    refine lc_range (Pv := fun i Hk => But p H1 Hk ∧ PenAt Hk p c ns (n + 1 + i) ∧ ∃ ys : List PySem.Str, Hk D = some (.lst (ys.map V.str)) ∧ ys.length = i ∧ ∀ y ∈ ys, ∃ c, y = ⟨#[c]⟩ ∧ 97 ≤ c ∧ c ≤ 122) ?h0 ?hs ?hd
    case h0 =>
      exact ⟨(But.refl p H1).new hD, hP1.same (same_new hD), [], upd_same, rfl, fun y m => by cases m⟩
    case hs =>
      rintro i Hk hi ⟨hB, hP', ys, hL, hy, hY⟩
      refine ⟨rfl, _, rfl, _, rfl, p, c, _, ns, _, _, rfl, hP', by omega, hl, .inr ⟨abc, rfl, by decide +kernel, rfl⟩, ?_, ?_, fun x H' hx hB' hP'' => ?_⟩
      · rw [List.length_map, ← lenL, abc_len]; decide
      · rw [List.length_map, ← lenL, abc_len]; decide
      obtain ⟨c1, hc1, rfl⟩ := List.mem_map.mp hx
      have ne : D ≠ p := fun z => by rw [z, hp1] at hD; cases hD
      have hL' := hB' _ _ ne hL
      refine ⟨_, hL', by rw [List.length_map, hy]; show i < 16777216; omega, ?_⟩
      refine ⟨fun b o n h => ?_, ?_, ys ++ [⟨#[c1]⟩], ?_, ?_, ?_⟩
      · rw [upd_ne (ne_of_none h hD)]; exact hB' _ _ n (hB _ _ n h)
      · exact hP''.upd (hP1'.old hD).1 (hP1'.old hD).2
      · rw [upd_same, List.map_append]; rfl
      · rw [List.length_append, hy]; rfl
      · intro y m
        rcases List.mem_append.mp m with m | m
        · exact hY y m
        · rcases List.mem_cons.mp m with rfl | m
          · exact ⟨c1, rfl, abc_low _ hc1⟩
          · cases m
    case hd =>
      rintro Hk ⟨hB, hP', ys, hL, hy, hY⟩
      have jl := join_low ys hY
      refine ⟨_, D, ys, rfl, rfl, .inl (SqL.of hL), ?_, ?_⟩
      · rw [ones_sum ys hY, hy]
        show d0.toNat + d0.toNat * 0 ≤ 16777216
        omega
      generalize Txt.join "" ys = stem at jl ⊢
      have sl : stem.length = d0.toNat := by rw [lenL, jl.1, hy]
      have hS : stem.length ≤ 5 := by omega
      have m8 : sizeLine = 16777216 := rfl
      refine ⟨_, rfl, _, rfl, _, rfl, by omega, _, 1, rfl, rfl, ?_⟩
      refine ⟨p, c, ns, _, _, rfl, hP', by omega, hl, by omega, by omega, fun d1 H2 a1 b1 hB2 hP2 => ?_⟩
      refine ⟨_, rfl, p, c, ns, _, _, rfl, hP2, by omega, hl, by decide, by decide, fun d2 H3 a2 b2 hB3 hP3 => ?_⟩
      refine ⟨_, _, rfl, _, rfl, (by show 8 ≤ sizeLine; decide), fun l4 hl4 => ?_⟩
      refine ⟨p, c, _, ns, _, _, rfl, hP3.same (same_new hl4), by omega, hl, .inl ⟨_, rfl, SqL.of upd_same⟩, by decide, by decide, fun x4 H4 m4 hB4 hP4 => ?_⟩
      have v4 : ∃ j : Int, x4 = .int j ∧ 1 ≤ j ∧ j ≤ 17 := by
        have : ∀ x ∈ ([V.int 1, .int 3, .int 5, .int 7, .int 9, .int 11, .int 15, .int 17] : List V), ∃ j : Int, x = .int j ∧ 1 ≤ j ∧ j ≤ 17 := by
          intro x m
          simp only [List.mem_cons, List.not_mem_nil, or_false] at m
          rcases m with rfl | rfl | rfl | rfl | rfl | rfl | rfl | rfl <;> exact ⟨_, rfl, by decide, by decide⟩
        exact this _ m4
      obtain ⟨st, rfl, st0, st1⟩ := v4
      refine ⟨_, rfl, (by show 4 ≤ sizeLine; decide), fun l5 hl5 => ?_⟩
      refine ⟨p, c, _, ns, _, _, rfl, hP4.same (same_new hl5), by omega, hl, .inl ⟨_, rfl, SqL.of upd_same⟩, by decide, by decide, fun x5 H5 m5 hB5 hP5 => ?_⟩
      have v5 : ∃ t : PySem.Str, x5 = .str t ∧ t.length ≤ 2 ∧ Low t.cps.toList := by
        have : ∀ x ∈ ([V.str "", .str "", .str "w", .str "ww"] : List V), ∃ t : PySem.Str, x = .str t ∧ t.length ≤ 2 ∧ Low t.cps.toList := by
          intro x m
          simp only [List.mem_cons, List.not_mem_nil, or_false] at m
          rcases m with rfl | rfl | rfl | rfl <;> exact ⟨_, rfl, by decide +kernel, by unfold Low; decide +kernel⟩
        exact this _ m5
      obtain ⟨tl, rfl, tl2, tlow⟩ := v5
      refine ⟨_, _, rfl, (Nat.zero_le _), fun a6 hl6 => ?_⟩
      have B5 : But p H H5 := (((((hB1.trans hB).trans hB2).trans hB3).new hl4).trans hB4)|>.new hl5 |>.trans hB5
      obtain ⟨kvs5, hp5⟩ := hP5.at
      have ha6 : H a6 = none := B5.fresh hp5 hl6
      have sd : stem.cps.toList.length ≤ 5 := by rw [← lenL]; exact hS
      refine ⟨_, rfl, (m : Int), rfl, by omega, by omega, for_range (n := m) (fun i σ Hk => (∃ k sn wd, σ = [some (.ref p), some (.int (m : Int)), some (.str abc), k, some (.str stem), some (.int d1), some (.int d2), some (.int st), some (.str tl), some (.ref a6), sn, wd]) ∧ But p H Hk ∧ PenAt Hk p c ns (n + 10) ∧ ∃ ws : List PySem.Str, Hk a6 = some (.lst (ws.map V.str)) ∧ ws.length = i ∧ ∀ z ∈ ws, Wd z) ⟨⟨_, _, _, rfl⟩, B5.new hl6, (hP5.same (same_new hl6)).mono (by omega), [], upd_same, rfl, fun z h => by cases h⟩ ?_ ?_⟩
      · rintro i σ Hk hi ⟨⟨kv, sn, wd, rfl⟩, hBk, hPk, ws, hL6, hw, hW⟩
        obtain ⟨c1, hc1, c1a, c1b⟩ := abc_at (fm (d2 + st * (0 + (i : Int))) (by decide : (0 : Int) < 26)).1 (fm (d2 + st * (0 + (i : Int))) (by decide : (0 : Int) < 26)).2
        refine ⟨_, rfl, _, rfl, _, rfl, _, rfl, _, _, rfl, rfl, .inl ⟨by omega, by omega⟩, _, _, rfl, rfl, .inl ⟨_, rfl, _, _, rfl, rfl, (by decide : (26 : Int) ≠ 0), abc, _, c1, rfl, rfl, by decide +kernel, hc1, ?_⟩⟩
        obtain ⟨k1, rfl⟩ := Int.eq_ofNat_of_zero_le a1
        have two := cut_two stem k1 (by omega)
        have low0 : Low stem.cps.toList := jl.2
        refine ⟨_, rfl, _, rfl, _, rfl, stem, rfl, by omega, _, rfl, _, _, rfl, rfl, ?_, _, rfl, _, rfl, _, rfl, stem, rfl, by omega, _, _, rfl, rfl, ?_, ?_⟩
        · show (cutS stem none (some (k1 : Int))).length + 1 ≤ 16777216
          rw [lenL]; omega
        · rw [lenL, cps_app, List.length_append]
          show _ + 1 + (cutS stem (some (k1 : Int)) none).length ≤ 16777216
          rw [lenL (cutS stem (some (k1 : Int)) none)]; omega
        have lo1 := low0.cut none (some (k1 : Int))
        have lo2 := low0.cut (some (k1 : Int)) none
        generalize cutS stem none (some (k1 : Int)) = zA at two lo1 ⊢
        generalize cutS stem (some (k1 : Int)) none = zB at two lo2 ⊢
        have wl : (zA ++ (⟨#[c1]⟩ : PySem.Str) ++ zB).cps.toList.length = stem.length + 1 := by
          rw [cps_app, cps_app, List.length_append, List.length_append, ← two]
          show zA.cps.toList.length + 1 + zB.cps.toList.length = _
          omega
        have wlow : Low (zA ++ (⟨#[c1]⟩ : PySem.Str) ++ zB).cps.toList := by
          rw [cps_app, cps_app]
          exact (lo1.app (Low.one ⟨c1a, c1b⟩)).app lo2
        generalize zA ++ (⟨#[c1]⟩ : PySem.Str) ++ zB = wd at wl wlow ⊢
        have fin : ∀ z : PySem.Str, Wd z → But p H (upd Hk a6 (.lst (ws.map V.str ++ [.str z]))) ∧ PenAt (upd Hk a6 (.lst (ws.map V.str ++ [.str z]))) p c ns (n + 10) ∧ ∃ ws' : List PySem.Str, upd Hk a6 (.lst (ws.map V.str ++ [.str z])) a6 = some (.lst (ws'.map V.str)) ∧ ws'.length = i + 1 ∧ ∀ z ∈ ws', Wd z := by
          intro z hz
          refine ⟨fun b o n h => ?_, hPk.upd (hP5.old hl6).1 (hP5.old hl6).2, ws ++ [z], ?_, ?_, ?_⟩
          · rw [upd_ne (ne_of_none h ha6)]; exact hBk _ _ n h
          · rw [upd_same, List.map_append]; rfl
          · rw [List.length_append, hw]; rfl
          · intro y m
            rcases List.mem_append.mp m with m | m
            · exact hW y m
            · rcases List.mem_cons.mp m with rfl | m
              · exact hz
              · cases m
        have room : (ws.map V.str).length < sizeLine := by rw [List.length_map, hw]; show i < 16777216; omega
        refine ⟨_, rfl, .inl ⟨rfl, _, SqL.of hL6⟩, ?_⟩
        refine ⟨_, rfl, .inl ⟨_, rfl, _, _, rfl, rfl, (by decide : (3 : Int) ≠ 0), rfl, _, rfl, ?_⟩⟩
        refine ite2 (fun _ => ?_) (fun _ => ?_)
        · refine ⟨_, rfl, _, rfl, _, _, rfl, rfl, ?_, a6, _, _, rfl, rfl, hL6, room, ⟨_, _, _, rfl⟩, fin _ ?_⟩
          · rw [lenL, wl]; omega
          · refine ⟨?_, ?_, ?_⟩
            · rw [cps_app, List.length_append, wl]; omega
            · rw [cps_app, List.length_append, wl, ← lenL tl]; omega
            · rw [cps_app]; exact wlow.app tlow
        · exact ⟨_, rfl, a6, _, _, rfl, rfl, hL6, room, ⟨_, _, _, rfl⟩, fin _ ⟨by rw [wl]; omega, by rw [wl]; omega, wlow⟩⟩
      · rintro σ Hk ⟨⟨kv, sn, wd, rfl⟩, hBk, hPk, ws, hL6, hw, hW⟩
        exact ⟨_, rfl, k a6 ws Hk ha6 hL6 hw hW hBk hPk⟩
end
end KP
end

section
set_option Elab.async false
set_option linter.all false
set_option maxRecDepth 100000
set_option maxHeartbeats 4000000
/-! Plain items: what they are, how they stand in the heap. -/
namespace Pn
open PySem PySem.Spec PyProof.Rows L2
inductive Itm where
  | say (z : PySem.Str)
  | press (z : PySem.Str)
  | go (z : PySem.Str)
  | times (n : Int) (its : List Itm)
mutual
/-- so deep at most, words and numbers right -/
inductive ItOk : Nat → Itm → Prop
  | say {d : Nat} {z : PySem.Str} : Wd z → ItOk d (.say z)
  | press {d : Nat} {z : PySem.Str} : Wd z → ItOk d (.press z)
  | go {d : Nat} {z : PySem.Str} : Wd z → ItOk d (.go z)
  | times {d : Nat} {n : Int} {its : List Itm} : 0 ≤ n → n ≤ 1000000000 → its.length ≤ 3 → ItsOk d its → ItOk (d + 1) (.times n its)
inductive ItsOk : Nat → List Itm → Prop
  | nil {d : Nat} : ItsOk d []
  | cons {d : Nat} {i : Itm} {is : List Itm} : ItOk d i → ItsOk d is → ItsOk d (i :: is)
end
mutual
/-- how an item stands in the heap, over none of the places B -/
inductive Rp (B : Addr → Prop) (H : Hp) : V → Itm → Prop
  | say {t : Addr} {z : PySem.Str} : ¬B t → H t = some (.tup [.str "say", .str z]) → Rp B H (.ref t) (.say z)
  | press {t : Addr} {z : PySem.Str} : ¬B t → H t = some (.tup [.str "press", .str z]) → Rp B H (.ref t) (.press z)
  | go {t : Addr} {z : PySem.Str} : ¬B t → H t = some (.tup [.str "go", .str z]) → Rp B H (.ref t) (.go z)
  | times {t l : Addr} {n : Int} {vs : List V} {its : List Itm} : ¬B t → ¬B l → H t = some (.tup [.str "times", .int n, .ref l]) → H l = some (.lst vs) → Rps B H vs its → Rp B H (.ref t) (.times n its)
inductive Rps (B : Addr → Prop) (H : Hp) : List V → List Itm → Prop
  | nil : Rps B H [] []
  | cons {v : V} {vs : List V} {i : Itm} {is : List Itm} : Rp B H v i → Rps B H vs is → Rps B H (v :: vs) (i :: is)
end
mutual
theorem Rp.mono {B B' : Addr → Prop} {H H' : Hp} (b : ∀ a, B' a → B a) (e : ∀ a o, ¬B a → H a = some o → H' a = some o) : ∀ (i : Itm) (v : V), Rp B H v i → Rp B' H' v i
  | .say _, _, h => by cases h with | say n h => exact .say (fun z => n (b _ z)) (e _ _ n h)
  | .press _, _, h => by cases h with | press n h => exact .press (fun z => n (b _ z)) (e _ _ n h)
  | .go _, _, h => by cases h with | go n h => exact .go (fun z => n (b _ z)) (e _ _ n h)
  | .times _ its, _, h => by cases h with | times n m h g r => exact .times (fun z => n (b _ z)) (fun z => m (b _ z)) (e _ _ n h) (e _ _ m g) (Rps.mono b e its _ r)
theorem Rps.mono {B B' : Addr → Prop} {H H' : Hp} (b : ∀ a, B' a → B a) (e : ∀ a o, ¬B a → H a = some o → H' a = some o) : ∀ (is : List Itm) (vs : List V), Rps B H vs is → Rps B' H' vs is
  | [], _, h => by cases h; exact .nil
  | i :: is, _, h => by cases h with | cons h1 h2 => exact .cons (Rp.mono b e i _ h1) (Rps.mono b e is _ h2)
end
theorem Rps.len {B : Addr → Prop} {H : Hp} : ∀ {is : List Itm} {vs : List V}, Rps B H vs is → vs.length = is.length
  | [], _, h => by cases h; rfl
  | i :: is, _, h => by cases h with | cons h1 h2 => rw [List.length_cons, List.length_cons, h2.len]
theorem Rps.app {B : Addr → Prop} {H : Hp} : ∀ {is js : List Itm} {vs ws : List V}, Rps B H vs is → Rps B H ws js → Rps B H (vs ++ ws) (is ++ js)
  | [], _, _, _, h, g => by cases h; exact g
  | i :: is, _, _, _, h, g => by cases h with | cons h1 h2 => exact .cons h1 (h2.app g)
theorem ItsOk.app {d : Nat} : ∀ {is js : List Itm}, ItsOk d is → ItsOk d js → ItsOk d (is ++ js)
  | [], _, h, g => g
  | i :: is, _, h, g => by cases h with | cons h1 h2 => exact .cons h1 (h2.app g)
/-- commands, keys and modes -/
def NamesAt (H : Hp) (a : Addr) : Prop := ∃ (l1 l2 l3 : Addr) (w1 w2 w3 : List PySem.Str), H a = some (.tup [.ref l1, .ref l2, .ref l3]) ∧
  (H l1 = some (.lst (w1.map V.str)) ∧ w1.length = 3 ∧ ∀ z ∈ w1, Wd z) ∧ (H l2 = some (.lst (w2.map V.str)) ∧ w2.length = 3 ∧ ∀ z ∈ w2, Wd z) ∧ (H l3 = some (.lst (w3.map V.str)) ∧ w3.length = 3 ∧ ∀ z ∈ w3, Wd z)
theorem NamesAt.ext {H H' : Hp} {a : Addr} (h : NamesAt H a) (e : ∀ b xs, H b = some (.tup xs) → H' b = some (.tup xs)) (g : ∀ b xs, H b = some (.lst xs) → H' b = some (.lst xs)) : NamesAt H' a := by
  obtain ⟨l1, l2, l3, w1, w2, w3, h0, ⟨a1, b1⟩, ⟨a2, b2⟩, ⟨a3, b3⟩⟩ := h
  exact ⟨l1, l2, l3, w1, w2, w3, e _ _ h0, ⟨g _ _ a1, b1⟩, ⟨g _ _ a2, b2⟩, ⟨g _ _ a3, b3⟩⟩
theorem NamesAt.same {H H' : Hp} {a : Addr} (h : NamesAt H a) (e : Same H H') : NamesAt H' a := h.ext (fun b xs => e b _) (fun b xs => e b _)
theorem NamesAt.but {H H' : Hp} {a p : Addr} {kvs : List (Key × V)} (h : NamesAt H a) (e : But p H H') (hp : H p = some (.dK kvs)) : NamesAt H' a :=
  h.ext (fun b xs g => e b _ (ne_of g hp (by intro z; cases z)) g) (fun b xs g => e b _ (ne_of g hp (by intro z; cases z)) g)
end Pn
end

section
set_option Elab.async false
set_option linter.all false
set_option maxRecDepth 100000
set_option maxHeartbeats 4000000
namespace KP
open PySem PySem.Spec PyProof.Rows L2 Pn
abbrev sNames : Stmt := top 86
abbrev sItem : Stmt := top 84
abbrev sItems : Stmt := top 85
theorem nine : ∀ {ws : List PySem.Str}, ws.length = 9 → ∃ a b c d e f g h i, ws = [a, b, c, d, e, f, g, h, i]
  | [a, b, c, d, e, f, g, h, i], _ => ⟨a, b, c, d, e, f, g, h, i, rfl⟩
section
variable {P : Program} {w : World} {K : PySem.W.Frag} {mg : Str → Option Value} {base : Heap}
/-- three words in a list -/
def WL (H : Hp) (v : V) : Prop := ∃ (t : Addr) (ws : List PySem.Str), v = .ref t ∧ (H t = some (.lst (ws.map V.str)) ∧ ws.length = 3 ∧ ∀ z ∈ ws, Wd z)
theorem WL.same {H H' : Hp} {v : V} (h : WL H v) (e : Same H H') : WL H' v := let ⟨t, ws, r, a, b⟩ := h; ⟨t, ws, r, e _ _ a, b⟩
theorem WL.but {H H' : Hp} {p : Addr} {kvs : List (Key × V)} {v : V} (h : WL H v) (e : But p H H') (hp : H p = some (.dK kvs)) : WL H' v := let ⟨t, ws, r, a, b⟩ := h; ⟨t, ws, r, e _ _ (ne_of a hp (by intro z; cases z)) a, b⟩
theorem WL.two {H : Hp} {a b : V} (h : WL H a) (g : WL H b) : ∀ x ∈ [a, b], WL H x := fun x m => by
  rcases List.mem_cons.mp m with rfl | m
  · exact h
  · rcases List.mem_cons.mp m with rfl | m
    · exact g
    · cases m
def spNames : Sp := fun vs H Q _ => ∃ (p c : Addr) (ns : List Int) (n : Nat), vs = [.ref p] ∧ PenAt H p c ns n ∧ n ≤ 999990000 ∧ ns.length ≤ 63 ∧
  ∀ (a : Addr) (H' : Hp), H a = none → NamesAt H' a → But p H H' → PenAt H' p c ns (n + 12) → Q (.ref a) H'
theorem scNames : FnScope ["_law_pen_here", "_law_some"] ["_law_pen_here"] (defScope sNames) := ⟨rfl, rfl, rfl, by decide +kernel, rfl, by decide +kernel, by decide +kernel⟩
theorem ok_names {f fP fD fW : Addr} {fd fdP fdD fdW : FuncData} (F : Fun K "_law_names" "_law_names" sNames f fd) (T : Blt mg) (FD : Fun K "_law_draw" "_law_draw" sDraw fD fdD) (bD : Binds K fdD ["_law_pen_here", "_law_size"] []) (gD : Fn K mg "_law_draw" fD)
    (FP : Fun K "_law_pick" "_law_pick" sPick fP fdP) (bP : Binds K fdP ["_law_pen_here", "_law_items_here"] []) (gP : Fn K mg "_law_pick" fP)
    (FW : Fun K "_law_words" "_law_words" sWords fW fdW) (bW : Binds K fdW ["_law_pen_here", "_law_count"] []) (gW : Fn K mg "_law_words" fW) : FnOk P w K mg base CX0 4 f fd ["_law_pen_here"] spNames := by
  have GP : FnOk P w K mg base CX0 2 fP fdP ["_law_pen_here", "_law_items_here"] (spPick2 K) := ok_pick FP T FD bD gD
  have GW : FnOk P w K mg base CX0 3 fW fdW ["_law_pen_here", "_law_count"] spWords := ok_words FW T FD bD gD FP bP gP
  refine F.ok scNames (fun vs H Q E h => ?_) (fun cdv A outer s H vs Q E hr h => ?_)
  · obtain ⟨p, c, ns, n, rfl, _⟩ := h
    rfl
  · obtain ⟨p, c, ns, n, rfl, hP, hn, hl, k⟩ := h
    have hr3 : Room 3 _ := hr
    have hr2 : Room 2 _ := hr.mono (by decide)
    refine ⟨_, (pss_cons (ps_set (i := 1) scNames.nd rfl (Or.inl rfl) (pe_call GW hr3 rfl gW.g gW.k bW .nil pass0 (pa_cons (pv 0) (pa_cons pe_int pa_nil))))
      (pss_one (ps_ret (pe_tup (pa_cons (pe_slice sl_list (pv 1) po_none (po_some pe_int)) (pa_cons (pe_call GP hr2 rfl gP.g gP.k bP .nil pass0 (pa_cons (pv 0) (pa_cons (pe_lst (pa_cons (pe_slice sl_list (pv 1) (po_some pe_int) (po_some pe_int)) (pa_cons (pe_slice sl_list (pv 1) (po_some pe_int) (po_some pe_int)) pa_nil))) pa_nil))) (pa_cons (pe_call GP hr2 rfl gP.g gP.k bP .nil pass0 (pa_cons (pv 0) (pa_cons (pe_lst (pa_cons (pe_slice sl_list (pv 1) (po_some pe_int) (po_some pe_int)) (pa_cons (pe_slice sl_list (pv 1) (po_some pe_int) (po_some pe_int)) pa_nil))) pa_nil))) pa_nil))))))), ?_⟩
    refine ⟨_, rfl, p, c, ns, n, 9, rfl, hP, by omega, hl, by decide, fun a ws H1 ha hL hw hW hB1 hP1 => ?_⟩
    obtain ⟨z0, z1, z2, z3, z4, z5, z6, z7, z8, rfl⟩ := nine hw
    refine ⟨_, rfl, 3, rfl, a, _, rfl, SqL.of hL, fun q1 h1 => ?_⟩
    have e1 : cutV (([z0, z1, z2, z3, z4, z5, z6, z7, z8] : List PySem.Str).map V.str) none (some 3) = ([z0, z1, z2] : List PySem.Str).map V.str := rfl
    have e2 : cutV (([z0, z1, z2, z3, z4, z5, z6, z7, z8] : List PySem.Str).map V.str) (some 3) (some 6) = ([z3, z4, z5] : List PySem.Str).map V.str := rfl
    have e3 : cutV (([z0, z1, z2, z3, z4, z5, z6, z7, z8] : List PySem.Str).map V.str) (some 1) (some 4) = ([z1, z2, z3] : List PySem.Str).map V.str := rfl
    have e4 : cutV (([z0, z1, z2, z3, z4, z5, z6, z7, z8] : List PySem.Str).map V.str) (some 6) (some 9) = ([z6, z7, z8] : List PySem.Str).map V.str := rfl
    have e5 : cutV (([z0, z1, z2, z3, z4, z5, z6, z7, z8] : List PySem.Str).map V.str) (some 4) (some 7) = ([z4, z5, z6] : List PySem.Str).map V.str := rfl
    rw [e1]
    have L1 : upd H1 q1 (.lst (([z0, z1, z2] : List PySem.Str).map V.str)) q1 = some (.lst (([z0, z1, z2] : List PySem.Str).map V.str)) := upd_same
    have hL' := same_new (o := .lst (([z0, z1, z2] : List PySem.Str).map V.str)) h1 _ _ hL
    have S1 : Same H1 (upd H1 q1 (.lst (([z0, z1, z2] : List PySem.Str).map V.str))) := same_new h1
    generalize upd H1 q1 (.lst (([z0, z1, z2] : List PySem.Str).map V.str)) = H2 at L1 hL' S1 ⊢
    refine ⟨_, rfl, _, rfl, 3, rfl, 6, rfl, a, _, rfl, SqL.of hL', fun q2 h2 => ?_⟩
    rw [e2]
    have L2' : upd H2 q2 (.lst (([z3, z4, z5] : List PySem.Str).map V.str)) q2 = some (.lst (([z3, z4, z5] : List PySem.Str).map V.str)) := upd_same
    have S2 : Same H2 (upd H2 q2 (.lst (([z3, z4, z5] : List PySem.Str).map V.str))) := same_new h2
    generalize upd H2 q2 (.lst (([z3, z4, z5] : List PySem.Str).map V.str)) = H3 at L2' S2 ⊢
    refine ⟨_, rfl, 1, rfl, 4, rfl, a, _, rfl, SqL.of (S2 _ _ hL'), fun q3 h3 => ?_⟩
    rw [e3]
    have L3' : upd H3 q3 (.lst (([z1, z2, z3] : List PySem.Str).map V.str)) q3 = some (.lst (([z1, z2, z3] : List PySem.Str).map V.str)) := upd_same
    have S3 : Same H3 (upd H3 q3 (.lst (([z1, z2, z3] : List PySem.Str).map V.str))) := same_new h3
    generalize upd H3 q3 (.lst (([z1, z2, z3] : List PySem.Str).map V.str)) = H4 at L3' S3 ⊢
    refine ⟨(by show 2 ≤ sizeLine; decide), fun q4 h4 => ?_⟩
    have S4 : Same H4 (upd H4 q4 (.lst [.ref q2, .ref q3])) := same_new h4
    have S14 : Same H1 _ := ((S1.trans S2).trans S3).trans S4
    have wd3 : ∀ (x y z : PySem.Str), Wd x → Wd y → Wd z → ∀ u ∈ ([x, y, z] : List PySem.Str), Wd u := fun x y z hx hy hz u m => by
      simp only [List.mem_cons, List.not_mem_nil, or_false] at m
      rcases m with rfl | rfl | rfl <;> assumption
    have hh : ∀ u ∈ ([z0, z1, z2, z3, z4, z5, z6, z7, z8] : List PySem.Str), Wd u := hW
    have g0 := hh z0 (by simp); have g1 := hh z1 (by simp); have g2 := hh z2 (by simp); have g3 := hh z3 (by simp); have g4 := hh z4 (by simp)
    have g5 := hh z5 (by simp); have g6 := hh z6 (by simp); have g7 := hh z7 (by simp); have g8 := hh z8 (by simp)
    have W1 : WL _ (.ref q1) := ⟨q1, [z0, z1, z2], rfl, S4 _ _ (S3 _ _ (S2 _ _ L1)), rfl, wd3 _ _ _ g0 g1 g2⟩
    have W2 : WL _ (.ref q2) := ⟨q2, [z3, z4, z5], rfl, S4 _ _ (S3 _ _ L2'), rfl, wd3 _ _ _ g3 g4 g5⟩
    have W3 : WL _ (.ref q3) := ⟨q3, [z1, z2, z3], rfl, S4 _ _ L3', rfl, wd3 _ _ _ g1 g2 g3⟩
    have A2 := W2.two W3
    have P5 := hP1.same S14
    have L5 := S4 _ _ (S3 _ _ (S2 _ _ hL'))
    have U5 : upd H4 q4 (.lst [.ref q2, .ref q3]) q4 = some (.lst [.ref q2, .ref q3]) := upd_same
    have B5 : But p H _ := hB1.trans (Same.but p S14)
    generalize upd H4 q4 (.lst [.ref q2, .ref q3]) = H5 at W1 A2 P5 L5 U5 B5 ⊢
    refine ⟨p, c, _, ns, _, _, rfl, P5, by omega, hl, .inl ⟨_, rfl, SqL.of U5⟩, (by show 0 < 2; decide), (by show 2 < 1073741824; decide), fun x5 H6 m5 hB6 hP6 => ?_⟩
    obtain ⟨kvs5, hp5⟩ := P5.at
    obtain ⟨kvs6, hp6⟩ := hP6.at
    have X5 := (A2 x5 m5).but hB6 hp5
    have W1' := W1.but hB6 hp5
    have B6 := B5.trans hB6
    have L6 := hB6 _ _ (ne_of L5 hp5 (by intro z; cases z)) L5
    clear A2 W2 W3 U5 L5 W1 P5 hp5 hB6 B5
    refine ⟨_, rfl, _, rfl, 6, rfl, 9, rfl, a, _, rfl, SqL.of L6, fun q5 h5 => ?_⟩
    rw [e4]
    have L7 : upd H6 q5 (.lst (([z6, z7, z8] : List PySem.Str).map V.str)) q5 = some (.lst (([z6, z7, z8] : List PySem.Str).map V.str)) := upd_same
    have S7 : Same H6 (upd H6 q5 (.lst (([z6, z7, z8] : List PySem.Str).map V.str))) := same_new h5
    generalize upd H6 q5 (.lst (([z6, z7, z8] : List PySem.Str).map V.str)) = H7 at L7 S7 ⊢
    refine ⟨_, rfl, 4, rfl, 7, rfl, a, _, rfl, SqL.of (S7 _ _ L6), fun q6 h6 => ?_⟩
    rw [e5]
    have L8 : upd H7 q6 (.lst (([z4, z5, z6] : List PySem.Str).map V.str)) q6 = some (.lst (([z4, z5, z6] : List PySem.Str).map V.str)) := upd_same
    have S8 : Same H7 (upd H7 q6 (.lst (([z4, z5, z6] : List PySem.Str).map V.str))) := same_new h6
    generalize upd H7 q6 (.lst (([z4, z5, z6] : List PySem.Str).map V.str)) = H8 at L8 S8 ⊢
    refine ⟨(by show 2 ≤ sizeLine; decide), fun q7 h7 => ?_⟩
    have S9 : Same H8 (upd H8 q7 (.lst [.ref q5, .ref q6])) := same_new h7
    have S69 : Same H6 _ := (S7.trans S8).trans S9
    have A9 := WL.two ⟨q5, [z6, z7, z8], rfl, S9 _ _ (S8 _ _ L7), rfl, wd3 _ _ _ g6 g7 g8⟩ ⟨q6, [z4, z5, z6], rfl, S9 _ _ L8, rfl, wd3 _ _ _ g4 g5 g6⟩
    have U9 : upd H8 q7 (.lst [.ref q5, .ref q6]) q7 = some (.lst [.ref q5, .ref q6]) := upd_same
    generalize upd H8 q7 (.lst [.ref q5, .ref q6]) = H9 at S69 A9 U9 S9 ⊢
    have P9 := hP6.same S69
    obtain ⟨kvs9, hp9⟩ := P9.at
    refine ⟨p, c, _, ns, _, _, rfl, P9, by omega, hl, .inl ⟨_, rfl, SqL.of U9⟩, (by show 0 < 2; decide), (by show 2 < 1073741824; decide), fun x10 H10 m10 hB10 hP10 => ?_⟩
    have X10 := (A9 x10 m10).but hB10 hp9
    have X5' := (X5.same S69).but hB10 hp9
    have X1' := (W1'.same S69).but hB10 hp9
    have B10 := (B6.trans (Same.but p S69)).trans hB10
    obtain ⟨kvs10, hp10⟩ := hP10.at
    refine ⟨(by show 3 ≤ sizeLine; decide), fun t ht => ?_⟩
    have B11 := B10.new (o := .tup [.ref q1, x5, x10]) ht
    obtain ⟨t1, w1, e1', f1⟩ := X1'
    obtain ⟨t2, w2, rfl, f2⟩ := X5'
    obtain ⟨t3, w3, rfl, f3⟩ := X10
    cases e1'
    have S11 : Same H10 (upd H10 t (.tup [.ref q1, .ref t2, .ref t3])) := same_new ht
    refine k t _ (B10.fresh hp10 ht) ⟨q1, t2, t3, w1, w2, w3, upd_same, ⟨S11 _ _ f1.1, f1.2⟩, ⟨S11 _ _ f2.1, f2.2⟩, ⟨S11 _ _ f3.1, f3.2⟩⟩ B11 (hP10.same S11)
end
end KP
end

section
set_option Elab.async false
set_option linter.all false
set_option maxRecDepth 100000
set_option maxHeartbeats 4000000
namespace KP
open PySem PySem.Spec PyProof.Rows L2 Pn
/-- how many draws an item takes -/
def cost : Nat → Nat
  | 0 => 10
  | d + 1 => 10 + 3 * cost d
def spNo : Sp := fun _ _ _ _ => False
def spItem (D : Nat) : Sp := fun vs H Q _ => ∃ (p c a : Addr) (ns : List Int) (n : Nat), vs = [.ref p, .ref a, .int D] ∧ PenAt H p c ns n ∧ NamesAt H a ∧ n + cost D ≤ 1000000000 ∧ ns.length ≤ 63 ∧
  ∀ (v : V) (it : Itm) (H' : Hp), Rp (fun b => H b ≠ none) H' v it → ItOk D it → But p H H' → PenAt H' p c ns (n + cost D) → Q v H'
def spItems (D : Nat) : Sp := fun vs H Q _ => ∃ (p c a : Addr) (ns : List Int) (n t : Nat), vs = [.ref p, .ref a, .int D, .int t] ∧ PenAt H p c ns n ∧ NamesAt H a ∧ t ≤ 20 ∧ n + 1 + t * cost D ≤ 1000000000 ∧ ns.length ≤ 63 ∧
  ∀ (l : Addr) (vs : List V) (its : List Itm) (H' : Hp), H l = none → H' l = some (.lst vs) → Rps (fun b => b = l ∨ H b ≠ none) H' vs its → ItsOk D its → its.length ≤ t → But p H H' → PenAt H' p c ns (n + 1 + t * cost D) → Q (.ref l) H'
def spItemsP : Nat → Sp
  | 0 => spNo
  | d + 1 => spItems d
section
variable {P : Program} {w : World} {K : PySem.W.Frag} {mg : Str → Option Value} {base : Heap}
theorem ok_no {k : Nat} {f : Addr} {fd : FuncData} {ps : List Str} : FnOk P w K mg base CX0 k f fd ps spNo := ⟨fun _ _ _ _ h => h.elim, fun _ _ _ _ _ _ _ _ _ _ _ _ _ h => h.elim⟩
theorem scItem : FnScope ["_law_pen_here", "_law_names_here", "_law_deep", "_law_lot", "_law_size"] ["_law_pen_here", "_law_names_here", "_law_deep"] (defScope sItem) := ⟨rfl, rfl, rfl, by decide +kernel, rfl, by decide +kernel, by decide +kernel⟩
theorem ok_item1 (D : Nat) {f fP fD fI : Addr} {fd fdP fdD fdI : FuncData} (F : Fun K "_law_item" "_law_item" sItem f fd) (T : Blt mg) (FD : Fun K "_law_draw" "_law_draw" sDraw fD fdD) (bD : Binds K fdD ["_law_pen_here", "_law_size"] []) (gD : Fn K mg "_law_draw" fD)
    (FP : Fun K "_law_pick" "_law_pick" sPick fP fdP) (bP : Binds K fdP ["_law_pen_here", "_law_items_here"] []) (gP : Fn K mg "_law_pick" fP)
    (GI : FnOk P w K mg base CX0 (2 + 2 * D) fI fdI ["_law_pen_here", "_law_names_here", "_law_deep", "_law_topmost"] (spItemsP D)) (bI : Binds K fdI ["_law_pen_here", "_law_names_here", "_law_deep", "_law_topmost"] []) (gI : Fn K mg "_law_items" fI) :
    FnOk P w K mg base CX0 (3 + 2 * D) f fd ["_law_pen_here", "_law_names_here", "_law_deep"] (spItem D) := by
  have GD : FnOk P w K mg base CX0 1 fD fdD ["_law_pen_here", "_law_size"] spDraw := ok_draw FD T
  have GP : FnOk P w K mg base CX0 2 fP fdP ["_law_pen_here", "_law_items_here"] (spPick2 K) := ok_pick FP T FD bD gD
  rw [show 3 + 2 * D = (2 + 2 * D) + 1 by omega]
  refine F.ok scItem (fun vs H Q E h => ?_) (fun cdv A outer s H vs Q E hr h => ?_)
  · obtain ⟨p, c, a, ns, n, rfl, _⟩ := h
    rfl
  · obtain ⟨p, c, a, ns, n, rfl, hP, hN, hn, hl, k⟩ := h
    have hrI : Room (2 + 2 * D) _ := hr
    have hr2 : Room 2 _ := hr.mono (by omega)
    have hr1 : Room 1 _ := hr.mono (by omega)
    refine ⟨_, (pss_cons (ps_set (i := 3) scItem.nd rfl (Or.inl rfl) (pe_call GD hr1 rfl gD.g gD.k bD .nil pass0 (pa_cons (pv 0) (pa_cons (pe_ifExp (pt_cmpR op_gt (pv 2) pe_int (nomark _)) pe_int pe_int) pa_nil))))
      (pss_cons (ps_if (pt_cmpR op_lt (pv 3) pe_int (nomark _)) (pss_one (ps_ret (pe_tup (pa_cons pe_str (pa_cons (pe_call GP hr2 rfl gP.g gP.k bP .nil pass0 (pa_cons (pv 0) (pa_cons (pe_ix ix_tup (pv 1) pe_int (fun _ _ => rfl)) pa_nil))) pa_nil))))) pss_nil)
      (pss_cons (ps_if (pt_cmpR op_lt (pv 3) pe_int (nomark _)) (pss_one (ps_ret (pe_tup (pa_cons pe_str (pa_cons (pe_call GP hr2 rfl gP.g gP.k bP .nil pass0 (pa_cons (pv 0) (pa_cons (pe_ix ix_tup (pv 1) pe_int (fun _ _ => rfl)) pa_nil))) pa_nil))))) pss_nil)
      (pss_cons (ps_if (pt_cmpR op_eq (pv 3) pe_int (nomark _)) (pss_one (ps_ret (pe_tup (pa_cons pe_str (pa_cons (pe_call GP hr2 rfl gP.g gP.k bP .nil pass0 (pa_cons (pv 0) (pa_cons (pe_ix ix_tup (pv 1) pe_int (fun _ _ => rfl)) pa_nil))) pa_nil))))) pss_nil)
      (pss_cons (ps_set (i := 4) scItem.nd rfl (Or.inl rfl) (pe_call GP hr2 rfl gP.g gP.k bP .nil pass0 (pa_cons (pv 0) (pa_cons (pe_lst (pa_cons pe_int (pa_cons pe_int (pa_cons pe_int (pa_cons pe_int (pa_cons pe_int (pa_cons (pe_op op_pow pe_int pe_int) (pa_cons (pe_call GD hr1 rfl gD.g gD.k bD .nil pass0 (pa_cons (pv 0) (pa_cons pe_int pa_nil))) pa_nil)))))))) pa_nil))))
      (pss_one (ps_ret (pe_tup (pa_cons pe_str (pa_cons (pv 4) (pa_cons (pe_call GI hrI rfl gI.g gI.k bI .nil pass0 (pa_cons (pv 0) (pa_cons (pv 1) (pa_cons (pe_op op_sub (pv 2) pe_int) (pa_cons pe_int pa_nil))))) pa_nil))))))))))), ?_⟩
    have cD : 10 ≤ cost D := by cases D <;> unfold cost <;> omega
    have m8 : sizeLine = 16777216 := rfl
    refine ⟨_, rfl, _, rfl, _, 0, rfl, rfl, _, rfl, ?_⟩
    refine ite2 (fun hD => ?a) (fun hD => ?b)
    case' a => refine ⟨p, c, ns, n, 8, rfl, hP, by omega, hl, by decide, by decide, fun lot H1 la lb hB1 hP1 => ?_⟩
    case' b => refine ⟨p, c, ns, n, 6, rfl, hP, by omega, hl, by decide, by decide, fun lot H1 la lb hB1 hP1 => ?_⟩
    all_goals
      obtain ⟨kvs, hp⟩ := hP.at
      obtain ⟨l1, l2, l3, w1, w2, w3, h0, ⟨a1, b1, c1⟩, ⟨a2, b2, c2⟩, ⟨a3, b3, c3⟩⟩ := hN.but hB1 hp
      have hN1 := hN.but hB1 hp
      refine ⟨_, rfl, _, 3, rfl, rfl, _, rfl, ?_⟩
      refine ite2 (fun _ => ?_) (fun h3 => ⟨_, rfl, _, 5, rfl, rfl, _, rfl, ite2 (fun _ => ?_) (fun h5 => ?_)⟩)
      · refine ⟨_, rfl, _, rfl, a, _, 0, _, rfl, rfl, SqT.of h0, atI_nat rfl, p, c, _, ns, _, _, rfl, hP1, by omega, hl, .inl ⟨l1, rfl, SqL.of a1⟩, by rw [List.length_map, b1]; decide, by rw [List.length_map, b1]; decide, fun x H2 hm hB2 hP2 => ?_⟩
        obtain ⟨z, hz, rfl⟩ := List.mem_map.mp hm
        refine ⟨(by show 2 ≤ sizeLine; decide), fun t ht => ?_⟩
        obtain ⟨kvs2, hp2⟩ := hP2.at
        have B2 := hB1.trans hB2
        have ht0 := B2.fresh hp2 ht
        exact k _ (.say z) _ (.say (fun q => q ht0) upd_same) (.say (c1 z hz)) (B2.new ht) ((hP2.same (same_new ht)).mono (by omega))
      · refine ⟨_, rfl, _, rfl, a, _, 1, _, rfl, rfl, SqT.of h0, atI_nat rfl, p, c, _, ns, _, _, rfl, hP1, by omega, hl, .inl ⟨l2, rfl, SqL.of a2⟩, by rw [List.length_map, b2]; decide, by rw [List.length_map, b2]; decide, fun x H2 hm hB2 hP2 => ?_⟩
        obtain ⟨z, hz, rfl⟩ := List.mem_map.mp hm
        refine ⟨(by show 2 ≤ sizeLine; decide), fun t ht => ?_⟩
        obtain ⟨kvs2, hp2⟩ := hP2.at
        have B2 := hB1.trans hB2
        have ht0 := B2.fresh hp2 ht
        exact k _ (.press z) _ (.press (fun q => q ht0) upd_same) (.press (c2 z hz)) (B2.new ht) ((hP2.same (same_new ht)).mono (by omega))
      refine ⟨_, rfl, rfl, _, rfl, ite2 (fun _ => ?_) (fun h6 => ?_)⟩
      · refine ⟨_, rfl, _, rfl, a, _, 2, _, rfl, rfl, SqT.of h0, atI_nat rfl, p, c, _, ns, _, _, rfl, hP1, by omega, hl, .inl ⟨l3, rfl, SqL.of a3⟩, by rw [List.length_map, b3]; decide, by rw [List.length_map, b3]; decide, fun x H2 hm hB2 hP2 => ?_⟩
        obtain ⟨z, hz, rfl⟩ := List.mem_map.mp hm
        refine ⟨(by show 2 ≤ sizeLine; decide), fun t ht => ?_⟩
        obtain ⟨kvs2, hp2⟩ := hP2.at
        have B2 := hB1.trans hB2
        have ht0 := B2.fresh hp2 ht
        exact k _ (.go z) _ (.go (fun q => q ht0) upd_same) (.go (c3 z hz)) (B2.new ht) ((hP2.same (same_new ht)).mono (by omega))
      have big : 5 < lot := by
        have x3 : ¬ lot < 3 := fun z => h3 (decide_eq_true z)
        have x5 : ¬ lot < 5 := fun z => h5 (decide_eq_true z)
        have x6 : ¬ lot = 5 := fun z => h6 (decide_eq_true (by rw [z]))
        omega
      cases D with
      | zero =>
        first
        | exact absurd hD (by decide)
        | (exfalso; omega)
      | succ d =>
        have cd : cost (d + 1) = 10 + 3 * cost d := rfl
        refine ⟨_, rfl, 10, 9, rfl, rfl, ⟨by decide, by decide, by decide⟩, _, rfl, p, c, ns, _, 1000, rfl, hP1, by omega, hl, by decide, by decide, fun q H2 q0 q1 hB2 hP2 => ?_⟩
        refine ⟨(by show 7 ≤ sizeLine; decide), fun l4 hl4 => ?_⟩
        refine ⟨p, c, _, ns, _, _, rfl, hP2.same (same_new hl4), by omega, hl, .inl ⟨_, rfl, SqL.of upd_same⟩, (by show 0 < 7; decide), (by show 7 < 1073741824; decide), fun x H4 hm hB4 hP4 => ?_⟩
        have v4 : ∃ j : Int, x = .int j ∧ 0 ≤ j ∧ j ≤ 1000000000 := by
          simp only [List.mem_cons, List.not_mem_nil, or_false] at hm
          rcases hm with rfl | rfl | rfl | rfl | rfl | rfl | rfl
          iterate 6 exact ⟨_, rfl, by decide, by decide⟩
          exact ⟨_, rfl, q0, by omega⟩
        obtain ⟨j, rfl, j0, j1⟩ := v4
        have B4 := ((hB1.trans hB2).new hl4).trans hB4
        refine ⟨_, rfl, _, rfl, _, rfl, _, rfl, _, 1, rfl, rfl, ?_⟩
        refine ⟨p, c, a, ns, _, 3, by show [V.ref p, V.ref a, V.int (((d + 1 : Nat) : Int) - 1), V.int 3] = _; rw [show ((d + 1 : Nat) : Int) - 1 = (d : Int) by omega]; rfl, hP4, hN.but B4 hp, by decide, by omega, hl, fun l vs its H5 hl0 hL hR hO hlen hB5 hP5 => ?_⟩
        obtain ⟨kvs4, hp4⟩ := hP4.at
        obtain ⟨kvs5, hp5⟩ := hP5.at
        refine ⟨(by show 3 ≤ sizeLine; decide), fun t ht => ?_⟩
        have B5 := B4.trans hB5
        have ht0 := B5.fresh hp5 ht
        have hl00 := B4.fresh hp4 hl0
        have S5 : Same H5 (upd H5 t (.tup [.str "times", .int j, .ref l])) := same_new ht
        refine k _ (.times j its) _ (.times (fun q => q ht0) (fun q => q hl00) upd_same (S5 _ _ hL) ?_) (.times j0 j1 hlen hO) (B5.new ht) ((hP5.same S5).mono (by omega))
        refine Rps.mono ?_ (fun b o _ h => S5 _ _ h) its vs hR
        exact fun b hb => .inr (fun z => hb (B4.fresh hp4 z))
theorem scItems : FnScope ["_law_pen_here", "_law_names_here", "_law_deep", "_law_topmost", "_law_k"] ["_law_pen_here", "_law_names_here", "_law_deep", "_law_topmost"] (defScope sItems) := ⟨rfl, rfl, rfl, by decide +kernel, rfl, by decide +kernel, by decide +kernel⟩
theorem ok_items1 (D : Nat) {f fD fE : Addr} {fd fdD fdE : FuncData} (F : Fun K "_law_items" "_law_items" sItems f fd) (T : Blt mg) (FD : Fun K "_law_draw" "_law_draw" sDraw fD fdD) (bD : Binds K fdD ["_law_pen_here", "_law_size"] []) (gD : Fn K mg "_law_draw" fD)
    (GE : FnOk P w K mg base CX0 (3 + 2 * D) fE fdE ["_law_pen_here", "_law_names_here", "_law_deep"] (spItem D)) (bE : Binds K fdE ["_law_pen_here", "_law_names_here", "_law_deep"] []) (gE : Fn K mg "_law_item" fE) :
    FnOk P w K mg base CX0 (4 + 2 * D) f fd ["_law_pen_here", "_law_names_here", "_law_deep", "_law_topmost"] (spItems D) := by
  have GD : FnOk P w K mg base CX0 1 fD fdD ["_law_pen_here", "_law_size"] spDraw := ok_draw FD T
  rw [show 4 + 2 * D = (3 + 2 * D) + 1 by omega]
  refine F.ok scItems (fun vs H Q E h => ?_) (fun cdv A outer s H vs Q E hr h => ?_)
  · obtain ⟨p, c, a, ns, n, t, rfl, _⟩ := h
    rfl
  · obtain ⟨p, c, a, ns, n, t, rfl, hP, hN, ht, hn, hl, k⟩ := h
    have hrE : Room (3 + 2 * D) _ := hr
    have hr1 : Room 1 _ := hr.mono (by omega)
    refine ⟨_, (pss_one (ps_ret (pe_lc (own := [("_law_k", 4)]) (g := gName 4) (tt := tYes) rfl scItems.nd (pi_range1 (by rfl) T.range (pa_cons (pe_call GD hr1 rfl gD.g gD.k bD .nil pass0 (pa_cons (pv 0) (pa_cons (pe_op op_add (pv 3) pe_int) pa_nil))) pa_nil)) (blkOk_by (N := ["_law_pen_here", "_law_names_here", "_law_deep", "_law_topmost", "_law_k"]) (sc := defScope sItems) (by decide +kernel)) (fun _ _ _ _ _ => pg_name (i := 4) scItems.nd rfl (Or.inl rfl)) (fun _ _ _ _ _ => pts_nil) (fun _ _ _ _ _ => (pe_call GE hrE rfl gE.g gE.k bE .nil pass0 (pa_cons (pv 0) (pa_cons (pv 1) (pa_cons (pv 2) pa_nil)))))))), ?_⟩
    obtain ⟨kvs, hp⟩ := hP.at
    refine ⟨_, rfl, _, rfl, _, 1, rfl, rfl, p, c, ns, n, (t : Int) + 1, rfl, hP, by omega, hl, by omega, by omega, fun d0 H1 da db hB1 hP1 => ?_⟩
    obtain ⟨kvs1, hp1⟩ := hP1.at
    refine ⟨d0, rfl, by omega, by omega, fun L hL => ?_⟩
    have hL0 : H L = none := hB1.fresh hp1 hL
    have Lp : L ≠ p := (hP1.old hL).1
    have step : ∀ i, i < d0.toNat → n + 1 + i * cost D + cost D ≤ n + 1 + t * cost D := fun i hi => by
      have : (i + 1) * cost D ≤ t * cost D := Nat.mul_le_mul_right _ (by omega)
      rw [Nat.succ_mul] at this
      omega
    refine lc_range (Pv := fun i Hk => But p H Hk ∧ PenAt Hk p c ns (n + 1 + i * cost D) ∧ ∃ (vs : List V) (its : List Itm), Hk L = some (.lst vs) ∧ Rps (fun b => b = L ∨ H b ≠ none) Hk vs its ∧ ItsOk D its ∧ its.length = i) ?h0 ?hs ?hd
    case h0 => exact ⟨hB1.new hL, (hP1.same (same_new hL)).mono (by omega), [], [], upd_same, .nil, .nil, rfl⟩
    case hs =>
      rintro i Hk hi ⟨hB, hP', vs, its, hLk, hR, hO, hlen⟩
      obtain ⟨kvsk, hpk⟩ := hP'.at
      have hs1 := step i hi
      refine ⟨rfl, _, rfl, _, rfl, _, rfl, p, c, a, ns, _, rfl, hP', hN.but hB hp, by omega, hl, fun v it H' hR' hO' hB' hP'' => ?_⟩
      have hL' := hB' _ _ Lp hLk
      refine ⟨vs, hL', by rw [hR.len, hlen]; show i < 16777216; omega, ?_⟩
      refine ⟨fun b o nb h => by rw [upd_ne (ne_of_none h hL0)]; exact hB' _ _ nb (hB _ _ nb h), ?_, vs ++ [v], its ++ [it], upd_same, ?_, hO.app (.cons hO' .nil), by rw [List.length_append, hlen]; rfl⟩
      · rw [show n + 1 + (i + 1) * cost D = n + 1 + i * cost D + cost D by rw [Nat.succ_mul]; omega]
        exact hP''.upd Lp (hP1.old hL).2
      · refine Rps.app (Rps.mono (fun b h => h) (fun b o nb h => ?_) its vs hR) (.cons (Rp.mono (fun b h => ?_) (fun b o nb h => ?_) it v hR') .nil)
        · have bL : b ≠ L := fun z => nb (.inl z)
          have bp : b ≠ p := fun z => nb (.inr (by rw [z, hp]; exact Option.some_ne_none _))
          rw [upd_ne bL]
          exact hB' _ _ bp h
        · rcases h with rfl | h
          · rw [hLk]; exact Option.some_ne_none _
          · exact fun z => h (hB.fresh hpk z)
        · have bL : b ≠ L := fun z => nb (by rw [z, hLk]; exact Option.some_ne_none _)
          rw [upd_ne bL]
          exact h
    case hd =>
      rintro Hk ⟨hB, hP', vs, its, hLk, hR, hO, hlen⟩
      refine k L vs its Hk hL0 hLk hR hO (by omega) hB (hP'.mono ?_)
      have : d0.toNat * cost D ≤ t * cost D := Nat.mul_le_mul_right _ (by omega)
      omega
theorem ok_both {f fP fD fI : Addr} {fd fdP fdD fdI : FuncData} (F : Fun K "_law_item" "_law_item" sItem f fd) (T : Blt mg) (FD : Fun K "_law_draw" "_law_draw" sDraw fD fdD) (bD : Binds K fdD ["_law_pen_here", "_law_size"] []) (gD : Fn K mg "_law_draw" fD)
    (FP : Fun K "_law_pick" "_law_pick" sPick fP fdP) (bP : Binds K fdP ["_law_pen_here", "_law_items_here"] []) (gP : Fn K mg "_law_pick" fP)
    (FI : Fun K "_law_items" "_law_items" sItems fI fdI) (bI : Binds K fdI ["_law_pen_here", "_law_names_here", "_law_deep", "_law_topmost"] []) (gI : Fn K mg "_law_items" fI) (bE : Binds K fd ["_law_pen_here", "_law_names_here", "_law_deep"] []) (gE : Fn K mg "_law_item" f) :
    ∀ D : Nat, FnOk P w K mg base CX0 (3 + 2 * D) f fd ["_law_pen_here", "_law_names_here", "_law_deep"] (spItem D) ∧ FnOk P w K mg base CX0 (4 + 2 * D) fI fdI ["_law_pen_here", "_law_names_here", "_law_deep", "_law_topmost"] (spItems D)
  | 0 => by
    have a := ok_item1 (P := P) (w := w) (base := base) 0 F T FD bD gD FP bP gP (GI := ok_no (fd := fdI)) bI gI
    exact ⟨a, ok_items1 0 FI T FD bD gD a bE gE⟩
  | D + 1 => by
    have ih := ok_both F T FD bD gD FP bP gP FI bI gI bE gE D
    have a := ok_item1 (P := P) (w := w) (base := base) (D + 1) F T FD bD gD FP bP gP (GI := by rw [show 2 + 2 * (D + 1) = 4 + 2 * D by omega]; exact ih.2) bI gI
    exact ⟨a, ok_items1 (D + 1) FI T FD bD gD a bE gE⟩
end
end KP
end

section
set_option Elab.async false
set_option linter.all false
set_option maxRecDepth 100000
set_option maxHeartbeats 4000000
/-! Kinds of values; a comprehension over a text; lists of texts as data. -/
namespace Pn
open PySem PySem.Spec PyProof.Rows L2
theorem tyL {K : PySem.W.Frag} {H : Hp} {a : Addr} {xs : List V} (h : SqL K H a xs) : TyX K H (.ref a) (.type "list") := by
  rcases h with (h | ⟨o, h⟩) | ⟨o, its, n, h, c, _⟩
  · exact .base (.lst h)
  · exact .base (.frz h)
  · exact .kList h c
theorem tyT {K : PySem.W.Frag} {H : Hp} {a : Addr} {xs : List V} (h : SqT K H a xs) : TyX K H (.ref a) (.type "tuple") := by
  rcases h with (h | ⟨o, h⟩) | ⟨o, its, n, h, c, _⟩
  · exact .base (.tup h)
  · exact .fTuple h
  · exact .kTuple h c
/-- the name of the class of a value of data -/
def kindD : PyData → String
  | .none => "NoneType"
  | .bool _ => "bool"
  | .int _ => "int"
  | .str _ => "str"
  | .list _ => "list"
  | .tuple _ => "tuple"
  | .dict _ => "dict"
theorem Dp.ty {K : PySem.W.Frag} {H : Hp} {v : V} {d : PyData} (h : Dp K H v d) : TyX K H v (.type (kindD d)) := by
  cases h with
  | non => exact .base .non
  | bl b => exact .base (.bl b)
  | int i => exact .base (.int i)
  | str x => exact .base (.str x)
  | lst h _ => exact tyL h
  | tup h _ => exact tyT h
theorem Dq.ty {K : PySem.W.Frag} {H : Hp} {v : V} {d : PyData} (h : Dq K H v d) : TyX K H v (.type (kindD d)) := by
  cases h with
  | pl h _ _ _ => exact Dp.ty h
  | d0 h => exact .base (.dK h)
  | d1 h => exact .base (.dK h)
theorem kindD_mem (d : PyData) : kindD d ∈ ["NoneType", "bool", "int", "str", "list", "tuple", "dict"] := by cases d <;> simp [kindD]
/-- whether a value of data is of a class -/
def isD (n : String) (d : PyData) : Bool := (kitB (kindD d) n).getD false
theorem kit_is {K : PySem.W.Frag} {n : String} (hn : ∀ s ∈ ["NoneType", "bool", "int", "str", "list", "tuple", "dict"], (kitB s n).isSome = true) (d : PyData) : PySem.W.kitOne K (.type (kindD d)) (.type n) = some (isD n d) := by
  have := hn _ (kindD_mem d)
  unfold isD
  cases e : kitB (kindD d) n with
  | none => rw [e] at this; cases this
  | some b => exact kit_ty e
theorem kit_str {K : PySem.W.Frag} (d : PyData) : PySem.W.kitOne K (.type (kindD d)) (.type "str") = some (isD "str" d) := kit_is (by decide +kernel) d
theorem kit_int {K : PySem.W.Frag} (d : PyData) : PySem.W.kitOne K (.type (kindD d)) (.type "int") = some (isD "int" d) := kit_is (by decide +kernel) d
theorem kit_bool {K : PySem.W.Frag} (d : PyData) : PySem.W.kitOne K (.type (kindD d)) (.type "bool") = some (isD "bool" d) := kit_is (by decide +kernel) d
theorem kit_list {K : PySem.W.Frag} (d : PyData) : PySem.W.kitOne K (.type (kindD d)) (.type "list") = some (isD "list" d) := kit_is (by decide +kernel) d
theorem kit_tuple {K : PySem.W.Frag} (d : PyData) : PySem.W.kitOne K (.type (kindD d)) (.type "tuple") = some (isD "tuple" d) := kit_is (by decide +kernel) d
theorem isD_str (d : PyData) : isD "str" d = true ↔ ∃ z, d = .str z := by
  cases d <;> simp only [isD, kindD]
  all_goals first
    | exact ⟨fun h => absurd h (by decide +kernel), fun ⟨z, h⟩ => by cases h⟩
    | exact ⟨fun _ => ⟨_, rfl⟩, fun _ => by decide +kernel⟩
theorem Dq.str {K : PySem.W.Frag} {H : Hp} {v : V} {z : PySem.Str} (h : Dq K H v (.str z)) : v = .str z := by
  cases h with
  | pl h _ _ _ => cases h; rfl
/-- a value is of the kind of some data; texts and numbers are that data -/
structure Kd (K : PySem.W.Frag) (H : Hp) (x : V) (d : PyData) : Prop where
  ty : TyX K H x (.type (kindD d))
  st : ∀ z, d = .str z → x = .str z
  nu : ∀ i, d = .int i → x = .int i
theorem Kd.dp {K : PySem.W.Frag} {H : Hp} {x : V} {d : PyData} (h : Dp K H x d) : Kd K H x d := by
  refine ⟨Dp.ty h, ?_, ?_⟩ <;> (rintro z rfl; cases h; rfl)
theorem Kd.dq {K : PySem.W.Frag} {H : Hp} {x : V} {d : PyData} (h : Dq K H x d) : Kd K H x d := by
  cases h with
  | pl h _ _ _ => exact Kd.dp h
  | d0 h => exact ⟨.base (.dK h), (fun _ z => by cases z), (fun _ z => by cases z)⟩
  | d1 h => exact ⟨.base (.dK h), (fun _ z => by cases z), (fun _ z => by cases z)⟩
theorem Kd.str {K : PySem.W.Frag} {H : Hp} (z : PySem.Str) : Kd K H (.str z) (.str z) := .dp (.str z)
theorem Kd.int {K : PySem.W.Frag} {H : Hp} (i : Int) : Kd K H (.int i) (.int i) := .dp (.int i)
def wdB (z : PySem.Str) : Bool := decide (1 ≤ z.length) && decide (z.length ≤ 8) && z.cps.toList.all (fun c => decide (97 ≤ c) && decide (c ≤ 122))
theorem wdB_iff (z : PySem.Str) : wdB z = true ↔ Wd z := by
  unfold wdB Wd Low
  rw [Bool.and_eq_true, Bool.and_eq_true, decide_eq_true_iff, decide_eq_true_iff, List.all_eq_true, lenL, and_assoc]
  simp only [Bool.and_eq_true, decide_eq_true_iff]
def wordD : PyData → Bool
  | .str z => wdB z
  | _ => false
def wholeD (d : PyData) : Bool := isD "int" d && !isD "bool" d
theorem wholeD_iff (d : PyData) : wholeD d = true ↔ ∃ i, d = .int i := by
  cases d <;> simp only [wholeD, isD, kindD]
  all_goals first
    | exact ⟨fun h => absurd h (by decide +kernel), fun ⟨z, h⟩ => by cases h⟩
    | exact ⟨fun _ => ⟨_, rfl⟩, fun _ => by decide +kernel⟩
def withinD (lo hi : Int) : PyData → Bool
  | .int i => decide (lo ≤ i) && decide (i ≤ hi)
  | _ => false
def spIsInt (K : PySem.W.Frag) : Sp := fun vs H Q _ => ∃ (x : V) (d : PyData), vs = [x] ∧ Kd K H x d ∧ Q (.bl (wholeD d)) H
def spIsWord (K : PySem.W.Frag) : Sp := fun vs H Q _ => ∃ (x : V) (d : PyData), vs = [x] ∧ Kd K H x d ∧ (∀ z, d = .str z → z.length ≤ 1000 ∧ PyData.strOk z = true) ∧ ∀ H', Same H H' → Q (.bl (wordD d)) H'
def spWordV (K : PySem.W.Frag) : Sp := fun vs H Q _ => ∃ (x : V) (d : PyData), vs = [x] ∧ Kd K H x d ∧ (∀ z, d = .str z → z.length ≤ 1000) ∧ Q (.bl (wordD d)) H
def spWithin (K : PySem.W.Frag) : Sp := fun vs H Q _ => ∃ (x : V) (d : PyData) (lo hi : Int), vs = [x, .int lo, .int hi] ∧ Kd K H x d ∧ Q (.bl (withinD lo hi d)) H
theorem asc : ∀ c, c < 128 → ((Unicode.isAlpha c = true ∧ ¬ (Unicode.isUpper c || Unicode.isTitle c) = true) ↔ (97 ≤ c ∧ c ≤ 122)) := by decide +kernel
theorem low1 : ∀ c, c < 128 → 97 ≤ c ∧ c ≤ 122 → Unicode.isLower c = true := by decide +kernel
/-- what the three methods say of a text that isn't empty -/
theorem three (z : PySem.Str) (h : 1 ≤ z.length) : (Txt.isascii z && (Txt.isalpha z && Txt.islower z)) = z.cps.toList.all (fun c => decide (97 ≤ c) && decide (c ≤ 122)) := by
  rw [Bool.eq_iff_iff, Bool.and_eq_true, Bool.and_eq_true, List.all_eq_true]
  unfold Txt.isascii Txt.isalpha Txt.islower
  rw [Bool.and_eq_true, Bool.and_eq_true, Bool.not_eq_true', ← Array.all_toList, ← Array.all_toList, ← Array.any_toList, ← Array.any_toList, List.all_eq_true, List.all_eq_true, List.any_eq_true, List.any_eq_false]
  have ne : ∃ c, c ∈ z.cps.toList := by
    cases e : z.cps.toList with
    | nil => rw [lenL, e] at h; exact absurd h (by decide)
    | cons c l => exact ⟨c, List.mem_cons_self ..⟩
  constructor
  · rintro ⟨a, ⟨_, b⟩, c, d⟩ x m
    have := (asc x (of_decide_eq_true (a x m))).mp ⟨b x m, d x m⟩
    rw [decide_eq_true this.1, decide_eq_true this.2]
    rfl
  · intro g
    have g' : ∀ x ∈ z.cps.toList, 97 ≤ x ∧ x ≤ 122 := fun x m => by
      have := g x m
      rw [Bool.and_eq_true, decide_eq_true_iff, decide_eq_true_iff] at this
      exact this
    have s : ∀ x ∈ z.cps.toList, x < 128 := fun x m => by have := g' x m; omega
    obtain ⟨c, hc⟩ := ne
    exact ⟨fun x m => decide_eq_true (s x m), ⟨decide_eq_true h, fun x m => ((asc x (s x m)).mpr (g' x m)).1⟩, ⟨c, hc, low1 c (s c hc) (g' c hc)⟩, fun x m => ((asc x (s x m)).mpr (g' x m)).2⟩
/-- a comprehension over a text -/
theorem lc_str {x : PySem.Str} {g : TG} {tt : TT} {te : TE} {vs : List Nat} {σ : L2.St} {H1 : Hp} {D : Addr} {Qd : Hp → Prop} (Pv : Nat → Hp → Prop) (h0 : Pv 0 (upd H1 D (.lst [])))
    (hs : ∀ (i c : Nat) (H : Hp), x.cps[i]? = some c → Pv i H → g (.str ⟨#[c]⟩) (wipe σ vs) H fun σ2 H2 => wipe σ2 vs = wipe σ vs ∧ tt σ2 H2 fun b H3 => if b = true then te σ2 H3 fun y H4 => ∃ acc, H4 D = some (.lst acc) ∧ acc.length < sizeLine ∧ Pv (i + 1) (upd H4 D (.lst (acc ++ [y]))) else Pv (i + 1) H3)
    (hd : ∀ H, Pv x.cps.size H → Qd H) : ∃ W : Nat → Nat → Hp → Prop, (∃ m, W 0 m (upd H1 D (.lst []))) ∧ ∀ (i m : Nat) (H : Hp), W i m H → (Its x).stop i H ∧ Qd H ∨ (Its x).go i H ∧ ∃ Nx : Hp → Prop, (∀ H', Nx H' → ∃ m', m' < m ∧ W (i + 1) m' H') ∧ ∀ (v : V) (H' : Hp), (Its x).yld i H v H' →
      g v (wipe σ vs) H' fun σ2 H2 => wipe σ2 vs = wipe σ vs ∧ tt σ2 H2 fun b H3 => if b = true then te σ2 H3 fun y H4 => ∃ acc, H4 D = some (.lst acc) ∧ acc.length < sizeLine ∧ Nx (upd H4 D (.lst (acc ++ [y]))) else Nx H3 := by
  refine ⟨fun i m H => Pv i H ∧ i + m = x.cps.size, ⟨x.cps.size, h0, by omega⟩, fun i m H hw => ?_⟩
  obtain ⟨hp, hm⟩ := hw
  cases m with
  | zero =>
    have e : i = x.cps.size := by omega
    exact .inl ⟨(by show x.cps.size ≤ i; omega), hd _ (e ▸ hp)⟩
  | succ m =>
    refine .inr ⟨(by show i < x.cps.size; omega), Pv (i + 1), fun H' h => ⟨m, by omega, h, by omega⟩, fun v H' hy => ?_⟩
    obtain ⟨rfl, c, hc, rfl⟩ := hy
    exact hs i c _ hc hp
theorem canLayAll0_strs : ∀ xs : List PySem.Str, (∀ x ∈ xs, PyData.strOk x = true) → PyData.canLayAll0 (xs.map PyData.str) = true
  | [], _ => by simp [PyData.canLayAll0]
  | x :: xs, h => by
    have := canLayAll0_strs xs (fun y m => h y (List.mem_cons_of_mem _ m))
    simp [PyData.canLayAll0, PyData.canLay0, this, h x (List.mem_cons_self ..)]
theorem depthAll_strs : ∀ xs : List PySem.Str, PyData.depthAll (xs.map PyData.str) ≤ 1
  | [] => by simp [PyData.depthAll]
  | x :: xs => by
    have := depthAll_strs xs
    simp [PyData.depthAll, PyData.depth, this]
theorem shaped_strs (xs : List PySem.Str) (h : ∀ x ∈ xs, PyData.strOk x = true) : SeqAt.shaped (.list (xs.map PyData.str)) = true := by
  have a := canLayAll0_strs xs h
  have b := depthAll_strs xs
  unfold SeqAt.shaped
  rw [Bool.and_eq_true]
  refine ⟨?_, decide_eq_true ?_⟩
  · show PyData.canLay0 (.list _) = true
    simp [PyData.canLay0, a]
  · simp [PyData.depth]
    omega
theorem abc_mem (c : Nat) : c ∈ abc.cps.toList ↔ 97 ≤ c ∧ c ≤ 122 := by
  refine ⟨abc_low c, fun h => ?_⟩
  rw [abc_list]
  exact List.mem_map.mpr ⟨c - 97, List.mem_range.mpr (by omega), by show c - 97 + 97 = c; omega⟩
/-- the signs that are no small letters -/
def bad (l : List Nat) : List PySem.Str := (l.filter (fun c => !decide (c ∈ abc.cps.toList))).map (fun c => ⟨#[c]⟩)
theorem bad_len (l : List Nat) : (bad l).length ≤ l.length := by
  unfold bad
  rw [List.length_map]
  exact List.length_filter_le ..
theorem bad_yes (l : List Nat) (c : Nat) (h : (!decide (c ∈ abc.cps.toList)) = true) : bad (l ++ [c]) = bad l ++ [⟨#[c]⟩] := by
  unfold bad
  rw [List.filter_append, List.map_append, List.filter_cons_of_pos (p := fun c => !decide (c ∈ abc.cps.toList)) h, List.filter_nil]
  rfl
theorem bad_not (l : List Nat) (c : Nat) (h : ¬(!decide (c ∈ abc.cps.toList)) = true) : bad (l ++ [c]) = bad l := by
  unfold bad
  rw [List.filter_append, List.map_append, List.filter_cons_of_neg (p := fun c => !decide (c ∈ abc.cps.toList)) h, List.filter_nil]
  simp
theorem bad_ok (l : List Nat) (h : ∀ c ∈ l, c < 1114112) : ∀ x ∈ bad l, PyData.strOk x = true := by
  intro x m
  obtain ⟨c, hc, rfl⟩ := List.mem_map.mp m
  have := h c (List.mem_filter.mp hc).1
  show (#[c] : Array Nat).all _ = true
  simp [this]
theorem bad_nil (l : List Nat) : PyData.eqv (.list ((bad l).map PyData.str)) (.list []) = l.all (fun c => decide (97 ≤ c) && decide (c ≤ 122)) := by
  have e : PyData.eqv (.list ((bad l).map PyData.str)) (.list []) = (bad l).isEmpty := by cases bad l <;> rfl
  rw [e]
  induction l with
  | nil => rfl
  | cons c l ih =>
    by_cases h : c ∈ abc.cps.toList
    · have e1 : bad (c :: l) = bad l := by unfold bad; rw [List.filter_cons_of_neg (by simp [h])]
      have := (abc_mem c).mp h
      rw [e1, ih (by cases bad l <;> rfl), List.all_cons, decide_eq_true this.1, decide_eq_true this.2]
      rfl
    · have e1 : bad (c :: l) = ⟨#[c]⟩ :: bad l := by unfold bad; rw [List.filter_cons_of_pos (by simp [h])]; rfl
      have n : (decide (97 ≤ c) && decide (c ≤ 122)) = false := by
        cases q : (decide (97 ≤ c) && decide (c ≤ 122)) with
        | false => rfl
        | true =>
          rw [Bool.and_eq_true, decide_eq_true_iff, decide_eq_true_iff] at q
          exact absurd ((abc_mem c).mpr q) h
      rw [e1, List.all_cons, n]
      rfl
theorem strs_dp {K : PySem.W.Frag} {H : Hp} : ∀ xs : List PySem.Str, DpAll K H (xs.map V.str) (xs.map PyData.str)
  | [] => .nil
  | x :: xs => .cons (.str x) (strs_dp xs)
end Pn
end

section
set_option Elab.async false
set_option linter.all false
set_option maxRecDepth 100000
set_option maxHeartbeats 4000000
namespace KP
open PySem PySem.Spec PyProof.Rows L2 Pn
structure Blt2 (mg : Str → Option Value) : Prop where
  str : mg "str" = none
  int : mg "int" = none
  bool : mg "bool" = none
  max : mg "max" = none
end KP
end

section
set_option Elab.async false
set_option linter.all false
set_option maxRecDepth 100000
set_option maxHeartbeats 4000000
/-! values.py -/
namespace KP
open PySem PySem.Spec PyProof.Rows L2 Pn
abbrev sIsWordV : Stmt := top 38
abbrev sWhole : Stmt := top 41
abbrev sWithin : Stmt := top 42
section
variable {P : Program} {w : World} {K : PySem.W.Frag} {mg : Str → Option Value} {base : Heap}
theorem scIsWordV : FnScope ["value"] ["value"] (defScope sIsWordV) := ⟨rfl, rfl, rfl, by decide +kernel, rfl, by decide +kernel, by decide +kernel⟩
theorem ok_wordV {f : Addr} {fd : FuncData} (F : Fun K "is_word" "is_word" sIsWordV f fd) (T : Blt mg) (U : Blt2 mg) : FnOk P w K mg base CX0 1 f fd ["value"] (spWordV K) := by
  refine F.ok scIsWordV (fun vs H Q E h => ?_) (fun cdv A outer s H vs Q E hr h => ?_)
  · obtain ⟨x, d, rfl, _⟩ := h
    rfl
  · obtain ⟨x, d, rfl, hq, hz, k⟩ := h
    refine ⟨_, (pss_cons (ps_if (PW.pt (pw_or (pt_not (pt_val (pe_callB call_isi (by rfl) T.isi (by decide +kernel) (pa_cons (pv 0) (pa_cons (pe_bltn (v := .ty "str") (by rfl) U.str (by decide +kernel) rfl) pa_nil))))) (pw_or1 (pt_not (pt_chain op_le op_le pe_int (pe_callB call_len_str (by rfl) T.len PySem.boot_len (pa_cons (pv 0) pa_nil)) pe_int))))) (pss_one (ps_ret pe_bl)) pss_nil)
      (pss_one (ps_ret (pe_and (pe_bm0 PySem.F.plainAttrs_str PySem.F.slot_str_isascii PySem.F.type_str_isascii mt_isascii (pv 0)) (pe_and (pe_bm0 PySem.F.plainAttrs_str PySem.F.slot_str_isalpha PySem.F.type_str_isalpha mt_isalpha (pv 0)) (pe_one (pe_bm0 PySem.F.plainAttrs_str PySem.F.slot_str_islower PySem.F.type_str_islower mt_islower (pv 0)))))))), ?_⟩
    refine ⟨_, rfl, _, _, _, _, _, rfl, .ty _, hq.ty, kit_str d, _, rfl, ?_⟩
    by_cases hs : ∃ z, d = .str z
    · obtain ⟨z, rfl⟩ := hs
      cases hq.st z rfl
      have zl := hz z rfl
      have m8 : sizeLine = 16777216 := rfl
      rw [(isD_str (.str z)).mpr ⟨z, rfl⟩]
      refine ⟨_, rfl, z, rfl, by omega, _, _, rfl, rfl, _, rfl, ?_⟩
      have no : wdB z = false → Q (.bl false) H := fun e => by
        rw [show wordD (.str z) = wdB z from rfl, e] at k
        exact k
      refine ite2 (fun l1 => ?_) (fun l1 => ?_)
      · refine ⟨_, _, rfl, rfl, _, rfl, ite2 (fun l8 => no ?_) (fun l8 => ?_)⟩
        · have l8' : ¬ z.length ≤ 8 := fun q => by
            rw [decide_eq_true (show (z.length : Int) ≤ 8 by omega)] at l8
            cases l8
          unfold wdB
          rw [decide_eq_false l8', Bool.and_false]
          rfl
        · have l8' : z.length ≤ 8 := by
            cases e : decide ((z.length : Int) ≤ 8) with
            | true => have := of_decide_eq_true e; omega
            | false => rw [e] at l8; exact absurd rfl l8
          have l1' : 1 ≤ z.length := by have := of_decide_eq_true l1; omega
          have e : wordD (.str z) = (Txt.isascii z && (Txt.isalpha z && Txt.islower z)) := by
            rw [three z l1']
            show wdB z = _
            unfold wdB
            rw [decide_eq_true l1', decide_eq_true l8']
            rfl
          rw [e] at k
          refine ⟨_, rfl, rfl, z, rfl, rfl, trivial, Txt.isascii z, rfl, ?_⟩
          cases e1 : Txt.isascii z with
          | false =>
            rw [e1] at k
            exact k
          | true =>
            rw [e1] at k
            refine ⟨_, rfl, rfl, z, rfl, rfl, trivial, Txt.isalpha z, rfl, ?_⟩
            cases e2 : Txt.isalpha z with
            | false =>
              rw [e2] at k
              exact k
            | true =>
              rw [e2] at k
              exact ⟨_, rfl, rfl, z, rfl, rfl, trivial, k⟩
      · refine ⟨false, rfl, no ?_⟩
        have l1' : ¬ 1 ≤ z.length := fun q => l1 (decide_eq_true (by omega))
        unfold wdB
        rw [decide_eq_false l1']
        rfl
    · have e : isD "str" d = false := by
        cases e : isD "str" d with
        | false => rfl
        | true => exact absurd ((isD_str d).mp e) hs
      rw [e]
      have : wordD d = false := by
        cases d <;> first | rfl | exact absurd ⟨_, rfl⟩ hs
      rw [this] at k
      exact k
theorem scWhole : FnScope ["value"] ["value"] (defScope sWhole) := ⟨rfl, rfl, rfl, by decide +kernel, rfl, by decide +kernel, by decide +kernel⟩
theorem ok_whole {f : Addr} {fd : FuncData} (F : Fun K "is_whole" "is_whole" sWhole f fd) (T : Blt mg) (U : Blt2 mg) : FnOk P w K mg base CX0 1 f fd ["value"] (spIsInt K) := by
  refine F.ok scWhole (fun vs H Q E h => ?_) (fun cdv A outer s H vs Q E hr h => ?_)
  · obtain ⟨x, d, rfl, _⟩ := h
    rfl
  · obtain ⟨x, d, rfl, hq, k⟩ := h
    refine ⟨_, (pss_one (ps_ret (pe_and (pe_callB call_isi (by rfl) T.isi (by decide +kernel) (pa_cons (pv 0) (pa_cons (pe_bltn (v := .ty "int") (by rfl) U.int (by decide +kernel) rfl) pa_nil))) (pe_one (pe_not (pe_callB call_isi (by rfl) T.isi (by decide +kernel) (pa_cons (pv 0) (pa_cons (pe_bltn (v := .ty "bool") (by rfl) U.bool (by decide +kernel) rfl) pa_nil)))))))), ?_⟩
    unfold wholeD at k
    refine ⟨_, rfl, _, _, _, _, _, rfl, .ty _, hq.ty, kit_int d, ?_⟩
    cases e : isD "int" d with
    | true =>
      rw [e] at k
      refine ⟨true, rfl, ?_⟩
      exact ⟨_, rfl, _, _, _, _, _, rfl, .ty _, hq.ty, kit_bool d, _, rfl, k⟩
    | false =>
      rw [e] at k
      refine ⟨false, rfl, ?_⟩
      exact k
theorem scWithin : FnScope ["value", "least", "most"] ["value", "least", "most"] (defScope sWithin) := ⟨rfl, rfl, rfl, by decide +kernel, rfl, by decide +kernel, by decide +kernel⟩
theorem ok_within {f fH : Addr} {fd fdH : FuncData} (F : Fun K "is_within" "is_within" sWithin f fd) (T : Blt mg) (U : Blt2 mg) (FH : Fun K "is_whole" "is_whole" sWhole fH fdH) (bH : Binds K fdH ["value"] []) (gH : Fn K mg "is_whole" fH) : FnOk P w K mg base CX0 2 f fd ["value", "least", "most"] (spWithin K) := by
  have GH : FnOk P w K mg base CX0 1 fH fdH ["value"] (spIsInt K) := ok_whole FH T U
  refine F.ok scWithin (fun vs H Q E h => ?_) (fun cdv A outer s H vs Q E hr h => ?_)
  · obtain ⟨x, d, lo, hi, rfl, _⟩ := h
    rfl
  · obtain ⟨x, d, lo, hi, rfl, hq, k⟩ := h
    have hr1 : Room 1 _ := hr
    refine ⟨_, (pss_one (ps_ret (pe_and (pe_call GH hr1 rfl gH.g gH.k bH .nil pass0 (pa_cons (pv 0) pa_nil)) (pe_one (pe_chain op_le op_le (pv 1) (pv 0) (pv 2)))))), ?_⟩
    refine ⟨_, rfl, x, d, rfl, hq, ?_⟩
    cases e : wholeD d with
    | true =>
      obtain ⟨i, rfl⟩ := (wholeD_iff d).mp e
      cases hq.nu i rfl
      refine ⟨true, rfl, ?_⟩
      refine ⟨_, rfl, _, rfl, _, _, rfl, rfl, decide (lo ≤ i), rfl, ?_⟩
      rw [show withinD lo hi (.int i) = (decide (lo ≤ i) && decide (i ≤ hi)) from rfl] at k
      cases e1 : decide (lo ≤ i) with
      | false =>
        rw [e1] at k
        exact k
      | true =>
        rw [e1] at k
        exact ⟨_, rfl, _, _, rfl, rfl, k⟩
    | false =>
      refine ⟨false, rfl, ?_⟩
      have : withinD lo hi d = false := by
        cases d <;> first | rfl | (rw [(wholeD_iff _).mpr ⟨_, rfl⟩] at e; cases e)
      rw [this] at k
      exact k
end
end KP
end

section
set_option Elab.async false
set_option linter.all false
set_option maxRecDepth 100000
set_option maxHeartbeats 4000000
/-! How deep plain items are; items at places; items in another order. -/
namespace Pn
open PySem PySem.Spec PyProof.Rows L2
mutual
def dI : Itm → Nat
  | .say _ => 0
  | .press _ => 0
  | .go _ => 0
  | .times _ its => 1 + dIs its
def dIs : List Itm → Nat
  | [] => 0
  | i :: is => max (dI i) (dIs is)
end
def tm : Itm → List Int
  | .times _ its => [1 + ((dIs its : Nat) : Int)]
  | _ => []
def ms (l : List Itm) : List Int := l.flatMap tm
theorem ms_app (a b : List Itm) : ms (a ++ b) = ms a ++ ms b := by unfold ms; exact List.flatMap_append
theorem ms_le : ∀ (l : List Itm), ∀ y ∈ ms l, y ≤ ((dIs l : Nat) : Int)
  | [], y, h => by cases h
  | i :: l, y, h => by
    unfold ms at h
    rw [List.flatMap_cons] at h
    have e : dIs (i :: l) = max (dI i) (dIs l) := by rw [dIs]
    rcases List.mem_append.mp h with h | h
    · cases i with
      | times n its =>
        rcases List.mem_cons.mp h with rfl | h
        · have : dI (.times n its) = 1 + dIs its := by rw [dI]
          omega
        · cases h
      | say => cases h
      | press => cases h
      | go => cases h
    · have := ms_le l y h
      omega
theorem ms_mem : ∀ (l : List Itm), ((dIs l : Nat) : Int) ∈ 0 :: ms l
  | [] => by rw [dIs]; exact List.mem_cons_self ..
  | i :: l => by
    have ih := ms_mem l
    have e : dIs (i :: l) = max (dI i) (dIs l) := by rw [dIs]
    have m : ms (i :: l) = tm i ++ ms l := by unfold ms; rw [List.flatMap_cons]
    by_cases g : dIs l ≤ dI i
    · have e2 : dIs (i :: l) = dI i := by omega
      rw [e2, m]
      cases i with
      | times n its =>
        have : dI (.times n its) = 1 + dIs its := by rw [dI]
        rw [this]
        refine List.mem_cons_of_mem _ (List.mem_append_left _ ?_)
        show _ ∈ [1 + ((dIs its : Nat) : Int)]
        rw [show (((1 + dIs its : Nat)) : Int) = 1 + ((dIs its : Nat) : Int) by omega]
        exact List.mem_cons_self ..
      | say => rw [dI]; exact List.mem_cons_self ..
      | press => rw [dI]; exact List.mem_cons_self ..
      | go => rw [dI]; exact List.mem_cons_self ..
    · have e2 : dIs (i :: l) = dIs l := by omega
      rw [e2, m]
      rcases List.mem_cons.mp ih with h | h
      · rw [h]; exact List.mem_cons_self ..
      · exact List.mem_cons_of_mem _ (List.mem_append_right _ h)
theorem Rps.get {B : Addr → Prop} {H : Hp} : ∀ {is : List Itm} {vs : List V} {k : Nat} {v : V}, Rps B H vs is → vs[k]? = some v → ∃ i, is[k]? = some i ∧ Rp B H v i
  | [], _, k, v, h, e => by cases h; cases e
  | i :: is, _, 0, v, h, e => by cases h with | cons h1 h2 => cases e; exact ⟨i, rfl, h1⟩
  | i :: is, _, k + 1, v, h, e => by cases h with | cons h1 h2 => exact h2.get (k := k) e
theorem ItsOk.get {d : Nat} : ∀ {is : List Itm} {k : Nat} {i : Itm}, ItsOk d is → is[k]? = some i → ItOk d i
  | [], k, i, h, e => by cases e
  | _ :: is, 0, i, h, e => by cases h with | cons h1 h2 => cases e; exact h1
  | _ :: is, k + 1, i, h, e => by cases h with | cons h1 h2 => exact h2.get (k := k) e
/-- things that stand for items stand for them in another order, too -/
theorem Rps.perm {B : Addr → Prop} {H : Hp} : ∀ {vs ws : List V}, vs.Perm ws → ∀ {is : List Itm}, Rps B H vs is → ∃ js, Rps B H ws js ∧ is.Perm js := by
  intro vs ws h
  induction h with
  | nil => intro is r; exact ⟨is, r, .refl _⟩
  | cons x h ih =>
    intro is r
    cases r with
    | cons r1 r2 =>
      obtain ⟨js, a, b⟩ := ih r2
      exact ⟨_ :: js, .cons r1 a, b.cons _⟩
  | swap x y l =>
    intro is r
    cases r with
    | cons r1 r2 =>
      cases r2 with
      | cons r2 r3 => exact ⟨_ :: _ :: _, .cons r2 (.cons r1 r3), .swap ..⟩
  | trans h1 h2 ih1 ih2 =>
    intro is r
    obtain ⟨js, a, b⟩ := ih1 r
    obtain ⟨ks, c, d⟩ := ih2 a
    exact ⟨ks, c, b.trans d⟩
theorem ItsOk.perm {d : Nat} {is js : List Itm} (p : is.Perm js) (h : ItsOk d is) : ItsOk d js := by
  induction p with
  | nil => exact h
  | cons x h ih => cases h with | cons a b => exact .cons a (ih b)
  | swap x y l =>
    cases h with
    | cons a b =>
      cases b with
      | cons b c => exact .cons b (.cons a c)
  | trans h1 h2 ih1 ih2 => exact ih2 (ih1 h)
end Pn
end

section
set_option Elab.async false
set_option linter.all false
set_option maxRecDepth 100000
set_option maxHeartbeats 4000000
/-! Plain items as data. -/
namespace Pn
open PySem PySem.Spec PyProof.Rows L2
mutual
def itD : Itm → PyData
  | .say z => .tuple [.str "say", .str z]
  | .press z => .tuple [.str "press", .str z]
  | .go z => .tuple [.str "go", .str z]
  | .times n its => .tuple [.str "times", .int n, .list (itsD its)]
def itsD : List Itm → List PyData
  | [] => []
  | i :: is => itD i :: itsD is
end
mutual
theorem Rp.dp {K : PySem.W.Frag} {B : Addr → Prop} {H : Hp} : ∀ (i : Itm) (v : V), Rp B H v i → Dp K H v (itD i)
  | .say z, _, h => by cases h with | say _ h => rw [itD]; exact .tup (SqT.of h) (.cons (.str _) (.cons (.str _) .nil))
  | .press z, _, h => by cases h with | press _ h => rw [itD]; exact .tup (SqT.of h) (.cons (.str _) (.cons (.str _) .nil))
  | .go z, _, h => by cases h with | go _ h => rw [itD]; exact .tup (SqT.of h) (.cons (.str _) (.cons (.str _) .nil))
  | .times n its, _, h => by cases h with | times _ _ h g r => rw [itD]; exact .tup (SqT.of h) (.cons (.str _) (.cons (.int _) (.cons (.lst (SqL.of g) (Rps.dp its _ r)) .nil)))
theorem Rps.dp {K : PySem.W.Frag} {B : Addr → Prop} {H : Hp} : ∀ (is : List Itm) (vs : List V), Rps B H vs is → DpAll K H vs (itsD is)
  | [], _, h => by cases h; rw [itsD]; exact .nil
  | i :: is, _, h => by cases h with | cons h1 h2 => rw [itsD]; exact .cons (Rp.dp i _ h1) (Rps.dp is _ h2)
end
theorem wd_ok {z : PySem.Str} (h : Wd z) : PyData.strOk z = true := by
  unfold PyData.strOk
  rw [← Array.all_toList, List.all_eq_true]
  intro c m
  have := h.2.2 c m
  exact decide_eq_true (by omega)
mutual
theorem itD_lay : ∀ (i : Itm) (d : Nat), ItOk d i → PyData.canLay0 (itD i) = true
  | .say z, _, h => by cases h with | say h => rw [itD]; simp [PyData.canLay0, PyData.canLayAll0, wd_ok h]; decide +kernel
  | .press z, _, h => by cases h with | press h => rw [itD]; simp [PyData.canLay0, PyData.canLayAll0, wd_ok h]; decide +kernel
  | .go z, _, h => by cases h with | go h => rw [itD]; simp [PyData.canLay0, PyData.canLayAll0, wd_ok h]; decide +kernel
  | .times n its, _, h => by cases h with | times _ _ _ h => rw [itD]; simp [PyData.canLay0, PyData.canLayAll0, itsD_lay its _ h]; decide +kernel
theorem itsD_lay : ∀ (is : List Itm) (d : Nat), ItsOk d is → PyData.canLayAll0 (itsD is) = true
  | [], _, _ => by rw [itsD]; simp [PyData.canLayAll0]
  | i :: is, _, h => by cases h with | cons h1 h2 => rw [itsD]; simp [PyData.canLayAll0, itD_lay i _ h1, itsD_lay is _ h2]
end
mutual
theorem itD_deep : ∀ (i : Itm) (d : Nat), ItOk d i → PyData.depth (itD i) ≤ 4 + 3 * d
  | .say z, _, h => by rw [itD]; simp [PyData.depth, PyData.depthAll]; omega
  | .press z, _, h => by rw [itD]; simp [PyData.depth, PyData.depthAll]; omega
  | .go z, _, h => by rw [itD]; simp [PyData.depth, PyData.depthAll]; omega
  | .times n its, _, h => by
    cases h with
    | times _ _ _ h =>
      have := itsD_deep its _ h
      rw [itD]; simp [PyData.depth, PyData.depthAll]; omega
theorem itsD_deep : ∀ (is : List Itm) (d : Nat), ItsOk d is → PyData.depthAll (itsD is) ≤ 4 + 3 * d
  | [], _, _ => by rw [itsD]; simp [PyData.depthAll]
  | i :: is, _, h => by
    cases h with
    | cons h1 h2 =>
      have := itD_deep i _ h1
      have := itsD_deep is _ h2
      rw [itsD]; simp [PyData.depthAll]; omega
end
theorem its_shaped {is : List Itm} {d : Nat} (h : ItsOk d is) (l : d ≤ 10) : SeqAt.shaped (.list (itsD is)) = true := by
  have a := itsD_lay is d h
  have b := itsD_deep is d h
  unfold SeqAt.shaped
  rw [Bool.and_eq_true]
  refine ⟨?_, decide_eq_true ?_⟩
  · simp [PyData.canLay0, a]
  · simp [PyData.depth]
    omega
theorem its_nil (is : List Itm) : PyData.eqv (.list (itsD is)) (.list []) = is.isEmpty := by
  cases is with
  | nil => rw [itsD]; rfl
  | cons i is => rw [itsD]; rfl
theorem itsD_len : ∀ is : List Itm, (itsD is).length = is.length
  | [] => by rw [itsD]; rfl
  | i :: is => by rw [itsD, List.length_cons, List.length_cons, itsD_len is]
mutual
theorem Rp.mono2 {B B' : Addr → Prop} {H H' : Hp} (b : ∀ a, B' a → B a) (e : ∀ a xs, ¬B a → (H a = some (.tup xs) → H' a = some (.tup xs)) ∧ (H a = some (.lst xs) → H' a = some (.lst xs))) : ∀ (i : Itm) (v : V), Rp B H v i → Rp B' H' v i
  | .say _, _, h => by cases h with | say n h => exact .say (fun z => n (b _ z)) ((e _ _ n).1 h)
  | .press _, _, h => by cases h with | press n h => exact .press (fun z => n (b _ z)) ((e _ _ n).1 h)
  | .go _, _, h => by cases h with | go n h => exact .go (fun z => n (b _ z)) ((e _ _ n).1 h)
  | .times _ its, _, h => by cases h with | times n m h g r => exact .times (fun z => n (b _ z)) (fun z => m (b _ z)) ((e _ _ n).1 h) ((e _ _ m).2 g) (Rps.mono2 b e its _ r)
theorem Rps.mono2 {B B' : Addr → Prop} {H H' : Hp} (b : ∀ a, B' a → B a) (e : ∀ a xs, ¬B a → (H a = some (.tup xs) → H' a = some (.tup xs)) ∧ (H a = some (.lst xs) → H' a = some (.lst xs))) : ∀ (is : List Itm) (vs : List V), Rps B H vs is → Rps B' H' vs is
  | [], _, h => by cases h; exact .nil
  | i :: is, _, h => by cases h with | cons h1 h2 => exact .cons (Rp.mono2 b e i _ h1) (Rps.mono2 b e is _ h2)
end
theorem Rps.but {B : Addr → Prop} {H H' : Hp} {p : Addr} {kvs : List (Key × V)} (g : But p H H') (hp : H p = some (.dK kvs)) {is : List Itm} {vs : List V} (h : Rps B H vs is) : Rps B H' vs is :=
  Rps.mono2 (fun _ z => z) (fun a xs _ => ⟨fun h => g _ _ (ne_of h hp (by intro z; cases z)) h, fun h => g _ _ (ne_of h hp (by intro z; cases z)) h⟩) is vs h
theorem Rps.same {B : Addr → Prop} {H H' : Hp} (g : Same H H') {is : List Itm} {vs : List V} (h : Rps B H vs is) : Rps B H' vs is :=
  Rps.mono (fun _ z => z) (fun a o _ h => g _ _ h) is vs h
theorem Rps.del {B : Addr → Prop} {H : Hp} : ∀ {is : List Itm} {vs : List V} (k : Nat), Rps B H vs is → Rps B H (vs.eraseIdx k) (is.eraseIdx k)
  | [], _, k, h => by cases h; exact .nil
  | i :: is, _, 0, h => by cases h with | cons h1 h2 => exact h2
  | i :: is, _, k + 1, h => by cases h with | cons h1 h2 => exact .cons h1 (h2.del k)
theorem ItsOk.del {d : Nat} : ∀ {is : List Itm} (k : Nat), ItsOk d is → ItsOk d (is.eraseIdx k)
  | [], k, h => .nil
  | i :: is, 0, h => by cases h with | cons h1 h2 => exact h2
  | i :: is, k + 1, h => by cases h with | cons h1 h2 => exact .cons h1 (h2.del k)
theorem del_perm {α : Type} : ∀ (l : List α) (k : Nat) (y : α), l[k]? = some y → l.Perm (y :: l.eraseIdx k)
  | [], k, y, h => by cases h
  | x :: l, 0, y, h => by cases h; exact .refl _
  | x :: l, k + 1, y, h => ((del_perm l k y h).cons x).trans (.swap ..)
end Pn
end

section
set_option Elab.async false
set_option linter.all false
set_option maxRecDepth 100000
set_option maxHeartbeats 4000000
/-! Items and bodies as objects: how they stand in the heap, their texts. -/
namespace Pn
open PySem PySem.Spec PyProof.Rows L2
/-- the places of the classes -/
structure Cs where
  say : Addr
  press : Addr
  go : Addr
  times : Addr
  body : Addr
mutual
/-- an item as it may be made, so deep at most -/
inductive ItW : Nat → Itm → Prop
  | say {d : Nat} {z : PySem.Str} : Wd z → ItW d (.say z)
  | press {d : Nat} {z : PySem.Str} : Wd z → ItW d (.press z)
  | go {d : Nat} {z : PySem.Str} : Wd z → ItW d (.go z)
  | times {d : Nat} {n : Int} {its : List Itm} : 0 ≤ n → n ≤ 1000000000 → its.length ≤ 6 → ItsW d its → ItW (d + 1) (.times n its)
inductive ItsW : Nat → List Itm → Prop
  | nil {d : Nat} : ItsW d []
  | cons {d : Nat} {i : Itm} {is : List Itm} : ItW d i → ItsW d is → ItsW d (i :: is)
end
mutual
theorem ItOk.w : ∀ {d : Nat} {i : Itm}, ItOk d i → ItW d i
  | _, _, .say h => .say h
  | _, _, .press h => .press h
  | _, _, .go h => .go h
  | _, _, .times a b l h => .times a b (by omega) (ItsOk.w h)
theorem ItsOk.w : ∀ {d : Nat} {is : List Itm}, ItsOk d is → ItsW d is
  | _, _, .nil => .nil
  | _, _, .cons a b => .cons (ItOk.w a) (ItsOk.w b)
end
mutual
theorem ItW.up : ∀ {d e : Nat} {i : Itm}, d ≤ e → ItW d i → ItW e i
  | _, _, _, _, .say h => .say h
  | _, _, _, _, .press h => .press h
  | _, _, _, _, .go h => .go h
  | _, 0, _, l, .times a b q h => absurd l (by omega)
  | _, e + 1, _, l, .times a b q h => .times a b q (ItsW.up (by omega) h)
theorem ItsW.up : ∀ {d e : Nat} {is : List Itm}, d ≤ e → ItsW d is → ItsW e is
  | _, _, _, _, .nil => .nil
  | _, _, _, l, .cons a b => .cons (ItW.up l a) (ItsW.up l b)
end
mutual
theorem ItW.dI : ∀ {d : Nat} {i : Itm}, ItW d i → dI i ≤ d
  | _, _, .say h => by rw [Pn.dI]; exact Nat.zero_le _
  | _, _, .press h => by rw [Pn.dI]; exact Nat.zero_le _
  | _, _, .go h => by rw [Pn.dI]; exact Nat.zero_le _
  | _, _, .times a b q h => by rw [Pn.dI]; have := ItsW.dIs h; omega
theorem ItsW.dIs : ∀ {d : Nat} {is : List Itm}, ItsW d is → dIs is ≤ d
  | _, _, .nil => by rw [Pn.dIs]; exact Nat.zero_le _
  | _, _, .cons a b => by rw [Pn.dIs]; have := ItW.dI a; have := ItsW.dIs b; omega
end
mutual
/-- an item is as deep as it is -/
theorem ItW.fit : ∀ {d : Nat} {i : Itm}, ItW d i → ItW (Pn.dI i) i
  | _, _, .say h => .say h
  | _, _, .press h => .press h
  | _, _, .go h => .go h
  | _, _, .times a b q h => by rw [Pn.dI, Nat.add_comm]; exact .times a b q (ItsW.fit h)
theorem ItsW.fit : ∀ {d : Nat} {is : List Itm}, ItsW d is → ItsW (Pn.dIs is) is
  | _, _, .nil => .nil
  | _, _, .cons a b => by
    rw [Pn.dIs]
    exact .cons (ItW.up (Nat.le_max_left ..) (ItW.fit a)) (ItsW.up (Nat.le_max_right ..) (ItsW.fit b))
end
theorem ItsW.get {d : Nat} : ∀ {is : List Itm} {k : Nat} {i : Itm}, ItsW d is → is[k]? = some i → ItW d i
  | [], k, i, h, e => by cases e
  | _ :: is, 0, i, h, e => by cases h with | cons h1 h2 => cases e; exact h1
  | _ :: is, k + 1, i, h, e => by cases h with | cons h1 h2 => exact h2.get (k := k) e
theorem ItsW.app {d : Nat} : ∀ {is js : List Itm}, ItsW d is → ItsW d js → ItsW d (is ++ js)
  | [], _, h, g => g
  | i :: is, _, h, g => by cases h with | cons h1 h2 => exact .cons h1 (h2.app g)
/-! ### texts -/
mutual
def txI : Itm → PySem.Str
  | .say z => (PySem.Str.empty ++ "!") ++ z
  | .press z => z
  | .go z => (PySem.Str.empty ++ "@") ++ z
  | .times n its => (((PySem.Str.empty ++ (PySem.Str.ofString (toString n))) ++ "(") ++ Txt.join " " (txs its)) ++ ")"
def txs : List Itm → List PySem.Str
  | [] => []
  | i :: is => txI i :: txs is
end
def txB (its : List Itm) : PySem.Str := Txt.join " " (txs its)
theorem txs_len : ∀ is : List Itm, (txs is).length = is.length
  | [] => by rw [txs]; rfl
  | i :: is => by rw [txs, List.length_cons, List.length_cons, txs_len is]
theorem txs_get : ∀ (is : List Itm) (k : Nat) (i : Itm), is[k]? = some i → (txs is)[k]? = some (txI i)
  | [], k, i, e => by cases e
  | _ :: is, 0, i, e => by cases e; rw [txs]; rfl
  | _ :: is, k + 1, i, e => by rw [txs]; exact txs_get is k i e
theorem txs_app : ∀ is js : List Itm, txs (is ++ js) = txs is ++ txs js
  | [], js => by rw [txs]; rfl
  | i :: is, js => by rw [List.cons_append, txs, txs, txs_app is js]; rfl
def bI : Nat → Nat
  | 0 => 20
  | d + 1 => 40 + 6 * (bI d + 1)
theorem bI_up : ∀ {d e : Nat}, d ≤ e → bI d ≤ bI e
  | 0, 0, _ => Nat.le_refl _
  | 0, e + 1, _ => by have := bI_up (Nat.zero_le e); unfold bI at this ⊢; omega
  | d + 1, 0, h => absurd h (by omega)
  | d + 1, e + 1, h => by have := bI_up (show d ≤ e by omega); unfold bI; omega
theorem bI_lo (d : Nat) : 20 ≤ bI d := bI_up (Nat.zero_le d)
theorem wd_len {z : PySem.Str} (h : Wd z) : z.length ≤ 8 := by
  have := h.2.1
  rw [lenL]
  omega
theorem joinL_len (s : List Nat) : ∀ l : List (List Nat), (TL.joinL s l).length ≤ (l.map List.length).sum + l.length * s.length
  | [] => Nat.zero_le _
  | [p] => by simp [TL.joinL]
  | p :: q :: r => by
    have ih := joinL_len s (q :: r)
    rw [TL.joinL, List.length_append, List.length_append, List.map_cons, List.sum_cons, List.length_cons (as := q :: r), Nat.succ_mul]
    omega
theorem join_len (a : PySem.Str) (ys : List PySem.Str) : (Txt.join a ys).length ≤ (ys.map PySem.Str.length).sum + ys.length * a.length := by
  have h := joinL_len (TL.tl a) (ys.map TL.tl)
  have e : (Txt.join a ys).length = (TL.joinL (TL.tl a) (ys.map TL.tl)).length := by
    rw [← TL.tl_join, ← TL.join_eq]
    exact TL.len_tl (Txt.join a ys)
  rw [e]
  rw [List.map_map, List.length_map] at h
  have e2 : (List.length ∘ TL.tl) = PySem.Str.length := by
    funext x
    exact (TL.len_tl x).symm
  rw [e2] at h
  rw [TL.len_tl a]
  exact h
theorem sum_le {α : Type} (f : α → Nat) (b : Nat) : ∀ l : List α, (∀ x ∈ l, f x ≤ b) → (l.map f).sum ≤ l.length * b
  | [], _ => by simp
  | x :: l, h => by
    have := sum_le f b l (fun y m => h y (List.mem_cons_of_mem _ m))
    have := h x (List.mem_cons_self ..)
    rw [List.map_cons, List.sum_cons, List.length_cons, Nat.succ_mul]
    omega
mutual
theorem txI_len : ∀ {d : Nat} {i : Itm}, ItW d i → (txI i).length ≤ bI d
  | d, .say z, .say h => by
    rw [txI, Str.length_append, Str.length_append]
    have := wd_len h
    have e : (PySem.Str.empty).length = 0 := rfl
    have e2 : (("!" : PySem.Str)).length = 1 := by decide +kernel
    have := bI_lo d
    omega
  | d, .press z, .press h => by
    rw [txI]
    have := wd_len h
    have := bI_lo d
    omega
  | d, .go z, .go h => by
    rw [txI, Str.length_append, Str.length_append]
    have := wd_len h
    have e : (PySem.Str.empty).length = 0 := rfl
    have e2 : (("@" : PySem.Str)).length = 1 := by decide +kernel
    have := bI_lo d
    omega
  | d + 1, .times n its, .times a b l h => by
    rw [txI, Str.length_append, Str.length_append, Str.length_append, Str.length_append]
    have e : (PySem.Str.empty).length = 0 := rfl
    have e1 : (("(" : PySem.Str)).length = 1 := by decide +kernel
    have e2 : ((")" : PySem.Str)).length = 1 := by decide +kernel
    have e3 : ((" " : PySem.Str)).length = 1 := by decide +kernel
    have n1 : (PySem.Str.ofString (toString n)).length ≤ 10 := toString_length_le a (by decide) (by omega)
    have j := join_len " " (txs its)
    have s := sum_le PySem.Str.length (bI d) (txs its) (fun x m => txs_mem h x m)
    rw [txs_len] at s j
    have : its.length * bI d ≤ 6 * bI d := Nat.mul_le_mul_right _ l
    rw [e3] at j
    unfold bI
    omega
theorem txs_mem : ∀ {d : Nat} {is : List Itm}, ItsW d is → ∀ x ∈ txs is, PySem.Str.length x ≤ bI d
  | d, [], .nil, x, m => by rw [txs] at m; cases m
  | d, i :: is, .cons a b, x, m => by
    rw [txs] at m
    rcases List.mem_cons.mp m with rfl | m
    · exact txI_len a
    · exact txs_mem b x m
end
theorem txB_len {d : Nat} {its : List Itm} (h : ItsW d its) (l : its.length ≤ 6) : (txB its).length ≤ 6 * (bI d + 1) := by
  have e3 : ((" " : PySem.Str)).length = 1 := by decide +kernel
  have j := join_len " " (txs its)
  have s := sum_le PySem.Str.length (bI d) (txs its) (fun x m => txs_mem h x m)
  rw [txs_len] at s j
  rw [e3] at j
  have : its.length * bI d ≤ 6 * bI d := Nat.mul_le_mul_right _ l
  unfold txB
  omega
theorem txB_join {d : Nat} {its : List Itm} (h : ItsW d its) (l : its.length ≤ 6) (dd : d ≤ 3) : ((txs its).map PySem.Str.length).sum + (txs its).length * (" " : PySem.Str).length ≤ 16777216 := by
  have e3 : ((" " : PySem.Str)).length = 1 := by decide +kernel
  have s := sum_le PySem.Str.length (bI d) (txs its) (fun x m => txs_mem h x m)
  rw [txs_len] at s ⊢
  rw [e3]
  have : its.length * bI d ≤ 6 * bI d := Nat.mul_le_mul_right _ l
  have q : bI d ≤ bI 3 := bI_up dd
  have q3 : bI 3 = 6298 := by decide
  omega
end Pn
end

section
set_option Elab.async false
set_option linter.all false
set_option maxRecDepth 100000
set_option maxHeartbeats 4000000
/-! Items and bodies as objects: what stays of them; values that are items or none. -/
namespace Pn
open PySem PySem.Spec PyProof.Rows L2
def fTimes (n : Int) (b : Addr) (t : PySem.Str) : List (PySem.Str × V) := [("number", .int n), ("body", .ref b), ("_text", .str t)]
def fBody (e : Addr) (d : Int) (t : PySem.Str) : List (PySem.Str × V) := [("_entries", .ref e), ("_depth", .int d), ("_text", .str t)]
mutual
/-- an item's object -/
inductive Io (c : Cs) (H : Hp) : V → Itm → Prop
  | say {a dx : Addr} {z : PySem.Str} : H a = some (.ins c.say dx [("command", .str z)]) → Io c H (.ref a) (.say z)
  | press {a dx : Addr} {z : PySem.Str} : H a = some (.ins c.press dx [("key", .str z)]) → Io c H (.ref a) (.press z)
  | go {a dx : Addr} {z : PySem.Str} : H a = some (.ins c.go dx [("mode", .str z)]) → Io c H (.ref a) (.go z)
  | times {a dx b : Addr} {n : Int} {its : List Itm} : H a = some (.ins c.times dx (fTimes n b (txI (.times n its)))) → Bo c H b its → Io c H (.ref a) (.times n its)
/-- a body's object -/
inductive Bo (c : Cs) (H : Hp) : Addr → List Itm → Prop
  | mk {b dx e : Addr} {vs : List V} {its : List Itm} : H b = some (.ins c.body dx (fBody e ((dIs its : Nat) : Int) (txB its))) → H e = some (.tup vs) → Ios c H vs its → Bo c H b its
inductive Ios (c : Cs) (H : Hp) : List V → List Itm → Prop
  | nil : Ios c H [] []
  | cons {v : V} {vs : List V} {i : Itm} {is : List Itm} : Io c H v i → Ios c H vs is → Ios c H (v :: vs) (i :: is)
end
/-- the fields of an item or of a body that is made -/
def Whole (fs : List (PySem.Str × V)) : Prop := (∃ z : PySem.Str, fs = [(("command" : PySem.Str), V.str z)]) ∨ (∃ z : PySem.Str, fs = [(("key" : PySem.Str), V.str z)]) ∨ (∃ z : PySem.Str, fs = [(("mode" : PySem.Str), V.str z)]) ∨ (∃ n b t, fs = fTimes n b t) ∨ (∃ e d t, fs = fBody e d t)
/-- what stays: instances that are made, tuples -/
structure Kept (H H' : Hp) : Prop where
  ins : ∀ a C dx fs, Whole fs → H a = some (.ins C dx fs) → H' a = some (.ins C dx fs)
  tup : ∀ a xs, H a = some (.tup xs) → H' a = some (.tup xs)
theorem Kept.same {H H' : Hp} (S : Same H H') : Kept H H' := ⟨fun a C dx fs _ h => S a _ h, fun a xs h => S a _ h⟩
theorem Kept.ext {H H' : Hp} (S : LamX.ExtN H H') : Kept H H' := ⟨fun a C dx fs _ h => S a _ h (fun ps z => by cases z), fun a xs h => S a _ h (fun ps z => by cases z)⟩
theorem Kept.but {H H' : Hp} {p : Addr} {kvs : List (Key × V)} (B : But p H H') (hp : H p = some (.dK kvs)) : Kept H H' :=
  ⟨fun a C dx fs _ h => B a _ (ne_of h hp (by intro z; cases z)) h, fun a xs h => B a _ (ne_of h hp (by intro z; cases z)) h⟩
theorem Kept.new {H H' : Hp} {x : Addr} (hx : H x = none) (B : But x H H') : Kept H H' := ⟨fun a C dx fs _ h => B a _ (ne_of_none h hx) h, fun a xs h => B a _ (ne_of_none h hx) h⟩
/-- an instance that isn't made yet may change -/
theorem Kept.half {H H' : Hp} {x C dx : Addr} {fs : List (PySem.Str × V)} (hx : H x = some (.ins C dx fs)) (nw : ¬ Whole fs) (B : But x H H') : Kept H H' :=
  ⟨fun a C2 dx2 fs2 q h => B a _ (fun z => by rw [z, hx] at h; cases h; exact nw q) h, fun a xs h => B a _ (ne_of h hx (by intro z; cases z)) h⟩
theorem Kept.trans {H H1 H2 : Hp} (a : Kept H H1) (b : Kept H1 H2) : Kept H H2 := ⟨fun x C dx fs q h => b.ins x C dx fs q (a.ins x C dx fs q h), fun x xs h => b.tup x xs (a.tup x xs h)⟩
mutual
theorem Io.keep {c : Cs} {H H' : Hp} (k : Kept H H') : ∀ {v : V} {i : Itm}, Io c H v i → Io c H' v i
  | _, _, .say h => .say (k.ins _ _ _ _ (.inl ⟨_, rfl⟩) h)
  | _, _, .press h => .press (k.ins _ _ _ _ (.inr (.inl ⟨_, rfl⟩)) h)
  | _, _, .go h => .go (k.ins _ _ _ _ (.inr (.inr (.inl ⟨_, rfl⟩))) h)
  | _, _, .times h b => .times (k.ins _ _ _ _ (.inr (.inr (.inr (.inl ⟨_, _, _, rfl⟩)))) h) (Bo.keep k b)
theorem Bo.keep {c : Cs} {H H' : Hp} (k : Kept H H') : ∀ {b : Addr} {is : List Itm}, Bo c H b is → Bo c H' b is
  | _, _, .mk h e r => .mk (k.ins _ _ _ _ (.inr (.inr (.inr (.inr ⟨_, _, _, rfl⟩)))) h) (k.tup _ _ e) (Ios.keep k r)
theorem Ios.keep {c : Cs} {H H' : Hp} (k : Kept H H') : ∀ {vs : List V} {is : List Itm}, Ios c H vs is → Ios c H' vs is
  | _, _, .nil => .nil
  | _, _, .cons a b => .cons (Io.keep k a) (Ios.keep k b)
end
theorem Ios.len {c : Cs} {H : Hp} : ∀ {is : List Itm} {vs : List V}, Ios c H vs is → vs.length = is.length
  | [], _, h => by cases h; rfl
  | i :: is, _, h => by cases h with | cons h1 h2 => rw [List.length_cons, List.length_cons, h2.len]
theorem Ios.get {c : Cs} {H : Hp} : ∀ {is : List Itm} {vs : List V} {k : Nat} {v : V}, Ios c H vs is → vs[k]? = some v → ∃ i, is[k]? = some i ∧ Io c H v i
  | [], _, k, v, h, e => by cases h; cases e
  | i :: is, _, 0, v, h, e => by cases h with | cons h1 h2 => cases e; exact ⟨i, rfl, h1⟩
  | i :: is, _, k + 1, v, h, e => by cases h with | cons h1 h2 => exact h2.get (k := k) e
theorem Ios.app {c : Cs} {H : Hp} : ∀ {is js : List Itm} {vs ws : List V}, Ios c H vs is → Ios c H ws js → Ios c H (vs ++ ws) (is ++ js)
  | [], _, _, _, h, g => by cases h; exact g
  | i :: is, _, _, _, h, g => by cases h with | cons h1 h2 => exact .cons h1 (h2.app g)
theorem not_whole1 (n : Int) : ¬ Whole [("number", .int n)] := by
  have h1 : ¬ (("number" : PySem.Str) = "command") := by decide +kernel
  have h2 : ¬ (("number" : PySem.Str) = "key") := by decide +kernel
  have h3 : ¬ (("number" : PySem.Str) = "mode") := by decide +kernel
  rintro (⟨z, h⟩ | ⟨z, h⟩ | ⟨z, h⟩ | ⟨n, b, t, h⟩ | ⟨e, d, t, h⟩)
  · exact h1 (by injection h with a b; injection a)
  · exact h2 (by injection h with a b; injection a)
  · exact h3 (by injection h with a b; injection a)
  · unfold fTimes at h; injection h with a b; cases b
  · unfold fBody at h; injection h with a b; cases b
theorem not_whole2 (a b : PySem.Str × V) : ¬ Whole [a, b] := by
  rintro (⟨z, h⟩ | ⟨z, h⟩ | ⟨z, h⟩ | ⟨n, b, t, h⟩ | ⟨e, d, t, h⟩)
  · injection h with a b; cases b
  · injection h with a b; cases b
  · injection h with a b; cases b
  · unfold fTimes at h; injection h with a b; injection b with c d; cases d
  · unfold fBody at h; injection h with a b; injection b with c d; cases d
/-! ### kinds that stay -/
/-- what stays of things that have a type -/
structure KeptT (K : PySem.W.Frag) (H H' : Hp) : Prop where
  k : Kept H H'
  ty : ∀ v t, TyX K H v t → TyX K H' v t
theorem tyx_map {K : PySem.W.Frag} {H H' : Hp} {v : V} {t : Value} (k : ∀ b o, H b = some o → (∀ ps, o ≠ .tbl ps) → H' b = some o) (h : TyX K H v t) : TyX K H' v t := by
  cases h with
  | base h =>
    refine .base ?_
    cases h with
    | non => exact .non
    | bl x => exact .bl x
    | int i => exact .int i
    | str x => exact .str x
    | flt x => exact .flt x
    | lst e => exact .lst (k _ _ e (fun ps z => by cases z))
    | frz e => exact .frz (k _ _ e (fun ps z => by cases z))
    | tup e => exact .tup (k _ _ e (fun ps z => by cases z))
    | dK e => exact .dK (k _ _ e (fun ps z => by cases z))
    | dT e => exact .dT (k _ _ e (fun ps z => by cases z))
    | ins e cl ha hn ht hm => exact .ins (k _ _ e (fun ps z => by cases z)) cl ha hn ht hm
  | byt b => exact .byt b
  | set e => exact .set (k _ _ e (fun ps z => by cases z))
  | kList e c => exact .kList e c
  | kTuple e c => exact .kTuple e c
  | kDict e c => exact .kDict e c
  | fTuple e => exact .fTuple (k _ _ e (fun ps z => by cases z))
  | fDict e => exact .fDict (k _ _ e (fun ps z => by cases z))
theorem tyx_but {K : PySem.W.Frag} {H H' : Hp} {p : Addr} {kvs kvs' : List (Key × V)} {v : V} {t : Value} (B : But p H H') (hp : H p = some (.dK kvs)) (hp' : H' p = some (.dK kvs')) (h : TyX K H v t) : TyX K H' v t := by
  have n : ∀ {a : Addr} {o : HO}, H a = some o → (∀ kvs, o ≠ .dK kvs) → H' a = some o := fun {a o} e q => B a _ (fun z => q kvs (by rw [z, hp] at e; exact (Option.some.inj e).symm)) e
  cases h with
  | base h =>
    refine .base ?_
    cases h with
    | non => exact .non
    | bl x => exact .bl x
    | int i => exact .int i
    | str x => exact .str x
    | flt x => exact .flt x
    | lst e => exact .lst (n e (fun ps z => by cases z))
    | frz e => exact .frz (n e (fun ps z => by cases z))
    | tup e => exact .tup (n e (fun ps z => by cases z))
    | dK e =>
      rename_i a kvs2
      by_cases q : a = p
      · rw [q]; exact .dK hp'
      · exact .dK (B _ _ q e)
    | dT e => exact .dT (n e (fun ps z => by cases z))
    | ins e cl ha hn ht hm => exact .ins (n e (fun ps z => by cases z)) cl ha hn ht hm
  | byt b => exact .byt b
  | set e => exact .set (n e (fun ps z => by cases z))
  | kList e c => exact .kList e c
  | kTuple e c => exact .kTuple e c
  | kDict e c => exact .kDict e c
  | fTuple e => exact .fTuple (n e (fun ps z => by cases z))
  | fDict e => exact .fDict (n e (fun ps z => by cases z))
theorem KeptT.same {K : PySem.W.Frag} {H H' : Hp} (S : Same H H') : KeptT K H H' := ⟨.same S, fun v t h => tyx_map (fun b o e _ => S b o e) h⟩
theorem KeptT.ext {K : PySem.W.Frag} {H H' : Hp} (S : LamX.ExtN H H') : KeptT K H H' := ⟨.ext S, fun v t h => tyx_map S h⟩
theorem KeptT.but {K : PySem.W.Frag} {H H' : Hp} {p : Addr} {kvs kvs' : List (Key × V)} (B : But p H H') (hp : H p = some (.dK kvs)) (hp' : H' p = some (.dK kvs')) : KeptT K H H' := ⟨.but B hp, fun v t h => tyx_but B hp hp' h⟩
theorem KeptT.trans {K : PySem.W.Frag} {H H1 H2 : Hp} (a : KeptT K H H1) (b : KeptT K H1 H2) : KeptT K H H2 := ⟨a.k.trans b.k, fun v t h => b.ty v t (a.ty v t h)⟩
/-! ### any values -/
/-- a value of a type that isn't below one of the classes -/
def NoIt (K : PySem.W.Frag) (c : Cs) (H : Hp) (v : V) : Prop := ∃ t, TyX K H v t ∧ PySem.W.kitOne K t (.ref c.say) = some false ∧ PySem.W.kitOne K t (.ref c.press) = some false ∧ PySem.W.kitOne K t (.ref c.go) = some false ∧ PySem.W.kitOne K t (.ref c.times) = some false
inductive Ent (K : PySem.W.Frag) (c : Cs) (H : Hp) : V → Option Itm → Prop
  | item {v : V} {i : Itm} : Io c H v i → ItW 2 i → Ent K c H v (some i)
  | other {v : V} : NoIt K c H v → Ent K c H v none
inductive Ents (K : PySem.W.Frag) (c : Cs) (H : Hp) : List V → List (Option Itm) → Prop
  | nil : Ents K c H [] []
  | cons {v : V} {vs : List V} {o : Option Itm} {os : List (Option Itm)} : Ent K c H v o → Ents K c H vs os → Ents K c H (v :: vs) (o :: os)
end Pn
end

section
set_option Elab.async false
set_option linter.all false
set_option maxRecDepth 100000
set_option maxHeartbeats 4000000
/-! isinstance of the exception that is handled. -/
namespace L2
open PySem PySem.Spec PyProof.Rows
/-- isinstance(e, c), e the exception that is handled: an own one with a dict -/
def rIsS (K : PySem.W.Frag) (a : Addr) (cls : Value) (d : Option Addr) : List V → Hp → VK → Prop := fun xs H Q => ∃ (C dd : Addr) (fs : List (Str × V)) (bmB : List Value) (newId : String) (c : V) (u : Value) (b : Bool), xs = [.ref a, c] ∧ cls = .ref C ∧ Exk K C bmB newId ∧ d = some dd ∧ H dd = some (.xd fs) ∧ ClsV c u ∧ PySem.W.kitOne K (.ref C) u = some b ∧ Q (.bl b) H
section
variable {X : Cx} {a : Addr} {oe : Obj} {cls : Value} {d : Option Addr} {pn : List (Addr × Obj)}
theorem call_isS (hz : Zc cls d oe) (hf : ∃ vs, oe.data = Data.fields vs) : CallR (X.suite a ((a, oe) :: pn)) (.builtin "isinstance") (rIsS X.K a cls d) := by
  intro pins s σ H xs us Q I r h
  obtain ⟨C, dd, fs, bmB, newId, c, u, b, rfl, rfl, T, rfl, ed, k, e, q⟩ := h
  obtain ⟨u1, u2, rfl, r1, r2⟩ := vals2 r
  have e2 := k.eq r2
  subst e2
  obtain rfl : u1 = Value.ref a := r1
  obtain ⟨ha, _⟩ := I.pin (a, oe) (List.mem_append_left pins (List.mem_cons_self ..))
  obtain ⟨vs, hd⟩ := hf
  obtain ⟨mA, hns, hr⟩ := I.hok dd (HO.xd fs) ed
  obtain ⟨od, ho, hl⟩ := lookIn_ns hns
  have J : PySem.W.InstAt s.heap a oe C (some od) := ⟨ha, hz.1, by unfold PySem.W.notCls; rw [hd], by rw [hz.2]; exact ho⟩
  exact PySem.W.kia_one (PySem.W.kitx_exc (od := some od) T.cs T.ga T.gg T.sub T.cl T.sg T.tk T.mr) I.kIn J e (fun z => nomatch z) fun tk => ⟨.bl b, H, I.tok tk, rfl, q⟩
end
end L2
end

section
set_option Elab.async false
set_option linter.all false
set_option maxRecDepth 100000
set_option maxHeartbeats 4000000
/-! An own exception with one field is raised, whatever it derives from. -/
namespace L2
open PySem PySem.Spec PyProof.Rows
section
variable {X : Cx} {pins : List (Addr × Obj)} {σ : St} {H : Hp} {s : Shared} {C : Addr} {B newId initId : String} {bmB : List Value} {f : Str}
theorem run_raise1 {rest : List Value} {kw : List (Str × Value)} {y : V} {u : Value} {Q : XK} (D : Bas B newId initId bmB) (T : One X.K C bmB newId f) (hr : Room 1 X.A) (I : Inv X pins σ H s) (ry : RelV y u) (tyC : PySem.W.typeIn X.K (.ref C) = some (.type "type"))
    (ha : (rest = [u] ∧ kw = []) ∨ (rest = [] ∧ kw = [(f, u)])) (h : ∀ d, H d = none → Q (.ref C) (some d) (upd H d (.xd [(f, y)]))) :
    wpAny (model X.prog X.w) X.A (call (.ref C) rest kw) (MkP X pins σ Q) X.xe s := by
  obtain ⟨nm, N, qn, bs, bm, hdct, sn, sub, ab, col, dd, k0, k1, k2, k3, k5, hC, hT⟩ := PySem.W.excInit_of I.kIn T.ex.ini
  obtain ⟨fI, qual, oc, doc, pm, cdv, ct, od, an, osl, p1, p2, q1, q2, q3, q4, iC, tI, ho, hcd⟩ := T.ini
  have hlim := I.nolimit
  obtain ⟨hp, g, dr, tk, os⟩ := s
  have k : ∀ b o, hp.get? b = some o → ((hp.push (PySem.W.kdv_tup rest)).push (PySem.HandSPX.excO C hp.objs.size)).get? b = some o := fun b o e => Heap.get?_push_of_some _ (Heap.get?_push_of_some _ e)
  have hget : ((hp.push (PySem.W.kdv_tup rest)).push (PySem.HandSPX.excO C hp.objs.size)).get? (hp.objs.size + 1) = some (PySem.HandSPX.excO C hp.objs.size) := by heap_get
  have hl : rest.length ≤ sizeLine := by
    rcases ha with ⟨rfl, _⟩ | ⟨rfl, _⟩ <;> · rw [sizeLine_eq]; simp
  refine wpAny_call (PySem.Xv.made D.f hT hC (PySem.W.looks_findIn I.kIn iC) (fun self => PySem.W.bind_fn I.kIn self tI) hl ?_)
  refine PySem.Xv.init1 (x := hp.objs.size + 1) (t0 := hp.objs.size) (v := u) T.ff ho hcd ?_ D.s T.ex.sto T.tk (I.kIn.keeps k) (hlim.keeps k) hget ?_ fun h' tk' dx k' dn hx hns => ?_
  · rcases ha with ⟨rfl, rfl⟩ | ⟨rfl, rfl⟩ <;> rcases T.ff with rfl | rfl | rfl | rfl | rfl | rfl <;> exact .of_eq (by first | rfl | with_unfolding_all rfl)
  · rw [show (X.A.under _).depth = X.A.depth + 1 from by first | rfl | simp [Around.under, Code.weight, Code.isCreation, Code.isGuard, Code.isCaller, Code.frames, Code.isFrame, guardIds]]
    have := hr.dp
    omega
  · refine ⟨rfl, ?_⟩
    have sz : hp.objs.size + 1 + 1 ≤ dx := by
      have z := dn
      simpa only [Heap.size_push] using z
    have J := I.two (t' := tk') (d := dx) (a := hp.objs.size + 1) (o1 := exd dx [(f, y)]) (o2 := exo (hp.objs.size + 1) C (some dx)) (h' := h') (fun b o e => k' b o (Nat.ne_of_lt (Nat.lt_succ_of_lt (Heap.lt_size e))) (k b o e))
      (Nat.le_trans (Nat.le_trans (Nat.le_succ _) (Nat.le_succ _)) sz) (Nat.le_succ _) (Nat.ne_of_gt sz) (exd_ok hns (relOne ry f)) (exo_ok hx)
    have na : H (hp.objs.size + 1) = none := I.hok.fresh (Nat.le_succ _)
    have nd : H dx = none := I.hok.fresh (Nat.le_trans (Nat.le_trans (Nat.le_succ _) (Nat.le_succ _)) sz)
    have ne : dx ≠ hp.objs.size + 1 := Nat.ne_of_gt sz
    have sz2 : ((hp.push (PySem.W.kdv_tup rest)).push (PySem.HandSPX.excO C hp.objs.size)).objs.size = hp.objs.size + 1 + 1 := by simp only [Heap.size_push]
    have un : Un (frs X.stack) [] (upd H (hp.objs.size + 1) (exo (hp.objs.size + 1) C none)) (upd (upd H dx (exd dx [(f, y)])) (hp.objs.size + 1) (exo (hp.objs.size + 1) C (some dx))) ((hp.push (PySem.W.kdv_tup rest)).push (PySem.HandSPX.excO C hp.objs.size)) h' := by
      have off : ∀ b, upd H (hp.objs.size + 1) (exo (hp.objs.size + 1) C none) b = none → b ≠ hp.objs.size + 1 := fun b e z => by rw [z, upd_same] at e; cases e
      have some_of : ∀ b o, upd H (hp.objs.size + 1) (exo (hp.objs.size + 1) C none) b = some o → b ≠ hp.objs.size + 1 → upd (upd H dx (exd dx [(f, y)])) (hp.objs.size + 1) (exo (hp.objs.size + 1) C (some dx)) b = some o := fun b o e z => by
        rw [upd_ne z] at e
        rw [upd_ne z, upd_ne (ne_of_none e nd)]
        exact e
      refine ⟨fun b o e n _ _ => k' b o (off b n) e, fun b o e n _ _ => ⟨o.slots, k' b o (off b n) e⟩, fun b o e n _ => ?_, fun b o e _ => ?_, fun b xs e => ?_, fun b o u e => ?_, fun b ps e => ?_⟩
      · have z := off b n
        rw [upd_ne z] at n
        have l := Heap.lt_size e
        rw [upd_ne z, upd_ne (Nat.ne_of_lt (Nat.lt_of_lt_of_le l (Nat.le_trans (Nat.le_of_eq sz2) sz)))]
        exact n
      · by_cases z : b = hp.objs.size + 1
        · subst z
          exact ⟨_, hx⟩
        · exact ⟨o, k' b o z e⟩
      · exact some_of b _ e (fun z => by rw [z, upd_same] at e; cases e)
      · exact some_of b _ e (fun z => by rw [z, upd_same] at e; cases e)
      · exact ⟨#[], by rw [Array.append_empty]; exact some_of b _ e (fun z => by rw [z, upd_same] at e; cases e)⟩
    have same : upd (del (upd (upd H dx (exd dx [(f, y)])) (hp.objs.size + 1) (exo (hp.objs.size + 1) C (some dx))) (hp.objs.size + 1)) dx (.xd [(f, y)]) = upd H dx (.xd [(f, y)]) := by
      funext b
      by_cases z : b = dx
      · rw [z, upd_same, upd_same]
      · rw [upd_ne z, upd_ne z]
        unfold del
        by_cases z2 : b = hp.objs.size + 1
        · rw [if_pos z2, z2, na]
        · rw [if_neg z2, upd_ne z2, upd_ne z]
    refine mk_end (X := X) (fs := [(f, y)]) (d := dx) (raises_own T.ex.sub tyC) I (Nat.le_succ _) k un J.hok rfl J.bare upd_same (by rw [upd_ne ne, upd_same]) nd ?_
    rw [same]
    exact h dx nd
end
/-- an own exception is raised with one argument -/
def tRaise1 (C : Addr) (f : Str) (ta : TA) : St → Hp → XK → Prop := fun σ H Q => ta σ H fun vs H1 => ∃ y, vs = [y] ∧ ∀ d, H1 d = none → Q (.ref C) (some d) (upd H1 d (.xd [(f, y)]))
section
variable {X : Cx} {C : Addr} {B newId initId : String} {bmB : List Value} {f x : Str} {e : Expr} {ta : TA} {p pos : Pos}
theorem pmk_one (D : Bas B newId initId bmB) (T : One X.K C bmB newId f) (tyC : PySem.W.typeIn X.K (.ref C) = some (.type "type")) (hr : Room 1 X.A) (hm : X.mg x = some (.ref C)) (ha : PA X [e] ta) (hg : Gl X x := by rfl) (hdb : (x == ("__debug__" : Str)) = false := by decide)
    (he : starEach (e :: []) X.env = (false, eval e X.env) :: starEach [] X.env := by rfl) (hpl : (backTo pos (starEach [] X.env)).any (·.1) = false := by rfl) :
    PMk X (.Call (.Name x p) [e] [] pos) (tRaise1 C f ta) := by
  intro pins s σ H Q I h
  refine wpAny_Call_Name_kw (ld_glob I hg hm ?_ hdb)
  refine PySem.W.callWith_K (h₀ := X.base) I.ok.mod.kin T.ex.kC (thn (ha.run pos pins s σ H _ I h) fun us s1 ⟨vs, H1, I1, r, y, ev, q⟩ => ⟨I1.kIn, ?_⟩) he hpl
  subst ev
  obtain ⟨u, rfl, ru⟩ := vals1 r
  exact run_raise1 D T hr I1 ru tyC (.inl ⟨rfl, rfl⟩) q
end
end L2
end

section
set_option Elab.async false
set_option linter.all false
set_option maxRecDepth 100000
set_option maxHeartbeats 4000000
/-! What the defs of bodies promise. -/
namespace Pn
open PySem PySem.Spec PyProof.Rows L2
theorem NoIt.keep {K : PySem.W.Frag} {c : Cs} {H H' : Hp} {v : V} (k : KeptT K H H') (h : NoIt K c H v) : NoIt K c H' v := let ⟨t, a, r⟩ := h; ⟨t, k.ty _ _ a, r⟩
theorem Ent.keep {K : PySem.W.Frag} {c : Cs} {H H' : Hp} {v : V} {o : Option Itm} (k : KeptT K H H') (h : Ent K c H v o) : Ent K c H' v o := by
  cases h with
  | item a b => exact .item (a.keep k.k) b
  | other a => exact .other (a.keep k)
theorem Ents.keep {K : PySem.W.Frag} {c : Cs} {H H' : Hp} (k : KeptT K H H') : ∀ {vs : List V} {os : List (Option Itm)}, Ents K c H vs os → Ents K c H' vs os
  | _, _, .nil => .nil
  | _, _, .cons a b => .cons (a.keep k) (Ents.keep k b)
theorem Ents.len {K : PySem.W.Frag} {c : Cs} {H : Hp} : ∀ {vs : List V} {os : List (Option Itm)}, Ents K c H vs os → vs.length = os.length
  | _, _, .nil => rfl
  | _, _, .cons a b => by rw [List.length_cons, List.length_cons, Ents.len b]
theorem Ents.get {K : PySem.W.Frag} {c : Cs} {H : Hp} : ∀ {os : List (Option Itm)} {vs : List V} {k : Nat} {v : V}, Ents K c H vs os → vs[k]? = some v → ∃ o, os[k]? = some o ∧ Ent K c H v o
  | [], _, k, v, h, e => by cases h; cases e
  | i :: is, _, 0, v, h, e => by cases h with | cons h1 h2 => cases e; exact ⟨i, rfl, h1⟩
  | i :: is, _, k + 1, v, h, e => by cases h with | cons h1 h2 => exact h2.get (k := k) e
theorem Ents.app {K : PySem.W.Frag} {c : Cs} {H : Hp} : ∀ {os ps : List (Option Itm)} {vs ws : List V}, Ents K c H vs os → Ents K c H ws ps → Ents K c H (vs ++ ws) (os ++ ps)
  | [], _, _, _, h, g => by cases h; exact g
  | i :: is, _, _, _, h, g => by cases h with | cons h1 h2 => exact .cons h1 (h2.app g)
theorem Ents.take {K : PySem.W.Frag} {c : Cs} {H : Hp} : ∀ {os : List (Option Itm)} {vs : List V} (n : Nat), Ents K c H vs os → Ents K c H (vs.take n) (os.take n)
  | [], _, n, h => by cases h; simp; exact .nil
  | o :: os, _, 0, h => by cases h; exact .nil
  | o :: os, _, n + 1, h => by cases h with | cons a b => exact .cons a (b.take n)
theorem Ents.drop {K : PySem.W.Frag} {c : Cs} {H : Hp} : ∀ {os : List (Option Itm)} {vs : List V} (n : Nat), Ents K c H vs os → Ents K c H (vs.drop n) (os.drop n)
  | [], _, n, h => by cases h; simp; exact .nil
  | o :: os, _, 0, h => h
  | o :: os, _, n + 1, h => by cases h with | cons a b => exact b.drop n
theorem Ents.ofIos {K : PySem.W.Frag} {c : Cs} {H : Hp} : ∀ {vs : List V} {is : List Itm}, Ios c H vs is → ItsW 2 is → Ents K c H vs (is.map some)
  | _, _, .nil, _ => .nil
  | _, _, .cons a b, .cons w x => .cons (.item a w) (Ents.ofIos b x)
/-- the place of the first one that is no item -/
def firstBad : List (Option Itm) → Option Nat
  | [] => none
  | none :: _ => some 0
  | some _ :: r => (firstBad r).map (· + 1)
theorem firstBad_none {K : PySem.W.Frag} {c : Cs} {H : Hp} : ∀ {os : List (Option Itm)} {vs : List V}, firstBad os = none → Ents K c H vs os → ∃ its, os = its.map some ∧ Ios c H vs its ∧ ItsW 2 its
  | [], _, _, h => by cases h; exact ⟨[], rfl, .nil, .nil⟩
  | none :: r, _, e, h => by cases e
  | some i :: r, _, e, h => by
    cases h with
    | cons a b =>
      have e' : firstBad r = none := by
        unfold firstBad at e
        cases q : firstBad r with
        | none => rfl
        | some k => rw [q] at e; cases e
      obtain ⟨its, rfl, g, w⟩ := firstBad_none e' b
      cases a with
      | item a w1 => exact ⟨i :: its, rfl, .cons a g, .cons w1 w⟩
theorem firstBad_some : ∀ {os : List (Option Itm)} {k : Nat}, firstBad os = some k → os[k]? = some none ∧ ∀ j, j < k → ∃ i, os[j]? = some (some i)
  | [], k, e => by cases e
  | none :: r, k, e => by cases e; exact ⟨rfl, fun j h => absurd h (Nat.not_lt_zero _)⟩
  | some i :: r, k, e => by
    unfold firstBad at e
    cases q : firstBad r with
    | none => rw [q] at e; cases e
    | some m =>
      rw [q] at e
      cases e
      obtain ⟨a, b⟩ := firstBad_some q
      refine ⟨a, fun j h => ?_⟩
      cases j with
      | zero => exact ⟨i, rfl⟩
      | succ j => exact b j (by have h2 : j + 1 < m + 1 := h; omega)
theorem firstBad_at : ∀ {os : List (Option Itm)} {k : Nat}, os[k]? = some none → (∀ j, j < k → ∃ i, os[j]? = some (some i)) → firstBad os = some k
  | [], k, e, _ => by cases e
  | none :: r, 0, _, _ => rfl
  | none :: r, k + 1, _, h => by obtain ⟨i, q⟩ := h 0 (by omega); cases q
  | some i :: r, 0, e, _ => by cases e
  | some i :: r, k + 1, e, h => by
    unfold firstBad
    rw [firstBad_at (os := r) (k := k) e (fun j l => h (j + 1) (by omega))]
    rfl
theorem firstBad_map (its : List Itm) : firstBad (its.map some) = none := by
  induction its with
  | nil => rfl
  | cons i its ih => show (firstBad (its.map some)).map (· + 1) = none; rw [ih]; rfl
def goods (os : List (Option Itm)) : List Itm := os.filterMap id
theorem goods_map (its : List Itm) : goods (its.map some) = its := by
  unfold goods
  rw [List.filterMap_map]
  exact List.filterMap_some
/-- which error is due for items of which no Times may be deeper: which class, and what it tells -/
def chk (os : List (Option Itm)) (dep : Int) : Option (Nat × Int) :=
  match firstBad os with
  | some k => some (1, (k : Int))
  | none => if 6 < os.length then some (2, 6) else if dep < ((dIs (goods os) : Nat) : Int) then some (3, 2) else none
def errF : Nat → PySem.Str
  | 0 => "field"
  | 1 => "index"
  | _ => "limit"
/-- such an error is what is wished for -/
def Rz (C : Nat → Addr) (H : Hp) (E : XK) (j : Nat) (y : V) : Prop := ∀ H' dd, Same H H' → H' dd = none → E (.ref (C j)) (some dd) (upd H' dd (.xd [(errF j, y)]))
theorem Rz.same {C : Nat → Addr} {H H1 : Hp} {E : XK} {j : Nat} {y : V} (r : Rz C H E j y) (S : Same H H1) : Rz C H1 E j y := fun H' dd S' n => r H' dd (S.trans S') n
/-! ### the promises -/
def spChk (K : PySem.W.Frag) (c : Cs) (C : Nat → Addr) : Sp := fun vs H Q E => ∃ (t : Addr) (xs : List V) (os : List (Option Itm)) (dep : Int), vs = [.ref t, .int dep] ∧ SqT K H t xs ∧ Ents K c H xs os ∧ xs.length ≤ 1000 ∧
  (∀ j y, chk os dep = some (j, y) → Rz C H E j (.int y)) ∧ (chk os dep = none → ∀ H', Same H H' → Q .non H')
def spDep (K : PySem.W.Frag) (c : Cs) : Sp := fun vs H Q _ => ∃ (t : Addr) (xs : List V) (its : List Itm), vs = [.ref t] ∧ SqT K H t xs ∧ Ios c H xs its ∧ xs.length ≤ 1000 ∧ ∀ H', Same H H' → Q (.int ((dIs its : Nat) : Int)) H'
def spOneI (K : PySem.W.Frag) (C : Nat → Addr) (cls : Addr) (f : PySem.Str) : Sp := fun vs H Q E => ∃ (H0 : Hp) (x dx : Addr) (v : V) (d : PyData), vs = [.ref x, v] ∧ Same H0 H ∧ H0 x = none ∧ H x = some (.ins cls dx []) ∧ Kd K H0 v d ∧ (∀ z, d = .str z → z.length ≤ 1000) ∧
  (wordD d = false → Rz C H0 E 0 (.str f)) ∧ (∀ z H', d = .str z → Wd z → Same H0 H' → H' x = some (.ins cls dx [(f, .str z)]) → Q .non H')
def spBodyI (K : PySem.W.Frag) (c : Cs) (C : Nat → Addr) : Sp := fun vs H Q E => ∃ (H0 : Hp) (x dx : Addr) (xs : List V) (os : List (Option Itm)), vs = .ref x :: xs ∧ Same H0 H ∧ H0 x = none ∧ H x = some (.ins c.body dx []) ∧ Ents K c H0 xs os ∧ xs.length ≤ 1000 ∧
  (∀ j y, chk os 2 = some (j, y) → Rz C H0 E j (.int y)) ∧ (chk os 2 = none → ∀ its H', os = its.map some → ItsW 2 its → its.length ≤ 6 → Same H0 H' → Bo c H' x its → Q .non H')
def spTimesI (K : PySem.W.Frag) (c : Cs) (C : Nat → Addr) : Sp := fun vs H Q E => ∃ (H0 : Hp) (x dx : Addr) (nv : V) (d : PyData) (xs : List V) (os : List (Option Itm)), vs = .ref x :: nv :: xs ∧ Same H0 H ∧ H0 x = none ∧ H x = some (.ins c.times dx []) ∧ Kd K H0 nv d ∧ Ents K c H0 xs os ∧ xs.length ≤ 1000 ∧
  (withinD 0 1000000000 d = false → Rz C H0 E 0 (.str "number")) ∧ (withinD 0 1000000000 d = true → ∀ j y, chk os 1 = some (j, y) → Rz C H0 E j (.int y)) ∧
  (withinD 0 1000000000 d = true → chk os 1 = none → ∀ n its H', d = .int n → os = its.map some → ItW 2 (.times n its) → Same H0 H' → Io c H' (.ref x) (.times n its) → Q .non H')
def spBodyOf (K : PySem.W.Frag) (c : Cs) (C : Nat → Addr) : Sp := fun vs H Q E => ∃ (l : Addr) (xs : List V) (os : List (Option Itm)), vs = [.ref c.body, .ref l] ∧ (SqT K H l xs ∨ SqL K H l xs) ∧ Ents K c H xs os ∧ xs.length ≤ 1000 ∧
  (∀ j y, chk os 2 = some (j, y) → Rz C H E j (.int y)) ∧ (chk os 2 = none → ∀ its H' x, os = its.map some → ItsW 2 its → its.length ≤ 6 → Same H H' → H x = none → Bo c H' x its → Q (.ref x) H')
def spTimesOf (K : PySem.W.Frag) (c : Cs) (C : Nat → Addr) : Sp := fun vs H Q E => ∃ (nv : V) (d : PyData) (l : Addr) (xs : List V) (os : List (Option Itm)), vs = [.ref c.times, nv, .ref l] ∧ Kd K H nv d ∧ (SqT K H l xs ∨ SqL K H l xs) ∧ Ents K c H xs os ∧ xs.length ≤ 1000 ∧
  (withinD 0 1000000000 d = false → Rz C H E 0 (.str "number")) ∧ (withinD 0 1000000000 d = true → ∀ j y, chk os 1 = some (j, y) → Rz C H E j (.int y)) ∧
  (withinD 0 1000000000 d = true → chk os 1 = none → ∀ n its H' x, d = .int n → os = its.map some → ItW 2 (.times n its) → Same H H' → H x = none → Io c H' (.ref x) (.times n its) → Q (.ref x) H')
def spTxSay (c : Cs) : Sp := fun vs H Q _ => ∃ (a dx : Addr) (z : PySem.Str), vs = [.ref a] ∧ H a = some (.ins c.say dx [("command", .str z)]) ∧ z.length ≤ 1000 ∧ Q (.str (txI (.say z))) H
def spTxPress (c : Cs) : Sp := fun vs H Q _ => ∃ (a dx : Addr) (z : PySem.Str), vs = [.ref a] ∧ H a = some (.ins c.press dx [("key", .str z)]) ∧ Q (.str (txI (.press z))) H
def spTxGo (c : Cs) : Sp := fun vs H Q _ => ∃ (a dx : Addr) (z : PySem.Str), vs = [.ref a] ∧ H a = some (.ins c.go dx [("mode", .str z)]) ∧ z.length ≤ 1000 ∧ Q (.str (txI (.go z))) H
def spTxTimes (c : Cs) : Sp := fun vs H Q _ => ∃ (a dx b : Addr) (n : Int) (t : PySem.Str), vs = [.ref a] ∧ H a = some (.ins c.times dx (fTimes n b t)) ∧ Q (.str t) H
def spTxBody (c : Cs) : Sp := fun vs H Q _ => ∃ (a dx e : Addr) (d : Int) (t : PySem.Str), vs = [.ref a] ∧ H a = some (.ins c.body dx (fBody e d t)) ∧ Q (.str t) H
def spDepth (c : Cs) : Sp := fun vs H Q _ => ∃ (a dx e : Addr) (d : Int) (t : PySem.Str), vs = [.ref a] ∧ H a = some (.ins c.body dx (fBody e d t)) ∧ Q (.int d) H
def bB : Nat → String
  | 0 => "ValueError" | 1 => "TypeError" | _ => "OverflowError"
def bN : Nat → String
  | 0 => "ValueError.__new__" | 1 => "TypeError.__new__" | _ => "OverflowError.__new__"
def bI' : Nat → String
  | 0 => "ValueError.__init__" | 1 => "TypeError.__init__" | _ => "OverflowError.__init__"
def bM : Nat → List Value
  | 0 => [.type "ValueError", .type "Exception", .type "BaseException", .type "object"]
  | 1 => [.type "TypeError", .type "Exception", .type "BaseException", .type "object"]
  | _ => [.type "OverflowError", .type "ArithmeticError", .type "Exception", .type "BaseException", .type "object"]
theorem basC : ∀ b : Nat, Bas (bB b) (bN b) (bI' b) (bM b)
  | 0 => ⟨F.excBase_ValueError, F.store_ValueError⟩
  | 1 => ⟨F.excBase_TypeError, F.store_TypeError⟩
  | _ + 2 => ⟨F.excBase_OverflowError, F.store_OverflowError⟩
/-- the classes of the errors, the j-th one at C j: what raising them asks -/
structure ErrT (K : PySem.W.Frag) (mg : PySem.Str → Option Value) (C : Nat → Addr) (nm : Nat → String) : Prop where
  g : ∀ j, j < 4 → mg (PySem.Str.ofString (nm j)) = some (.ref (C j))
  one : ∀ j, j < 4 → One K (C j) (bM j) (bN j) (errF j)
  ty : ∀ j, j < 4 → PySem.W.typeIn K (.ref (C j)) = some (.type "type")
/-- an own class whose instances are told by isinstance -/
structure TyC (K : PySem.W.Frag) (C : Addr) : Prop where
  cl : Cls K C
  ha : PySem.W.findIn K (.ref C) "__class__" = some (some (.builtin "object.__class__"))
  hn : PySem.W.specialIn K (.builtin "object.__class__") "__get__" = some (some (.builtin "getset_descriptor.__get__"))
  ht : PySem.W.takesIn K (.builtin "object.__class__") = some true
  hm : PySem.W.mroIn K C (.type "object") = some true
theorem TyC.tyx {K : PySem.W.Frag} {C a dx : Addr} {H : Hp} {fs : List (PySem.Str × V)} (T : TyC K C) (h : H a = some (.ins C dx fs)) : TyX K H (.ref a) (.ref C) := .base (.ins h T.cl T.ha T.hn T.ht T.hm)
/-- what the text says of the classes -/
structure BodT (K : PySem.W.Frag) (mg : PySem.Str → Option Value) (c : Cs) : Prop where
  say : TyC K c.say
  press : TyC K c.press
  go : TyC K c.go
  times : TyC K c.times
  body : TyC K c.body
  gSay : mg "Say" = some (.ref c.say)
  gPress : mg "Press" = some (.ref c.press)
  gGo : mg "Go" = some (.ref c.go)
  gTimes : mg "Times" = some (.ref c.times)
  gBody : mg "Body" = some (.ref c.body)
  nSay : NoAttr K c.say "command"
  nPress : NoAttr K c.press "key"
  nGo : NoAttr K c.go "mode"
  nNum : NoAttr K c.times "number"
  nBod : NoAttr K c.times "body"
  nTxt : NoAttr K c.times "_text"
  nEnt : NoAttr K c.body "_entries"
  nDep : NoAttr K c.body "_depth"
  nTxb : NoAttr K c.body "_text"
  kit : ∀ C, (C = c.say ∨ C = c.press ∨ C = c.go ∨ C = c.times ∨ C = c.body) → ∀ D, (D = c.say ∨ D = c.press ∨ D = c.go ∨ D = c.times) → PySem.W.kitOne K (.ref C) (.ref D) = some (decide (C = D))
  kid : ∀ s, s ∈ ["NoneType", "bool", "int", "str", "list", "tuple", "dict"] → ∀ D, (D = c.say ∨ D = c.press ∨ D = c.go ∨ D = c.times) → PySem.W.kitOne K (.type s) (.ref D) = some false
  ne1 : c.say ≠ c.times
  ne2 : c.press ≠ c.times
  ne3 : c.go ≠ c.times
  neb : c.body ≠ c.say ∧ c.body ≠ c.press ∧ c.body ≠ c.go ∧ c.body ≠ c.times
  depth : ∃ t, mg "DEPTH" = some (.int 2 t)
  items : ∃ t, mg "ITEMS" = some (.int 6 t)
  number : ∃ t, mg "NUMBER_limits" = some (.int 1000000000 t)
end Pn
end

section
set_option Elab.async false
set_option linter.all false
set_option maxRecDepth 100000
set_option maxHeartbeats 4000000
/-! Several clauses, each with the exception's name. -/
namespace L2
open PySem PySem.Spec PyProof.Rows
inductive HdsAs (X : Cx) : List ExceptHandler → List (Value × Nat × (Addr → Value → Option Addr → TS)) → Prop
  | nil : HdsAs X [] []
  | cons {x n : Str} {c : Value} {i : Nat} {ts : Addr → Value → Option Addr → TS} {b : Stmt} {bs : List Stmt} {p1 p2 : Pos} {r : List ExceptHandler} {l : List (Value × Nat × (Addr → Value → Option Addr → TS))} :
      Names X x c → X.N[i]? = some n → X.env.kindOf n = some NameKind.local →
      (∀ (a : Addr) (oe : Obj) (cls : Value) (d : Option Addr) (pn : List (Addr × Obj)), Zc cls d oe → (∃ vs, oe.data = Data.fields vs) → PSs (X.suite a ((a, oe) :: pn)) (b :: bs) (ts a cls d)) →
      HdsAs X r l → HdsAs X (ExceptHandler.ExceptHandler (some (Expr.Name x p1)) (some n) (b :: bs) p2 :: r) ((c, i, ts) :: l)
/-- behind the suite the name is gone -/
def Ends.wiped (D : Ends) (i : Nat) : Ends := { nx := fun σ H => D.nx (List.set σ i none) H, rt := D.rt, bk := fun σ H => D.bk (List.set σ i none) H, ct := fun σ H => D.ct (List.set σ i none) H }
def wManyAs (K : PySem.W.Frag) (Wout : WX) (D : Ends) : List (Value × Nat × (Addr → Value → Option Addr → TS)) → WX
  | [] => Wout
  | (c, i, ts) :: r => fun cls d σ H => ∃ b, PySem.W.exmOne K cls c = some b ∧ (b = true → ∀ a, H a = none → ts a cls d (D.wiped i) (List.set σ i (some (V.ref a))) H) ∧ (b = false → wManyAs K Wout D r cls d σ H)
theorem ps_try_manyAs {X : Cx} {body : List Stmt} {h₀ : ExceptHandler} {hds : List ExceptHandler} {l : List (Value × Nat × (Addr → Value → Option Addr → TS))} {pos : Pos} {tb : WX → TS} {Wout : WX}
    (hs : X.stack = X.env :: X.outer) (hf : X.env.frame = some X.env.locals) (hN : X.N.Nodup) (tk : Takes X Wout)
    (hb : ∀ (W : WX) (pn : List (Addr × Obj)) (xe : Value → Shared → Prop), Takes (X.tr pn xe) W → PassesOwn (model X.prog X.w) X.A X.env xe → PSs (X.tr pn xe) body (tb W))
    (hh : HdsAs X (h₀ :: hds) l) : PS X (Stmt.Try body (h₀ :: hds) [] [] pos) fun D σ H => tb (wManyAs X.K Wout D l) D σ H := by
  refine ⟨fun pins s σ H D I h => ?_⟩
  have ok := I.ok
  have hfr := ok.frames
  rw [hs] at hfr
  refine wpAny_Try_except (wpAny_mono ((hb (wManyAs X.K Wout D l) (X.pn ++ pins) (fun e s₁ => wpAny (model X.prog X.w) X.A (noteFrame e X.env) (fun _ s₂ => wpAny (model X.prog X.w) X.A (setFlight e none) (fun _ s₃ => wpAny (model X.prog X.w) X.A (handleBy e X.env (h₀ :: hds)) (SP X pins D) X.xe s₃) X.xe s₂) X.xe s₁) (fun u s' xx => ?tk) PassesOwn.looking).run [] s σ H D (Inv.toTry I _) h) (fun f s1 hsp => ?fin) (fun e s1 he => he))
  case fin =>
    cases f with
    | next =>
      obtain ⟨σ', H', J', q⟩ := hsp
      exact wpAny_execs_nil ⟨σ', H', Inv.ofTry J' ok, q⟩
    | brk =>
      obtain ⟨σ', H', J', q⟩ := hsp
      exact ⟨σ', H', Inv.ofTry J' ok, q⟩
    | cont =>
      obtain ⟨σ', H', J', q⟩ := hsp
      exact ⟨σ', H', Inv.ofTry J' ok, q⟩
    | ret u =>
      obtain ⟨v, σ', H', J', r, q⟩ := hsp
      exact ⟨v, σ', H', Inv.ofTry J' ok, r, q⟩
  case tk =>
    obtain ⟨a, B, sI, pins', σ', H', cls, d, rfl, J', nb, up, sky, na, os, ag, w⟩ := xx
    have J := Inv.ofTry J' ok
    have sky' : Sky B (X.env :: X.outer) a (Zc cls d) X.env.locals s'.heap := by
      rw [← hs]
      exact sky
    refine Sky.land Zc.steady hfr hf sky' fun h3 fl3 up3 => ?_
    have J3 : Inv X pins σ' H' { heap := h3, gens := s'.gens, drawn := s'.drawn, toks := s'.toks, os := s'.os } := Inv.landed J nb fl3.left (Heap.UpToSlots.trans up up3) os ag
    obtain ⟨oe3, vs3, he3, hz3, hd3⟩ := HandSPX.FlyingZ.there fl3
    have nfr : a ∉ List.filterMap Env.frame (X.env :: X.outer) := fun hm => by
      obtain ⟨_, o', e', hnf⟩ := Heap.FunFrames.mem fl3.right.right.left hm
      rw [he3] at e'
      cases e'
      exact hnf vs3 hd3
    have nL : a ≠ X.env.locals := fun z => nfr (List.mem_filterMap.mpr ⟨X.env, List.mem_cons_self .., by rw [hf, z]⟩)
    have nF : a ∉ frs X.outer := fun hm => by
      obtain ⟨e, he, q⟩ := List.mem_filterMap.mp hm
      exact nfr (List.mem_filterMap.mpr ⟨e, List.mem_cons_of_mem _ he, q⟩)
    have S3 := Inv.suite J3 he3 hd3 na nL nF
    clear hb h
    generalize h₀ :: hds = hl at hh ⊢
    induction hh with
    | nil =>
      refine wpAny_handleBy_nil ?_
      obtain ⟨k1, k2, k3, oe, vs, T, oT, ts', he, hz, hd, h1, hr⟩ := id fl3
      refine wpAny_bind (wpAny_field he hd h1 ?_)
      rw [if_neg (by intro z; cases z)]
      have fin : wpAny (model X.prog X.w) X.A (setFlight (Value.ref a) X.env.frame) (fun x s4 => wpAny (model X.prog X.w) X.A (throw (Value.ref a)) (SP X pins D) X.xe s4) X.xe { heap := h3, gens := s'.gens, drawn := s'.drawn, toks := s'.toks, os := s'.os } := by
        rw [hf]
        refine HandSPX.setFlight_upZ fl3 fun h4 hh4 up4 => wpAny_throw (tk (Value.ref a) _ ⟨a, B, sI, pins, σ', H', cls, d, rfl, J, nb, Heap.UpToSlots.trans (Heap.UpToSlots.trans up up3) up4, .inr (.inr (by rw [hs]; exact hh4)), na, os, ag, w⟩)
      exact wpAny_bind fin
    | cons hc hi hln hsu r ih =>
      rename_i x n c i ts b0 bs p1 p2 r' l'
      obtain ⟨b, hb1, hyes, hno⟩ := w
      have LM := PySem.W.exm_one (M := model X.prog X.w) (Inv.kIn J3) (fun A Q E s k q => wpAny_typeOf_ref (k a oe3 he3) (by rw [hz3.1]; exact q)) hb1
      have hloc : L2.Loc X.env.scope n := .inl hln
      refine wpAny_handleBy_cons (codeAny_handlers_test ?_) (fun q => by cases q)
      have test : ∀ {Q : Value → Shared → Prop} {E : Value → Shared → Prop}, Q c { heap := h3, gens := s'.gens, drawn := s'.drawn, toks := s'.toks, os := s'.os } → wpAny (model X.prog X.w) (X.A.mark (some (Value.ref a))) (eval (Expr.Name x p1) X.env) Q E { heap := h3, gens := s'.gens, drawn := s'.drawn, toks := s'.toks, os := s'.os } := by
        intro Q E q
        obtain ⟨hg, hdbg, hv⟩ := hc
        rcases hv with hm | ⟨hm, hv, hnn⟩
        · exact ld_glob S3 hg hm q hdbg
        · exact ld_blt S3 hg hm hv q hnn hdbg
      refine test (PySem.W.Looks.here LM ?_)
      cases b with
      | false => exact ih (hno rfl)
      | true =>
        refine codeAny_handlers_suite_as (HandSPX.lands_againZ fl3 fun h4 fl4 up4 => ?_)
        have J4 : Inv X pins σ' H' { heap := h4, gens := s'.gens, drawn := s'.drawn, toks := s'.toks, os := s'.os } := Inv.landed J nb fl4.left (Heap.UpToSlots.trans (Heap.UpToSlots.trans up up3) up4) os ag
        obtain ⟨oe4, vs4, he4, hz4, hd4⟩ := HandSPX.FlyingZ.there fl4
        have S4 := Inv.suite J4 he4 hd4 na nL nF
        exact store_ok (X := X.suite a ((a, oe4) :: (X.pn ++ pins))) (v := V.ref a) S4 hN hi hloc rfl (fun s5 S5 => wpAny_mono ((hsu a oe4 cls d (X.pn ++ pins) hz4 ⟨vs4, hd4⟩).run [] s5 (List.set σ' i (some (V.ref a))) H' (D.wiped i) S5 (hyes rfl a na)) (fun f s6 hsp => by
          cases f with
          | next =>
            obtain ⟨σ6, H6, S6, q6⟩ := hsp
            exact gone_ok (Inv.unsuite S6 ok) hN hi hln (fun s7 J7 => ⟨List.set σ6 i none, H6, J7, q6⟩)
          | brk =>
            obtain ⟨σ6, H6, S6, q6⟩ := hsp
            exact gone_ok (Inv.unsuite S6 ok) hN hi hln (fun s7 J7 => ⟨List.set σ6 i none, H6, J7, q6⟩)
          | cont =>
            obtain ⟨σ6, H6, S6, q6⟩ := hsp
            exact gone_ok (Inv.unsuite S6 ok) hN hi hln (fun s7 J7 => ⟨List.set σ6 i none, H6, J7, q6⟩)
          | ret u =>
            obtain ⟨v6, σ6, H6, S6, r6, q6⟩ := hsp
            exact gone_ok (Inv.unsuite S6 ok) hN hi hln (fun s7 J7 => ⟨v6, List.set σ6 i none, H6, J7, r6, q6⟩)) (fun x x1 z => False.elim z)) (.inr hln)
end L2
end

section
set_option Elab.async false
set_option linter.all false
set_option maxRecDepth 100000
set_option maxHeartbeats 4000000
namespace KP
open PySem PySem.Spec PyProof.Rows L2 Pn
theorem pe_imp {X : Cx} {e : Expr} {t t' : TE} (h : PE X e t) (i : ∀ σ H Q, t' σ H Q → t σ H Q) : PE X e t' := ⟨fun pins s σ H Q I z => h.run pins s σ H Q I (i σ H Q z)⟩
theorem takes_len {X : Cx} {W : WX} (tk : Takes X W) : Takes X (fun cls d σ H => σ.length = X.N.length → W cls d σ H) := by
  intro u s' xx
  obtain ⟨a, B, sI, pins', σ', H', cls, d, rfl, J', nb, up, sky, na, os, ag, w⟩ := xx
  exact tk _ _ ⟨a, B, sI, pins', σ', H', cls, d, rfl, J', nb, up, sky, na, os, ag, w J'.len⟩
def tclass : Nat → String
  | 0 => "InvalidItem"
  | 1 => "NotAnItem"
  | 2 => "TooMany"
  | _ => "TooDeep"
def tfield : Nat → PySem.Str
  | 0 => "field"
  | 1 => "index"
  | _ => "limit"
def tbase : Nat → String
  | 0 => "ValueError"
  | 1 => "TypeError"
  | _ => "OverflowError"
def ttag : Nat → PySem.Str
  | 0 => "item"
  | 1 => "none"
  | 2 => "many"
  | _ => "deep"
structure ToldT (K : PySem.W.Frag) (mg : Str → Option Value) (C : Nat → Addr) : Prop where
  g : ∀ j, j < 4 → mg (PySem.Str.ofString (tclass j)) = some (.ref (C j))
  b : ∀ j, j < 4 → mg (PySem.Str.ofString (tbase j)) = none
  ex : ∀ j, j < 4 → ∃ bmB newId, Exk K (C j) bmB newId
  no : ∀ j, j < 4 → PySem.W.findIn K (.ref (C j)) (tfield j) = some none
  kit : ∀ j, j < 4 → PySem.W.kitOne K (.ref (C j)) (.type (tbase j)) = some true
  em : ∀ i j, i < 4 → j < 4 → PySem.W.exmOne K (.ref (C i)) (.ref (C j)) = some (decide (i = j))
theorem ToldT.xf {K : PySem.W.Frag} {mg : Str → Option Value} {C : Nat → Addr} (T : ToldT K mg C) {j : Nat} (h : j < 4) : XfC K (C j) := by
  obtain ⟨bmB, newId, e⟩ := T.ex j h
  exact ⟨e.ga, e.gg, e.sub, e.sto.hd⟩
/-- what a refused call must have raised, and what is then told -/
def ToldE (C : Nat → Addr) (Q : VK) : XK := fun cls d H => ∃ (j : Nat) (dd : Addr) (y : V), j < 4 ∧ cls = .ref (C j) ∧ d = some dd ∧ H dd = some (.xd [(tfield j, y)]) ∧ ∀ t, H t = none → Q (.ref t) (upd H t (.tup [.str (ttag j), y, .bl true]))
def TTtold (C : Nat → Addr) (tl : XK → Hp → VK → Prop) (H : Hp) (Q : VK) : Prop := ∃ (E0 : XK) (Q0 : VK), (∀ cls d H', E0 cls d H' → ToldE C Q cls d H') ∧ (∀ v H', Q0 v H' → Q .non H') ∧ tl E0 H Q0
/-- a call whose outcome may be weakened -/
theorem pe_weak {X : Cx} {e : Expr} {W : WX} {n : Nat} {A0 : L2.St → Hp → Prop} {tl : XK → Hp → VK → Prop} (h : ∀ E : XK, (∀ cls d σ' H', E cls d H' → σ'.length = n → W cls d σ' H') → PE X e fun σ H Q => A0 σ H ∧ tl E H Q) :
    PE X e fun σ H Q => A0 σ H ∧ ∃ (E0 : XK) (Q0 : VK), (∀ cls d H', E0 cls d H' → ∀ σ' : L2.St, σ'.length = n → W cls d σ' H') ∧ (∀ v H', Q0 v H' → Q v H') ∧ tl E0 H Q0 := by
  refine ⟨fun pins s σ H Q I z => ?_⟩
  obtain ⟨a0, E0, Q0, w1, w2, t⟩ := z
  refine wpAny_mono ((h E0 (fun cls d σ' H' e => w1 cls d H' e σ')).run pins s σ H Q0 I ⟨a0, t⟩) (fun u s' r => ?_) (fun _ _ z => z)
  obtain ⟨x, H', I', rx, q⟩ := r
  exact ⟨x, H', I', rx, w2 _ _ q⟩
end KP
end

section
set_option Elab.async false
set_option linter.all false
set_option maxRecDepth 100000
set_option maxHeartbeats 4000000
namespace KP
open PySem PySem.Spec PyProof.Rows L2 Pn
theorem Kd.keep {K : PySem.W.Frag} {H H' : Hp} {x : V} {d : PyData} (k : KeptT K H H') (h : Kd K H x d) : Kd K H' x d := ⟨k.ty _ _ h.ty, h.st, h.nu⟩
theorem wordD_true {d : PyData} (h : wordD d = true) : ∃ z, d = .str z ∧ Wd z := by
  cases d with
  | str z => exact ⟨z, rfl, (wdB_iff z).mp h⟩
  | none => cases h
  | bool => cases h
  | int => cases h
  | list => cases h
  | tuple => cases h
  | dict => cases h
abbrev sSayI : Stmt := inClass (top 45) 0
abbrev sSayT : Stmt := inClass (top 45) 2
abbrev sPressI : Stmt := inClass (top 46) 0
abbrev sPressT : Stmt := inClass (top 46) 2
abbrev sGoI : Stmt := inClass (top 47) 0
abbrev sGoT : Stmt := inClass (top 47) 2
abbrev sTimesI : Stmt := inClass (top 48) 0
abbrev sTimesO : Stmt := inClass (top 48) 1
abbrev sTimesT : Stmt := inClass (top 48) 3
abbrev sBodyI : Stmt := inClass (top 49) 0
abbrev sBodyO : Stmt := inClass (top 49) 1
abbrev sBodyD : Stmt := inClass (top 49) 4
abbrev sBodyT : Stmt := inClass (top 49) 9
abbrev sDepthOf : Stmt := top 50
abbrev sCheck : Stmt := top 51
section
variable {P : Program} {w : World} {K : PySem.W.Frag} {mg : Str → Option Value} {base : Heap}
theorem scSayI : FnScope ["self", "command"] ["self", "command"] (defScope sSayI) := ⟨rfl, rfl, rfl, by decide +kernel, rfl, by decide +kernel, by decide +kernel⟩
theorem scPressI : FnScope ["self", "key"] ["self", "key"] (defScope sPressI) := ⟨rfl, rfl, rfl, by decide +kernel, rfl, by decide +kernel, by decide +kernel⟩
theorem scGoI : FnScope ["self", "mode"] ["self", "mode"] (defScope sGoI) := ⟨rfl, rfl, rfl, by decide +kernel, rfl, by decide +kernel, by decide +kernel⟩
theorem ok_sayI {f fW : Addr} {fd fdW : FuncData} {c : Cs} {C : Nat → Addr} (F : Fun K "__init__" "Say.__init__" sSayI f fd) (T : Blt mg) (U : Blt2 mg) (FW : Fun K "is_word" "is_word" sIsWordV fW fdW) (bW : Binds K fdW ["value"] []) (gW : Fn K mg "is_word" fW) (B : BodT K mg c) (R : ErrT K mg C tclass) :
    FnOk P w K mg base (L2.CX P w) 2 f fd ["self", "command"] (spOneI K C c.say "command") := by
  have GW : FnOk P w K mg base CX0 1 fW fdW ["value"] (spWordV K) := ok_wordV FW T U
  refine F.okX scSayI (fun vs H Q E h => ?_) (fun cdv A outer s H vs Q E hr h => ?_)
  · obtain ⟨H0, x, dx, v, d, rfl, _⟩ := h
    rfl
  · obtain ⟨H0, x, dx, v, d, rfl, S, n0, hx, hk, hz, kE, kQ⟩ := h
    have hr1 : Room 1 _ := hr
    refine ⟨_, pss_cons (ps_if (pt_not (pt_val (pe_call GW hr1 rfl gW.g gW.k bW .nil pass0 (pa_cons (pv 1) pa_nil)))) (pss_one (ps_raise rfl (takes_of rfl rfl rfl rfl) (pmk_one (basC 0) (R.one 0 (by decide)) (R.ty 0 (by decide)) hr1 (R.g 0 (by decide)) (pa_cons pe_str pa_nil)))) pss_nil) (pss_one (ps_fld (pv 0) (pv 1) rfl)), ?_⟩
    refine ⟨_, rfl, v, d, rfl, Kd.keep (.same S) hk, hz, _, rfl, ?_⟩
    cases e : wordD d with
    | false => exact iteT ⟨_, rfl, fun dd hdd => kE e H dd S hdd⟩
    | true =>
      obtain ⟨z, rfl, hw⟩ := wordD_true e
      have ev := hk.st z rfl
      subst ev
      refine iteF ⟨_, rfl, _, rfl, x, c.say, dx, [], rfl, hx, B.say.cl, B.nSay, (by show 0 < 1000; decide), ?_⟩
      refine kQ z _ rfl hw (fun b o h => ?_) upd_same
      rw [upd_ne (ne_of_none h n0)]
      exact S _ _ h
theorem ok_pressI {f fW : Addr} {fd fdW : FuncData} {c : Cs} {C : Nat → Addr} (F : Fun K "__init__" "Press.__init__" sPressI f fd) (T : Blt mg) (U : Blt2 mg) (FW : Fun K "is_word" "is_word" sIsWordV fW fdW) (bW : Binds K fdW ["value"] []) (gW : Fn K mg "is_word" fW) (B : BodT K mg c) (R : ErrT K mg C tclass) :
    FnOk P w K mg base (L2.CX P w) 2 f fd ["self", "key"] (spOneI K C c.press "key") := by
  have GW : FnOk P w K mg base CX0 1 fW fdW ["value"] (spWordV K) := ok_wordV FW T U
  refine F.okX scPressI (fun vs H Q E h => ?_) (fun cdv A outer s H vs Q E hr h => ?_)
  · obtain ⟨H0, x, dx, v, d, rfl, _⟩ := h
    rfl
  · obtain ⟨H0, x, dx, v, d, rfl, S, n0, hx, hk, hz, kE, kQ⟩ := h
    have hr1 : Room 1 _ := hr
    refine ⟨_, pss_cons (ps_if (pt_not (pt_val (pe_call GW hr1 rfl gW.g gW.k bW .nil pass0 (pa_cons (pv 1) pa_nil)))) (pss_one (ps_raise rfl (takes_of rfl rfl rfl rfl) (pmk_one (basC 0) (R.one 0 (by decide)) (R.ty 0 (by decide)) hr1 (R.g 0 (by decide)) (pa_cons pe_str pa_nil)))) pss_nil) (pss_one (ps_fld (pv 0) (pv 1) rfl)), ?_⟩
    refine ⟨_, rfl, v, d, rfl, Kd.keep (.same S) hk, hz, _, rfl, ?_⟩
    cases e : wordD d with
    | false => exact iteT ⟨_, rfl, fun dd hdd => kE e H dd S hdd⟩
    | true =>
      obtain ⟨z, rfl, hw⟩ := wordD_true e
      have ev := hk.st z rfl
      subst ev
      refine iteF ⟨_, rfl, _, rfl, x, c.press, dx, [], rfl, hx, B.press.cl, B.nPress, (by show 0 < 1000; decide), ?_⟩
      refine kQ z _ rfl hw (fun b o h => ?_) upd_same
      rw [upd_ne (ne_of_none h n0)]
      exact S _ _ h
theorem ok_goI {f fW : Addr} {fd fdW : FuncData} {c : Cs} {C : Nat → Addr} (F : Fun K "__init__" "Go.__init__" sGoI f fd) (T : Blt mg) (U : Blt2 mg) (FW : Fun K "is_word" "is_word" sIsWordV fW fdW) (bW : Binds K fdW ["value"] []) (gW : Fn K mg "is_word" fW) (B : BodT K mg c) (R : ErrT K mg C tclass) :
    FnOk P w K mg base (L2.CX P w) 2 f fd ["self", "mode"] (spOneI K C c.go "mode") := by
  have GW : FnOk P w K mg base CX0 1 fW fdW ["value"] (spWordV K) := ok_wordV FW T U
  refine F.okX scGoI (fun vs H Q E h => ?_) (fun cdv A outer s H vs Q E hr h => ?_)
  · obtain ⟨H0, x, dx, v, d, rfl, _⟩ := h
    rfl
  · obtain ⟨H0, x, dx, v, d, rfl, S, n0, hx, hk, hz, kE, kQ⟩ := h
    have hr1 : Room 1 _ := hr
    refine ⟨_, pss_cons (ps_if (pt_not (pt_val (pe_call GW hr1 rfl gW.g gW.k bW .nil pass0 (pa_cons (pv 1) pa_nil)))) (pss_one (ps_raise rfl (takes_of rfl rfl rfl rfl) (pmk_one (basC 0) (R.one 0 (by decide)) (R.ty 0 (by decide)) hr1 (R.g 0 (by decide)) (pa_cons pe_str pa_nil)))) pss_nil) (pss_one (ps_fld (pv 0) (pv 1) rfl)), ?_⟩
    refine ⟨_, rfl, v, d, rfl, Kd.keep (.same S) hk, hz, _, rfl, ?_⟩
    cases e : wordD d with
    | false => exact iteT ⟨_, rfl, fun dd hdd => kE e H dd S hdd⟩
    | true =>
      obtain ⟨z, rfl, hw⟩ := wordD_true e
      have ev := hk.st z rfl
      subst ev
      refine iteF ⟨_, rfl, _, rfl, x, c.go, dx, [], rfl, hx, B.go.cl, B.nGo, (by show 0 < 1000; decide), ?_⟩
      refine kQ z _ rfl hw (fun b o h => ?_) upd_same
      rw [upd_ne (ne_of_none h n0)]
      exact S _ _ h
/-! ### texts, depth -/
theorem scSayT : FnScope ["self"] ["self"] (defScope sSayT) := ⟨rfl, rfl, rfl, by decide +kernel, rfl, by decide +kernel, by decide +kernel⟩
theorem scPressT : FnScope ["self"] ["self"] (defScope sPressT) := ⟨rfl, rfl, rfl, by decide +kernel, rfl, by decide +kernel, by decide +kernel⟩
theorem scGoT : FnScope ["self"] ["self"] (defScope sGoT) := ⟨rfl, rfl, rfl, by decide +kernel, rfl, by decide +kernel, by decide +kernel⟩
theorem scTimesT : FnScope ["self"] ["self"] (defScope sTimesT) := ⟨rfl, rfl, rfl, by decide +kernel, rfl, by decide +kernel, by decide +kernel⟩
theorem scBodyT : FnScope ["self"] ["self"] (defScope sBodyT) := ⟨rfl, rfl, rfl, by decide +kernel, rfl, by decide +kernel, by decide +kernel⟩
theorem scBodyD : FnScope ["self"] ["self"] (defScope sBodyD) := ⟨rfl, rfl, rfl, by decide +kernel, rfl, by decide +kernel, by decide +kernel⟩
theorem ok_sayT {f : Addr} {fd : FuncData} {c : Cs} (F : Fun K "text" "Say.text" sSayT f fd) (B : BodT K mg c) : FnOk P w K mg base CX0 1 f fd ["self"] (spTxSay c) := by
  refine F.ok scSayT (fun vs H Q E h => ?_) (fun cdv A outer s H vs Q E hr h => ?_)
  · obtain ⟨a, dx, z, rfl, _⟩ := h
    rfl
  · obtain ⟨a, dx, z, rfl, ha, hz, q⟩ := h
    refine ⟨_, pss_one (ps_ret (pe_joined (.cons pe_str (.cons (pe_fmt (pe_fld (pv 0) rfl)) .nil)))), ?_⟩
    refine ⟨_, rfl, (by decide +kernel), _, rfl, a, c.say, dx, _, _, rfl, ha, B.say.cl, B.nSay, rfl, .inl ⟨z, rfl, ?_, z, rfl, ?_, q⟩⟩
    · exact Nat.le_trans hz (by decide)
    · rw [Str.length_append, Str.length_append]
      have e1 : (PySem.Str.empty).length = 0 := rfl
      have e2 : (("!" : PySem.Str)).length = 1 := by decide +kernel
      have e3 : sizeLine = 16777216 := rfl
      omega
theorem ok_pressT {f : Addr} {fd : FuncData} {c : Cs} (F : Fun K "text" "Press.text" sPressT f fd) (B : BodT K mg c) : FnOk P w K mg base CX0 1 f fd ["self"] (spTxPress c) := by
  refine F.ok scPressT (fun vs H Q E h => ?_) (fun cdv A outer s H vs Q E hr h => ?_)
  · obtain ⟨a, dx, z, rfl, _⟩ := h
    rfl
  · obtain ⟨a, dx, z, rfl, ha, q⟩ := h
    refine ⟨_, pss_one (ps_ret (pe_fld (pv 0) rfl)), ?_⟩
    exact ⟨_, rfl, a, c.press, dx, _, _, rfl, ha, B.press.cl, B.nPress, rfl, q⟩
theorem ok_goT {f : Addr} {fd : FuncData} {c : Cs} (F : Fun K "text" "Go.text" sGoT f fd) (B : BodT K mg c) : FnOk P w K mg base CX0 1 f fd ["self"] (spTxGo c) := by
  refine F.ok scGoT (fun vs H Q E h => ?_) (fun cdv A outer s H vs Q E hr h => ?_)
  · obtain ⟨a, dx, z, rfl, _⟩ := h
    rfl
  · obtain ⟨a, dx, z, rfl, ha, hz, q⟩ := h
    refine ⟨_, pss_one (ps_ret (pe_joined (.cons pe_str (.cons (pe_fmt (pe_fld (pv 0) rfl)) .nil)))), ?_⟩
    refine ⟨_, rfl, (by decide +kernel), _, rfl, a, c.go, dx, _, _, rfl, ha, B.go.cl, B.nGo, rfl, .inl ⟨z, rfl, ?_, z, rfl, ?_, q⟩⟩
    · exact Nat.le_trans hz (by decide)
    · rw [Str.length_append, Str.length_append]
      have e1 : (PySem.Str.empty).length = 0 := rfl
      have e2 : (("@" : PySem.Str)).length = 1 := by decide +kernel
      have e3 : sizeLine = 16777216 := rfl
      omega
theorem ok_timesT {f : Addr} {fd : FuncData} {c : Cs} (F : Fun K "text" "Times.text" sTimesT f fd) (B : BodT K mg c) : FnOk P w K mg base CX0 1 f fd ["self"] (spTxTimes c) := by
  refine F.ok scTimesT (fun vs H Q E h => ?_) (fun cdv A outer s H vs Q E hr h => ?_)
  · obtain ⟨a, dx, b, n, t, rfl, _⟩ := h
    rfl
  · obtain ⟨a, dx, b, n, t, rfl, ha, q⟩ := h
    refine ⟨_, pss_one (ps_ret (pe_fld (pv 0) rfl)), ?_⟩
    exact ⟨_, rfl, a, c.times, dx, _, _, rfl, ha, B.times.cl, B.nTxt, rfl, q⟩
theorem ok_bodyT {f : Addr} {fd : FuncData} {c : Cs} (F : Fun K "text" "Body.text" sBodyT f fd) (B : BodT K mg c) : FnOk P w K mg base CX0 1 f fd ["self"] (spTxBody c) := by
  refine F.ok scBodyT (fun vs H Q E h => ?_) (fun cdv A outer s H vs Q E hr h => ?_)
  · obtain ⟨a, dx, b, n, t, rfl, _⟩ := h
    rfl
  · obtain ⟨a, dx, b, n, t, rfl, ha, q⟩ := h
    refine ⟨_, pss_one (ps_ret (pe_fld (pv 0) rfl)), ?_⟩
    exact ⟨_, rfl, a, c.body, dx, _, _, rfl, ha, B.body.cl, B.nTxb, rfl, q⟩
theorem ok_bodyD {f : Addr} {fd : FuncData} {c : Cs} (F : Fun K "depth" "Body.depth" sBodyD f fd) (B : BodT K mg c) : FnOk P w K mg base CX0 1 f fd ["self"] (Pn.spDepth c) := by
  refine F.ok scBodyD (fun vs H Q E h => ?_) (fun cdv A outer s H vs Q E hr h => ?_)
  · obtain ⟨a, dx, b, n, t, rfl, _⟩ := h
    rfl
  · obtain ⟨a, dx, b, n, t, rfl, ha, q⟩ := h
    refine ⟨_, pss_one (ps_ret (pe_fld (pv 0) rfl)), ?_⟩
    exact ⟨_, rfl, a, c.body, dx, _, _, rfl, ha, B.body.cl, B.nDep, rfl, q⟩
end
end KP
end

section
set_option Elab.async false
set_option linter.all false
set_option maxRecDepth 100000
set_option maxHeartbeats 2000000
/-! Classes called with starred arguments, by their name or held by a local; max(l, default=d). -/
namespace L2
open PySem PySem.Spec PyProof.Rows StX PySem.W
/-- C(*y) -/
def tMakeR1 (K : PySem.W.Frag) (C : Addr) (sp : Sp) (E : XK) (te : TE) : TE := fun σ H Q => te σ H fun y H1 => ∃ a xs, y = V.ref a ∧ (SqT K H1 a xs ∨ SqL K H1 a xs) ∧ ∀ x dx, H1 x = Option.none → H1 dx = Option.none → dx ≠ x →
  sp (V.ref x :: xs) (upd (upd H1 dx (.own x)) x (.ins C dx [])) (fun v H2 => v = .non ∧ Q (.ref x) H2) E
/-- a local name holds the class -/
def tLocC (i : Nat) (C : Addr) (t : TE) : TE := fun σ H Q => σ[i]? = some (some (.ref C)) ∧ t σ H Q
section
variable {X : Cx} {CX : CXT} {k i : Nat} {f C : Addr} {sp : Sp} {E : XK} {x : Str} {e : Expr} {es : List Expr} {te : TE} {t : TA} {p sp_ pos : Pos}
theorem pe_makeR1 (M : Mk X.K C f) (F : FnR X.prog X.w X.K X.mg X.base CX k f sp) (hr : Room (k + 1) X.A) (hg : Gl X x) (hm : X.mg x = some (.ref C)) (hx : Passes CX X E) (he : PE X e te) (hd : (x == ("__debug__" : Str)) = false := by decide)
    (hst : starEach [.Starred e sp_] X.env = [(true, eval e X.env)] := by rfl) : PE X (.Call (.Name x p) [.Starred e sp_] [] pos) (tMakeR1 X.K C sp E te) := by
  refine ⟨fun pins s σ H Q I h => ?_⟩
  refine wpAny_Call_Name_kw (ld_glob I hg hm ?_ hd)
  refine PySem.W.callWith_S (h₀ := X.base) I.ok.mod.kin M.kp (thn (he.run pins s σ H _ I h) fun v s1 ⟨y, H1, I1, ry, a, xs, ey, hxs, q⟩ => ?_) hst
  subst ey
  obtain rfl : v = Value.ref a := ry
  exact star_any I1 hxs fun us s2 I2 rv => ⟨I2.kIn, run_makeR M F hr hx I2 rv q⟩
/-- C() -/
theorem pe_makeR0 (M : Mk X.K C f) (F : FnR X.prog X.w X.K X.mg X.base CX k f sp) (hr : Room (k + 1) X.A) (hg : Gl X x) (hm : X.mg x = some (.ref C)) (hx : Passes CX X E) (hd : (x == ("__debug__" : Str)) = false := by decide) :
    PE X (.Call (.Name x p) [] [] pos) (tMakeR C sp E tNil) := by
  refine ⟨fun pins s σ H Q I h => ?_⟩
  refine wpAny_Call_Name_kw (ld_glob I hg hm ?_ hd)
  refine PySem.W.callWith_K0 I.kIn M.kp ?_
  exact run_makeR M F hr hx I .nil h
/-- y(*z), y a local that holds the class -/
theorem pe_makeL1 (M : Mk X.K C f) (F : FnR X.prog X.w X.K X.mg X.base CX k f sp) (hr : Room (k + 1) X.A) (hN : X.N[i]? = some x) (hv : Vis X.env.scope x) (hx : Passes CX X E) (he : PE X e te) (hdb : (x == ("__debug__" : Str)) = false := by decide) (hcd : (x == ("__classdict__" : Str)) = false := by decide)
    (hst : starEach [.Starred e sp_] X.env = [(true, eval e X.env)] := by rfl) : PE X (.Call (.Name x p) [.Starred e sp_] [] pos) (tLocC i C (tMakeR1 X.K C sp E te)) := by
  refine ⟨fun pins s σ H Q I h => ?_⟩
  obtain ⟨hs, ht⟩ := h
  refine wpAny_Call_Name_kw (thn ((pe_var (pos := p) hN hv hdb hcd).run pins s σ H (fun v H1 => v = .ref C ∧ H1 = H) I ⟨.ref C, hs, rfl, rfl⟩) fun u s0 ⟨v0, H0, I0, r0, q0⟩ => ?_)
  obtain ⟨rfl, rfl⟩ := q0
  cases r0
  refine PySem.W.callWith_S (h₀ := X.base) I.ok.mod.kin M.kp (thn (he.run pins s0 σ _ _ I0 ht) fun v s1 ⟨y, H1, I1, ry, a, xs, ey, hxs, q⟩ => ?_) hst
  subst ey
  obtain rfl : v = Value.ref a := ry
  exact star_any I1 hxs fun us s2 I2 rv => ⟨I2.kIn, run_makeR M F hr hx I2 rv q⟩
/-- y(e, .., *z), y a local that holds the class -/
theorem pe_makeL2 (M : Mk X.K C f) (F : FnR X.prog X.w X.K X.mg X.base CX k f sp) (hr : Room (k + 1) X.A) (hN : X.N[i]? = some x) (hv : Vis X.env.scope x) (hx : Passes CX X E) (ha : PA X (e :: es) t) (hdb : (x == ("__debug__" : Str)) = false := by decide) (hcd : (x == ("__classdict__" : Str)) = false := by decide)
    (he : starEach (e :: es) X.env = (false, eval e X.env) :: starEach es X.env := by rfl) (hst : (backTo pos (starEach es X.env)).any (·.1) = true := by rfl) : PE X (.Call (.Name x p) (e :: es) [] pos) (tLocC i C (tMakeR C sp E t)) := by
  refine ⟨fun pins s σ H Q I h => ?_⟩
  obtain ⟨hs, ht⟩ := h
  refine wpAny_Call_Name_kw (thn ((pe_var (pos := p) hN hv hdb hcd).run pins s σ H (fun v H1 => v = .ref C ∧ H1 = H) I ⟨.ref C, hs, rfl, rfl⟩) fun u s0 ⟨v0, H0, I0, r0, q0⟩ => ?_)
  obtain ⟨rfl, rfl⟩ := q0
  cases r0
  refine PySem.W.callWith_S2 (h₀ := X.base) I.ok.mod.kin M.kp (thn (ha.run pos pins s0 σ _ _ I0 ht) fun us s1 ⟨vs, H1, I1, r, q⟩ => ⟨I1.kIn, ?_⟩) he hst
  exact run_makeR M F hr hx I1 r q
end
/-! ### max(l, default=d) -/
/-- of a list of ints -/
def rMaxD (K : PySem.W.Frag) : List V → List V → Hp → VK → Prop := fun vs zs H Q => ∃ (a : Addr) (ns : List Int) (d : V), vs = [V.ref a] ∧ zs = [d] ∧ SqL K H a (ns.map V.int) ∧ (ns = [] → Q d H) ∧ (∀ m, m ∈ ns → (∀ y, y ∈ ns → y ≤ m) → Q (.int m) H)
theorem readsAll_ints {h : Heap} : ∀ {us : List Value} {ns : List Int}, Vals (ns.map V.int) us → HoldAll h us ns
  | _, [], .nil => .nil
  | _, n :: ns, .cons r t => by
    obtain ⟨tk, rfl⟩ := r
    exact .cons (holds_int n tk) (readsAll_ints t)
theorem maxOf_cons (x y : Int) (ys : List Int) : maxOf x (y :: ys) = maxOf (if x < y then y else x) ys := by
  show List.foldl _ _ _ = List.foldl _ _ _
  rw [List.foldl_cons]
  have e : (if DatumOrd.lt x y = true then y else x) = if x < y then y else x := by
    show (if decide (x < y) = true then y else x) = _
    by_cases h : x < y
    · rw [if_pos h, if_pos (decide_eq_true h)]
    · rw [if_neg h, if_neg (by rw [decide_eq_true_iff]; exact h)]
  rw [e]
theorem maxOf_int : ∀ (xs : List Int) (x : Int), maxOf x xs ∈ x :: xs ∧ ∀ y, y ∈ x :: xs → y ≤ maxOf x xs
  | [], x => ⟨List.mem_cons_self .., fun y h => by rcases List.mem_cons.mp h with rfl | h; exact Int.le_refl _; cases h⟩
  | z :: zs, x => by
    rw [maxOf_cons]
    by_cases h : x < z
    · rw [if_pos h]
      obtain ⟨a, b⟩ := maxOf_int zs z
      refine ⟨List.mem_cons_of_mem _ a, fun y m => ?_⟩
      rcases List.mem_cons.mp m with rfl | m
      · have := b z (List.mem_cons_self ..)
        omega
      · exact b y m
    · rw [if_neg h]
      obtain ⟨a, b⟩ := maxOf_int zs x
      refine ⟨?_, fun y m => ?_⟩
      · rcases List.mem_cons.mp a with e | e
        · rw [e]; exact List.mem_cons_self ..
        · exact List.mem_cons_of_mem _ (List.mem_cons_of_mem _ e)
      · rcases List.mem_cons.mp m with rfl | m
        · exact b _ (List.mem_cons_self ..)
        · rcases List.mem_cons.mp m with rfl | m
          · have := b x (List.mem_cons_self ..)
            omega
          · exact b y (List.mem_cons_of_mem _ m)
theorem cr_maxD {X : Cx} (hc : X.calm = true) (hu : X.A.units + 3 < cLine) : CallRK X (.builtin "max") ["default"] (rMaxD X.K) := by
  intro pins s σ H xs zs us ws Q I r rz h
  obtain ⟨a, ns, d, rfl, rfl, hs, h0, h1⟩ := h
  obtain ⟨its, rv, hl, _⟩ := I.list hs
  rw [Vals.ref1 r]
  cases rz with
  | cons rd rn =>
    cases rn
    show wpAny _ _ (call (.builtin "max") [.ref a] [(Str.ofString "default", _)]) _ _ _
    refine max_list_datum_default (α := Int) (vs := its.toArray) (xs := ns) (I.ok.hd hc) hl.isList (by simpa using readsAll_ints rv) (by show X.A.units + 1 + 0 < cLine; omega) (fun e h' tk hk => ⟨d, H, I.kept hk, rd, h0 e⟩) fun y ys i v h' tk e hi hv hk => ?_
    subst e
    obtain ⟨m1, m2⟩ := maxOf_int ys y
    obtain ⟨as, hr⟩ := hv
    have ev : ∃ t, v = .int (maxOf y ys) t := by
      have hr' : Reads h' v (.int (maxOf y ys)) as := hr
      cases hr' with
      | int _ t => exact ⟨t, rfl⟩
    obtain ⟨t, rfl⟩ := ev
    exact ⟨.int (maxOf y ys), H, I.kept hk, ⟨t, rfl⟩, h1 _ m1 m2⟩
end L2
end

section
set_option Elab.async false
set_option linter.all false
set_option maxRecDepth 100000
set_option maxHeartbeats 4000000
namespace KP
open PySem PySem.Spec PyProof.Rows L2 Pn
theorem pe_cst {X : Cx} {x : PySem.Str} {i : Int} {pos : Pos} (hg : Gl X x) (h : ∃ t, X.mg x = some (.int i t)) (hd : (x == ("__debug__" : PySem.Str)) = false := by decide) : PE X (.Name x pos) (tC (.int i)) := by
  obtain ⟨t, h⟩ := h
  exact pe_glob hg h ⟨_, rfl⟩ hd
theorem bIsi : bootBuiltins "isinstance" = some (.builtin "isinstance") := by decide +kernel
theorem room3 {k : Nat} {A : Around} (r : Room k A) : A.units + 3 < cLine := by
  have := r.un
  omega
theorem ms_pos : ∀ (l : List Itm), ∀ y ∈ ms l, 1 ≤ y
  | [], y, h => by cases h
  | i :: l, y, h => by
    unfold ms at h
    rw [List.flatMap_cons] at h
    rcases List.mem_append.mp h with h | h
    · cases i with
      | times n its =>
        rcases List.mem_cons.mp h with rfl | h
        · omega
        · cases h
      | say => cases h
      | press => cases h
      | go => cases h
    · exact ms_pos l y h
theorem firstBad_all : ∀ {os : List (Option Itm)}, (∀ j, j < os.length → ∃ i, os[j]? = some (some i)) → firstBad os = none
  | [], _ => rfl
  | none :: r, h => by obtain ⟨i, q⟩ := h 0 (by simp); cases q
  | some i :: r, h => by
    unfold firstBad
    rw [firstBad_all (os := r) (fun j l => h (j + 1) (by simp; omega))]
    rfl
theorem _root_.Pn.BodT.any {K : PySem.W.Frag} {mg : PySem.Str → Option Value} {c : Cs} (B : BodT K mg c) {C : Addr} (h : C = c.say ∨ C = c.press ∨ C = c.go ∨ C = c.times) : PySem.W.kitAny K (.ref C) [.ref c.say, .ref c.press, .ref c.go, .ref c.times] = some true := by
  have h5 : C = c.say ∨ C = c.press ∨ C = c.go ∨ C = c.times ∨ C = c.body := by rcases h with h | h | h | h <;> simp [h]
  refine kitAny_cons (B.kit C h5 c.say (.inl rfl)) (fun h1 => kitAny_cons (B.kit C h5 c.press (.inr (.inl rfl))) (fun h2 => kitAny_cons (B.kit C h5 c.go (.inr (.inr (.inl rfl)))) (fun h3 => kitAny_cons (B.kit C h5 c.times (.inr (.inr (.inr rfl)))) (fun h4 => ?_) (fun _ => rfl)) (fun _ => rfl)) (fun _ => rfl)) (fun _ => rfl)
  rw [decide_eq_false_iff_not] at h1 h2 h3 h4
  rcases h with h | h | h | h
  · exact absurd h h1
  · exact absurd h h2
  · exact absurd h h3
  · exact absurd h h4
theorem _root_.Pn.NoIt.any {K : PySem.W.Frag} {c : Cs} {H : Hp} {v : V} (h : NoIt K c H v) : ∃ t, TyX K H v t ∧ PySem.W.kitAny K t [.ref c.say, .ref c.press, .ref c.go, .ref c.times] = some false := by
  obtain ⟨t, a, h1, h2, h3, h4⟩ := h
  exact ⟨t, a, kitAny_cons h1 (fun _ => kitAny_cons h2 (fun _ => kitAny_cons h3 (fun _ => kitAny_cons h4 (fun _ => kitAny_nil) (fun z => by cases z)) (fun z => by cases z)) (fun z => by cases z)) (fun z => by cases z)⟩
/-- the class of an item's object -/
theorem _root_.Pn.Io.ty {K : PySem.W.Frag} {mg : PySem.Str → Option Value} {c : Cs} {H : Hp} {v : V} {i : Itm} (B : BodT K mg c) (h : Io c H v i) : ∃ C, (C = c.say ∨ C = c.press ∨ C = c.go ∨ C = c.times) ∧ TyX K H v (.ref C) := by
  cases h with
  | say h => exact ⟨_, .inl rfl, B.say.tyx h⟩
  | press h => exact ⟨_, .inr (.inl rfl), B.press.tyx h⟩
  | go h => exact ⟨_, .inr (.inr (.inl rfl)), B.go.tyx h⟩
  | times h b => exact ⟨_, .inr (.inr (.inr rfl)), B.times.tyx h⟩
structure Blt3 (mg : PySem.Str → Option Value) : Prop where
  max : mg "max" = none
  enum : mg "enumerate" = none
  isi : mg "isinstance" = none
  len : mg "len" = none
section
variable {P : Program} {w : World} {K : PySem.W.Frag} {mg : PySem.Str → Option Value} {base : Heap}
theorem scDepthOf : FnScope ["items", "item"] ["items"] (defScope sDepthOf) := ⟨rfl, rfl, rfl, by decide +kernel, rfl, by decide +kernel, by decide +kernel⟩
theorem ok_depthOf {f fD pD : Addr} {fd fdD : FuncData} {c : Cs} (F : Fun K "depth_of" "depth_of" sDepthOf f fd) (T : Blt3 mg) (B : BodT K mg c) (FD : Fun K "depth" "Body.depth" sBodyD fD fdD) (bD : Binds K fdD ["self"] []) (gD : PropOf K c.body "depth" pD fD) :
    FnOk P w K mg base CX0 3 f fd ["items"] (spDep K c) := by
  have GD : FnOk P w K mg base CX0 1 fD fdD ["self"] (Pn.spDepth c) := ok_bodyD FD B
  refine F.ok scDepthOf (fun vs H Q E h => ?_) (fun cdv A outer s H vs Q E hr h => ?_)
  · obtain ⟨t, xs, its, rfl, _⟩ := h
    rfl
  · obtain ⟨t, xs, its, rfl, hS, hI, hl, q⟩ := h
    have hr2 : Room 2 _ := hr
    have hu := room3 hr2
    refine ⟨_, pss_one (ps_ret (pe_callBK (cr_maxD rfl hu) (by rfl) T.max (by decide +kernel) (pa_cons (pe_lc (own := [("item", 1)]) (g := gName 1) (tt := _) rfl scDepthOf.nd (pi_tup (pv 0)) (blkOk_by (N := ["items", "item"]) (sc := defScope sDepthOf) (by decide +kernel)) (fun _ _ _ _ _ => pg_name (i := 1) scDepthOf.nd rfl (Or.inl rfl))
      (fun _ _ _ _ _ => (pts_one (pt_val (pe_callB (r := rIsi K) call_isi (by rfl) T.isi bIsi (pa_cons (pv 1) (pa_cons (pe_glob (v := .ref c.times) rfl B.gTimes rfl) pa_nil))))))
      (fun _ _ _ _ _ => (pe_op op_add pe_int (pe_prop (show PE _ _ (tFld K _ _) from pe_fld (pv 1) rfl) B.body.cl gD GD hr2 bD .nil pass0 rfl)))) pa_nil) (pk_cons pe_int pk_nil))), ?_⟩
    refine ⟨_, rfl, t, rfl, ⟨_, hS⟩, fun L hLn => ?_⟩
    have hx := hI.len
    refine lc_tup (xs := xs) (fun i Hk => Same H Hk ∧ Hk L = some (.lst ((ms (its.take i)).map V.int)) ∧ (ms (its.take i)).length ≤ i) ⟨same_new hLn, upd_same, Nat.le_refl _⟩ (fun i Hk _ h => SqT.same h.1 hS) ?_ ?_
    · rintro i x Hk hxi ⟨hSk, hLk, hlen⟩
      have hIk := hI.keep (.same hSk)
      obtain ⟨it, hit, hr0⟩ := hIk.get hxi
      have tk : its.take (i + 1) = its.take i ++ [it] := by
        rw [List.take_add_one, hit]; rfl
      have il : i < xs.length := (List.getElem?_eq_some_iff.mp hxi).1
      refine ⟨rfl, ?_⟩
      have skip : tm it = [] → Same H Hk ∧ Hk L = some (.lst ((ms (its.take (i + 1))).map V.int)) ∧ (ms (its.take (i + 1))).length ≤ i + 1 := fun e => by
        have e2 : ms (its.take (i + 1)) = ms (its.take i) := by
          rw [tk, ms_app]
          show ms (its.take i) ++ (tm it ++ []) = _
          rw [e]; simp
        rw [e2]
        exact ⟨hSk, hLk, by omega⟩
      cases hr0 with
      | say h => exact ⟨_, rfl, _, _, _, _, _, rfl, .own _, B.say.tyx h, B.kit _ (.inl rfl) _ (.inr (.inr (.inr rfl))), _, rfl, ite2 (fun z => absurd (of_decide_eq_true z) B.ne1) (fun _ => skip rfl)⟩
      | press h => exact ⟨_, rfl, _, _, _, _, _, rfl, .own _, B.press.tyx h, B.kit _ (.inr (.inl rfl)) _ (.inr (.inr (.inr rfl))), _, rfl, ite2 (fun z => absurd (of_decide_eq_true z) B.ne2) (fun _ => skip rfl)⟩
      | go h => exact ⟨_, rfl, _, _, _, _, _, rfl, .own _, B.go.tyx h, B.kit _ (.inr (.inr (.inl rfl))) _ (.inr (.inr (.inr rfl))), _, rfl, ite2 (fun z => absurd (of_decide_eq_true z) B.ne3) (fun _ => skip rfl)⟩
      | times h b =>
        rename_i a dx b n its2
        refine ⟨_, rfl, _, _, _, _, _, rfl, .own _, B.times.tyx h, B.kit _ (.inr (.inr (.inr (.inl rfl)))) _ (.inr (.inr (.inr rfl))), _, rfl, ite2 (fun _ => ?_) (fun z => absurd (decide_eq_true rfl) z)⟩
        cases b with
        | mk hb he hi2 =>
          refine ⟨_, rfl, _, _, _, _, _, rfl, h, B.times.cl, B.nBod, rfl, _, _, _, rfl, hb, _, _, _, _, _, rfl, hb, _, _, rfl, rfl, _, hLk, by rw [List.length_map]; show _ < 16777216; omega, fun b o e => ?_, ?_, ?_⟩
          · rw [upd_ne (ne_of_none e hLn)]
            exact hSk _ _ e
          · rw [upd_same, tk, ms_app, List.map_append]
            rfl
          · rw [tk, ms_app, List.length_append]
            show _ + 1 ≤ _
            omega
    · rintro Hk ⟨hSk, hLk, hlen⟩
      have tl : its.take xs.length = its := List.take_of_length_le (by omega)
      rw [tl] at hLk hlen
      refine ⟨L, _, _, rfl, rfl, SqL.of hLk, fun e => ?_, fun m hm hle => ?_⟩
      · have d0 : dIs its = 0 := by
          have := ms_mem its
          rw [e] at this
          have := List.mem_singleton.mp this
          omega
        have := q Hk hSk
        rw [d0] at this
        exact this
      · have q1 := ms_le its m hm
        have q2 : ((dIs its : Nat) : Int) ≤ m := by
          rcases List.mem_cons.mp (ms_mem its) with e | e
          · have := ms_pos its m hm
            omega
          · exact hle _ e
        rw [show m = ((dIs its : Nat) : Int) by omega]
        exact q Hk hSk
end
end KP
end

section
set_option Elab.async false
set_option linter.all false
set_option maxRecDepth 100000
set_option maxHeartbeats 4000000
namespace KP
open PySem PySem.Spec PyProof.Rows L2 Pn
section
variable {P : Program} {w : World} {K : PySem.W.Frag} {mg : Str → Option Value} {base : Heap}
theorem scCheck : FnScope ["items", "depth", "index", "item"] ["items", "depth"] (defScope sCheck) := ⟨rfl, rfl, rfl, by decide +kernel, rfl, by decide +kernel, by decide +kernel⟩
theorem ok_check {f fD pD fO : Addr} {fd fdD fdO : FuncData} {c : Cs} {C : Nat → Addr} (F : Fun K "check_items" "check_items" sCheck f fd) (T : Blt3 mg) (B : BodT K mg c) (R : ErrT K mg C tclass) (FD : Fun K "depth" "Body.depth" sBodyD fD fdD) (bD : Binds K fdD ["self"] []) (gD : PropOf K c.body "depth" pD fD)
    (FO : Fun K "depth_of" "depth_of" sDepthOf fO fdO) (bO : Binds K fdO ["items"] []) (gO : Fn K mg "depth_of" fO) :
    FnOk P w K mg base (L2.CX P w) 4 f fd ["items", "depth"] (spChk K c C) := by
  have GO : FnOk P w K mg base CX0 3 fO fdO ["items"] (spDep K c) := ok_depthOf FO T B FD bD gD
  refine F.okX scCheck (fun vs H Q E h => ?_) (fun cdv A outer s H vs Q E hr h => ?_)
  · obtain ⟨t, xs, os, dep, rfl, _⟩ := h
    rfl
  · obtain ⟨t, xs, os, dep, rfl, hS, hI, hl, kE, q⟩ := h
    have hr3 : Room 3 _ := hr
    have hr1 : Room 1 _ := hr.mono (by decide)
    refine ⟨_, pss_cons (ps_for (passes_of rfl) rfl (pi_enumT (by rfl) T.enum (pa_cons (pv 0) pa_nil)) (pg_tup (by rfl) (pgs_cons (pg_name (i := 2) scCheck.nd rfl (Or.inl rfl)) (pgs_cons (pg_name (i := 3) scCheck.nd rfl (Or.inl rfl)) pgs_nil)))
        (pss_one (ps_if (pt_not (pt_val (pe_callB call_isiT (by rfl) T.isi bIsi (pa_cons (pv 3) (pa_cons (pe_tup (pa_cons (pe_glob (v := .ref c.say) rfl B.gSay rfl) (pa_cons (pe_glob (v := .ref c.press) rfl B.gPress rfl) (pa_cons (pe_glob (v := .ref c.go) rfl B.gGo rfl) (pa_cons (pe_glob (v := .ref c.times) rfl B.gTimes rfl) pa_nil))))) pa_nil)))))
          (pss_one (ps_raise rfl (takes_of rfl rfl rfl rfl) (pmk_one (basC 1) (R.one 1 (by decide)) (R.ty 1 (by decide)) hr1 (R.g 1 (by decide)) (pa_cons (pv 2) pa_nil)))) pss_nil)))
      (pss_cons (ps_if (pt_cmpR op_gt (pe_callB call_len_seq (by rfl) T.len PySem.boot_len (pa_cons (pv 0) pa_nil)) (pe_cst rfl B.items) (nomark _)) (pss_one (ps_raise rfl (takes_of rfl rfl rfl rfl) (pmk_one (basC 2) (R.one 2 (by decide)) (R.ty 2 (by decide)) hr1 (R.g 2 (by decide)) (pa_cons (pe_cst rfl B.items) pa_nil)))) pss_nil)
      (pss_one (ps_if (pt_cmpR op_gt (pe_call GO hr3 rfl gO.g gO.k bO .nil pass0 (pa_cons (pv 0) pa_nil)) (pv 1) (nomark _)) (pss_one (ps_raise rfl (takes_of rfl rfl rfl rfl) (pmk_one (basC 3) (R.one 3 (by decide)) (R.ty 3 (by decide)) hr1 (R.g 3 (by decide)) (pa_cons (pe_cst rfl B.depth) pa_nil)))) pss_nil))), ?_⟩
    refine ⟨_, rfl, t, xs, rfl, hS, for_it walk_enumT (fun i σ Hk => ∃ y2 y3, σ = [some (.ref t), some (.int dep), y2, y3] ∧ Same H Hk ∧ ∀ j, j < i → ∃ it, os[j]? = some (some it)) ⟨none, none, rfl, Same.refl H, fun j hj => absurd hj (Nat.not_lt_zero _)⟩ (fun i σ Hk _ h => let ⟨_, _, _, S, _⟩ := h; SqT.same S hS) ?_ ?_⟩
    · rintro i x σ Hk Hk' hi ⟨y2, y3, rfl, S, hg⟩ ⟨T', a, b, rfl, nT, rfl, ea, eb⟩
      cases ea
      obtain ⟨o, ho, he⟩ := hI.get eb
      have S1 : Same Hk (upd Hk T' (.tup [.int (i : Nat), b])) := same_new nT
      refine ⟨T', [.int (i : Nat), b], rfl, .inl (.inl upd_same), rfl, _, [b], rfl, b, [], rfl, rfl, ?_⟩
      refine ⟨b, rfl, (by show 4 ≤ sizeLine; decide), fun tp htp => ?_⟩
      have S2 := (S.trans S1).trans (same_new (o := .tup [.ref c.say, .ref c.press, .ref c.go, .ref c.times]) htp)
      have pc : Paired ClsV [V.ref c.say, .ref c.press, .ref c.go, .ref c.times] [.ref c.say, .ref c.press, .ref c.go, .ref c.times] := .cons (.own _) (.cons (.own _) (.cons (.own _) (.cons (.own _) .nil)))
      cases he with
      | item hio hw =>
        obtain ⟨Ct, hC, hty⟩ := Io.ty B (hio.keep (.same S2))
        refine ⟨b, tp, _, _, _, _, rfl, upd_same, pc, hty, B.any hC, _, rfl, iteF ⟨_, _, rfl, S2, fun j hj => ?_⟩⟩
        by_cases e : j = i
        · rw [e]; exact ⟨_, ho⟩
        · exact hg j (by omega)
      | other hno =>
        obtain ⟨ty, hty, hk⟩ := (hno.keep (.same S2)).any
        refine ⟨b, tp, _, _, _, _, rfl, upd_same, pc, hty, hk, _, rfl, iteT ⟨_, rfl, _, rfl, fun dd hdd => ?_⟩⟩
        have fb : firstBad os = some i := firstBad_at ho hg
        exact kE 1 (i : Nat) (by unfold chk; rw [fb]) _ dd S2 hdd
    · rintro σ Hk ⟨y2, y3, rfl, S, hg⟩
      have hlen := hI.len
      have fb : firstBad os = none := firstBad_all (fun j hj => hg j (by omega))
      obtain ⟨its, rfl, hio, hw⟩ := firstBad_none fb hI
      have hlen2 : xs.length = its.length := by rw [hlen, List.length_map]
      refine ⟨_, rfl, t, _, rfl, .inr (SqT.same S hS), _, _, rfl, rfl, _, rfl, ?_⟩
      refine ite2 (fun h6 => ⟨_, rfl, fun dd hdd => ?_⟩) (fun h6 => ?_)
      · have h6' : (6 : Int) < ((xs.length : Nat) : Int) := of_decide_eq_true h6
        exact kE 2 6 (by unfold chk; rw [fb]; show (if 6 < (its.map some).length then _ else _) = _; rw [if_pos (by rw [List.length_map]; omega)]) _ dd S hdd
      · have h6' : ¬ (6 : Int) < ((xs.length : Nat) : Int) := fun z => h6 (decide_eq_true z)
        refine ⟨_, rfl, t, xs, its, rfl, SqT.same S hS, hio.keep (.same S), hl, fun H' S' => ?_⟩
        refine ⟨_, rfl, _, _, rfl, rfl, _, rfl, ?_⟩
        have c6 : ¬ 6 < (its.map some).length := by rw [List.length_map]; omega
        refine ite2 (fun hd => ⟨_, rfl, fun dd hdd => ?_⟩) (fun hd => ?_)
        · have hd' : dep < ((dIs its : Nat) : Int) := of_decide_eq_true hd
          exact kE 3 2 (by unfold chk; rw [fb]; show (if 6 < (its.map some).length then _ else if dep < ((dIs (goods (its.map some)) : Nat) : Int) then _ else _) = _; rw [if_neg c6, goods_map, if_pos hd']) _ dd (S.trans S') hdd
        · have hd' : ¬ dep < ((dIs its : Nat) : Int) := fun z => hd (decide_eq_true z)
          exact q (by unfold chk; rw [fb]; show (if 6 < (its.map some).length then _ else if dep < ((dIs (goods (its.map some)) : Nat) : Int) then _ else _) = _; rw [if_neg c6, goods_map, if_neg hd']) _ (S.trans S')
end
end KP
end

section
set_option Elab.async false
set_option linter.all false
set_option maxRecDepth 100000
set_option maxHeartbeats 4000000
namespace KP
open PySem PySem.Spec PyProof.Rows L2 Pn
def tOr (t u : TE) : TE := fun σ H Q => t σ H Q ∨ u σ H Q
theorem pe_or {X : Cx} {e : Expr} {t u : TE} (h : PE X e t) (g : PE X e u) : PE X e (tOr t u) := ⟨fun pins s σ H Q I z => z.elim (fun z => h.run pins s σ H Q I z) (fun z => g.run pins s σ H Q I z)⟩
theorem fBody_put (e : Addr) (d : Int) (t : PySem.Str) : putF "_text" (.str t) (putF "_depth" (.int d) (putF "_entries" (.ref e) [])) = fBody e d t := by
  have h1 : ¬ (("_entries" : PySem.Str) = "_depth") := by decide +kernel
  have h2 : ¬ (("_entries" : PySem.Str) = "_text") := by decide +kernel
  have h3 : ¬ (("_depth" : PySem.Str) = "_text") := by decide +kernel
  simp only [putF, if_neg h1, if_neg h2, if_neg h3]
  rfl
theorem fTimes_put (n : Int) (b : Addr) (t : PySem.Str) : putF "_text" (.str t) (putF "body" (.ref b) (putF "number" (.int n) [])) = fTimes n b t := by
  have h1 : ¬ (("number" : PySem.Str) = "body") := by decide +kernel
  have h2 : ¬ (("number" : PySem.Str) = "_text") := by decide +kernel
  have h3 : ¬ (("body" : PySem.Str) = "_text") := by decide +kernel
  simp only [putF, if_neg h1, if_neg h2, if_neg h3]
  rfl
theorem putF_len (f : PySem.Str) (v : V) : ∀ fs : List (PySem.Str × V), (putF f v fs).length ≤ fs.length + 1
  | [] => Nat.le_refl _
  | (g, x) :: r => by
    unfold putF
    by_cases h : g = f
    · rw [if_pos h]; exact Nat.le_succ _
    · rw [if_neg h, List.length_cons, List.length_cons]
      have := putF_len f v r
      omega
/-- what the text says of the methods -/
structure MetT (K : PySem.W.Frag) (c : Cs) (tS tP tG tT tB : Addr) : Prop where
  say : Meth K c.say "text" tS
  press : Meth K c.press "text" tP
  go : Meth K c.go "text" tG
  times : Meth K c.times "text" tT
  body : Meth K c.body "text" tB
/-- the five defs named text -/
structure TexT (K : PySem.W.Frag) (tS tP tG tT tB : Addr) (dS dP dG dT dB : FuncData) : Prop where
  say : Fun K "text" "Say.text" sSayT tS dS
  press : Fun K "text" "Press.text" sPressT tP dP
  go : Fun K "text" "Go.text" sGoT tG dG
  times : Fun K "text" "Times.text" sTimesT tT dT
  body : Fun K "text" "Body.text" sBodyT tB dB
  bS : Binds K dS ["self"] []
  bP : Binds K dP ["self"] []
  bG : Binds K dG ["self"] []
  bT : Binds K dT ["self"] []
  bB : Binds K dB ["self"] []
def spBodyJ (K : PySem.W.Frag) (c : Cs) (C : Nat → Addr) : Sp := fun vs H Q E => ∃ (H0 : Hp) (x dx t : Addr) (xs : List V) (os : List (Option Itm)), vs = [.ref x, .ref t] ∧ Same H0 H ∧ H0 x = none ∧ H x = some (.ins c.body dx []) ∧ H t = some (.tup xs) ∧ Ents K c H0 xs os ∧ xs.length ≤ 1000 ∧
  (∀ j y, chk os 2 = some (j, y) → Rz C H0 E j (.int y)) ∧ (chk os 2 = none → ∀ its H', os = its.map some → ItsW 2 its → its.length ≤ 6 → Same H0 H' → Bo c H' x its → Q .non H')
theorem chk_none {K : PySem.W.Frag} {c : Cs} {H : Hp} {xs : List V} {os : List (Option Itm)} {dep : Int} (h : chk os dep = none) (e : Ents K c H xs os) : ∃ its, os = its.map some ∧ Ios c H xs its ∧ ItsW 2 its ∧ its.length ≤ 6 ∧ ((dIs its : Nat) : Int) ≤ dep := by
  unfold chk at h
  cases fb : firstBad os with
  | some k => rw [fb] at h; cases h
  | none =>
    rw [fb] at h
    obtain ⟨its, rfl, a, b⟩ := firstBad_none fb e
    have h' : (if 6 < (its.map some).length then some (2, (6 : Int)) else if dep < ((dIs (goods (its.map some)) : Nat) : Int) then some (3, (2 : Int)) else none) = none := h
    rw [List.length_map, goods_map] at h'
    by_cases l : 6 < its.length
    · rw [if_pos l] at h'; cases h'
    · rw [if_neg l] at h'
      by_cases m : dep < ((dIs its : Nat) : Int)
      · rw [if_pos m] at h'; cases h'
      · exact ⟨its, rfl, a, b, by omega, by omega⟩
section
variable {P : Program} {w : World} {K : PySem.W.Frag} {mg : Str → Option Value} {base : Heap}
theorem scBodyI : FnScope ["self", "items", "item"] ["self", "items"] (defScope sBodyI) := ⟨rfl, rfl, rfl, by decide +kernel, rfl, by decide +kernel, by decide +kernel⟩
theorem bodyI_body {fD pD fO fC tS tP tG tT tB fa : Addr} {fdD fdO fdC dS dP dG dT dB : FuncData} {c : Cs} {C : Nat → Addr} (T : Blt3 mg) (B : BodT K mg c) (R : ErrT K mg C tclass) (FD : Fun K "depth" "Body.depth" sBodyD fD fdD) (bD : Binds K fdD ["self"] []) (gD : PropOf K c.body "depth" pD fD)
    (FO : Fun K "depth_of" "depth_of" sDepthOf fO fdO) (bO : Binds K fdO ["items"] []) (gO : Fn K mg "depth_of" fO) (FC : Fun K "check_items" "check_items" sCheck fC fdC) (bC : Binds K fdC ["items", "depth"] []) (gC : Fn K mg "check_items" fC)
    (M : MetT K c tS tP tG tT tB) (X : TexT K tS tP tG tT tB dS dP dG dT dB) {cdv : Value} {A : Around} {outer : List Env} {s : Shared} {H : Hp} {vs : List V} {Q : VK} {E : XK} (hr : Room 4 (A.deeper (envOfC "Body.__init__" (defScope sBodyI) s.heap.objs.size fa cdv))) (h : spBodyJ K c C vs H Q E) :
    ∃ t, PSs (cxOf (L2.CX P w) P w K mg base ["self", "items", "item"] "Body.__init__" (defScope sBodyI) fa cdv A outer s H E) (defBody sBodyI) t ∧ t { nx := fun _ H' => Q .non H', rt := Q } (start ["self", "items", "item"] vs) H := by
  have GO : FnOk P w K mg base CX0 3 fO fdO ["items"] (spDep K c) := ok_depthOf FO T B FD bD gD
  have GC : FnOk P w K mg base (L2.CX P w) 4 fC fdC ["items", "depth"] (spChk K c C) := ok_check FC T B R FD bD gD FO bO gO
  have GS : FnOk P w K mg base CX0 1 tS dS ["self"] (spTxSay c) := ok_sayT X.say B
  have GP : FnOk P w K mg base CX0 1 tP dP ["self"] (spTxPress c) := ok_pressT X.press B
  have GG : FnOk P w K mg base CX0 1 tG dG ["self"] (spTxGo c) := ok_goT X.go B
  have GT : FnOk P w K mg base CX0 1 tT dT ["self"] (spTxTimes c) := ok_timesT X.times B
  obtain ⟨H0, x, dx, t, xs, os, rfl, S, n0, hx, ht, hI, hl, kE, kQ⟩ := h
  have hr3 : Room 3 _ := hr.mono (by decide)
  have hr1 : Room 1 _ := hr.mono (by decide)
  refine ⟨_, pss_cons (ps_expr (pe_call GC hr rfl gC.g gC.k bC .nil (passes_call (takes_of rfl rfl rfl rfl) (fun _ _ _ _ h => h)) (pa_cons (pv 1) (pa_cons (pe_cst rfl B.depth) pa_nil))))
    (pss_cons (ps_fld (pv 0) (pv 1) rfl)
    (pss_cons (ps_fld (pv 0) (pe_call GO hr3 rfl gO.g gO.k bO .nil pass0 (pa_cons (pv 1) pa_nil)) rfl)
    (pss_one (ps_fld (pv 0) (pe_join pe_str (pe_lc (own := [("item", 2)]) (g := gName 2) (tt := tYes) rfl scBodyI.nd (pi_tup (pv 1)) (blkOk_by (N := ["self", "items", "item"]) (sc := defScope sBodyI) (by decide +kernel)) (fun _ _ _ _ _ => pg_name (i := 2) scBodyI.nd rfl (Or.inl rfl)) (fun _ _ _ _ _ => pts_nil)
      (fun _ _ _ _ _ => pe_or (pe_meth0 (pv 2) B.say.cl M.say GS hr1 X.bS .nil pass0) (pe_or (pe_meth0 (pv 2) B.press.cl M.press GP hr1 X.bP .nil pass0) (pe_or (pe_meth0 (pv 2) B.go.cl M.go GG hr1 X.bG .nil pass0) (pe_meth0 (pv 2) B.times.cl M.times GT hr1 X.bT .nil pass0)))))) rfl)))), ?_⟩
  refine ⟨_, rfl, t, xs, os, 2, rfl, SqT.of ht, hI.keep (.same S), hl, fun j y e => (kE j y e).same S, fun hc H1 S1 => ?_⟩
  obtain ⟨its, rfl, hio, hw, h6, hd⟩ := chk_none hc hI
  have hx1 := S1 _ _ hx
  have ht1 := S1 _ _ ht
  have tx : t ≠ x := ne_of ht hx (by intro z; cases z)
  have S01 : Same H0 H1 := S.trans S1
  have keepx : ∀ {Hk : Hp} {o : HO}, Same H0 Hk → Same H0 (upd Hk x o) := fun {Hk o} S b u e => by
    rw [upd_ne (ne_of_none e n0)]
    exact S _ _ e
  refine ⟨_, rfl, _, rfl, x, c.body, dx, [], rfl, hx1, B.body.cl, B.nEnt, (by show 0 < 1000; decide), ?_⟩
  have S2 : Same H0 (upd H1 x (.ins c.body dx (putF "_entries" (.ref t) []))) := keepx S01
  have ht2 : upd H1 x (.ins c.body dx (putF "_entries" (.ref t) [])) t = some (.tup xs) := by rw [upd_ne tx]; exact ht1
  have hx2 : upd H1 x (.ins c.body dx (putF "_entries" (.ref t) [])) x = some (.ins c.body dx (putF "_entries" (.ref t) [])) := upd_same
  generalize upd H1 x (.ins c.body dx (putF "_entries" (.ref t) [])) = H2 at S2 ht2 hx2 ⊢
  refine ⟨_, rfl, t, xs, its, rfl, SqT.of ht2, hio.keep (.same S2), hl, fun H3 S3 => ?_⟩
  refine ⟨_, rfl, x, c.body, dx, _, rfl, S3 _ _ hx2, B.body.cl, B.nDep, (by show 1 < 1000; decide), ?_⟩
  have S4 : Same H0 (upd H3 x (.ins c.body dx (putF "_depth" (.int ((dIs its : Nat) : Int)) (putF "_entries" (.ref t) [])))) := keepx (S2.trans S3)
  have ht4 : upd H3 x (.ins c.body dx (putF "_depth" (.int ((dIs its : Nat) : Int)) (putF "_entries" (.ref t) []))) t = some (.tup xs) := by rw [upd_ne tx]; exact S3 _ _ ht2
  have hx4 : upd H3 x (.ins c.body dx (putF "_depth" (.int ((dIs its : Nat) : Int)) (putF "_entries" (.ref t) []))) x = some (.ins c.body dx (putF "_depth" (.int ((dIs its : Nat) : Int)) (putF "_entries" (.ref t) []))) := upd_same
  generalize upd H3 x (.ins c.body dx (putF "_depth" (.int ((dIs its : Nat) : Int)) (putF "_entries" (.ref t) []))) = H4 at S4 ht4 hx4 ⊢
  refine ⟨⟨_, rfl⟩, _, rfl, t, rfl, ⟨_, SqT.of ht4⟩, fun L hLn => ?_⟩
  have hlen := hio.len
  refine lc_tup (xs := xs) (fun i Hk => Same H4 Hk ∧ Hk L = some (.lst ((txs (its.take i)).map V.str))) ⟨same_new hLn, upd_same⟩ (fun i Hk _ h => SqT.same h.1 (SqT.of ht4)) ?_ ?_
  · rintro i v Hk hvi ⟨Sk, hLk⟩
    have hik := hio.keep (.same (S4.trans Sk))
    obtain ⟨it, hit, hr0⟩ := hik.get hvi
    have hwi := hw.get hit
    have il : i < xs.length := (List.getElem?_eq_some_iff.mp hvi).1
    have fin : ∃ acc, Hk L = some (.lst acc) ∧ acc.length < sizeLine ∧ (Same H4 (upd Hk L (.lst (acc ++ [V.str (txI it)]))) ∧ upd Hk L (.lst (acc ++ [V.str (txI it)])) L = some (.lst ((txs (its.take (i + 1))).map V.str))) := by
      refine ⟨_, hLk, ?_, fun b o e => ?_, ?_⟩
      · rw [List.length_map, txs_len, List.length_take]
        show _ < 16777216
        omega
      · rw [upd_ne (ne_of_none e hLn)]
        exact Sk _ _ e
      · rw [upd_same, List.take_add_one, hit, txs_app, List.map_append]
        have : txs (some it).toList = [txI it] := by show txs [it] = _; rw [txs, txs]
        rw [this]
        rfl
    refine ⟨rfl, ?_⟩
    cases hr0 with
    | say h => exact .inl ⟨_, rfl, _, _, _, rfl, h, rfl, _, _, _, rfl, h, (by cases hwi with | say w => have := wd_len w; omega), fin⟩
    | press h => exact .inr (.inl ⟨_, rfl, _, _, _, rfl, h, rfl, _, _, _, rfl, h, fin⟩)
    | go h => exact .inr (.inr (.inl ⟨_, rfl, _, _, _, rfl, h, rfl, _, _, _, rfl, h, (by cases hwi with | go w => have := wd_len w; omega), fin⟩))
    | times h b => exact .inr (.inr (.inr ⟨_, rfl, _, _, _, rfl, h, rfl, _, _, _, _, _, rfl, h, fin⟩))
  · rintro Hk ⟨Sk, hLk⟩
    have tl : its.take xs.length = its := List.take_of_length_le (by omega)
    rw [tl] at hLk
    refine ⟨_, L, txs its, rfl, rfl, .inl (SqL.of hLk), txB_join hw h6 (by decide), ?_⟩
    refine ⟨_, rfl, x, c.body, dx, _, rfl, Sk _ _ hx4, B.body.cl, B.nTxb, (by show 2 < 1000; decide), ?_⟩
    have S5 : Same H0 (upd Hk x (.ins c.body dx (putF "_text" (.str (txB its)) (putF "_depth" (.int ((dIs its : Nat) : Int)) (putF "_entries" (.ref t) []))))) := keepx (S4.trans Sk)
    refine kQ hc its _ rfl hw h6 S5 (.mk (dx := dx) (e := t) (vs := xs) ?_ ?_ ?_)
    · rw [← fBody_put]
      exact upd_same
    · show upd Hk x _ t = _
      rw [upd_ne tx]
      exact Sk _ _ ht4
    · exact hio.keep (.same S5)
end
end KP
end

section
set_option Elab.async false
set_option linter.all false
set_option maxRecDepth 100000
set_option maxHeartbeats 4000000
namespace KP
open PySem PySem.Spec PyProof.Rows L2 Pn StX
theorem chk_ok {its : List Itm} {dep : Int} (h6 : its.length ≤ 6) (hd : ((dIs its : Nat) : Int) ≤ dep) : chk (its.map some) dep = none := by
  unfold chk
  rw [firstBad_map]
  show (if 6 < (its.map some).length then some (2, (6 : Int)) else if dep < ((dIs (goods (its.map some)) : Nat) : Int) then some (3, (2 : Int)) else none) = none
  rw [List.length_map, goods_map, if_neg (by omega), if_neg (by omega)]
theorem fTimes_put2 (n : Int) (b : Addr) : putF "body" (.ref b) (putF "number" (.int n) []) = [(("number" : PySem.Str), V.int n), (("body" : PySem.Str), V.ref b)] := by
  have h1 : ¬ (("number" : PySem.Str) = "body") := by decide +kernel
  simp only [putF, if_neg h1]
theorem fTimes_put3 (n : Int) (b : Addr) (t : PySem.Str) : putF "_text" (.str t) [(("number" : PySem.Str), V.int n), (("body" : PySem.Str), V.ref b)] = fTimes n b t := by
  rw [← fTimes_put2, fTimes_put]
theorem log_ok {n : Int} (a : 0 ≤ n) (b : n ≤ 1000000000) : n.natAbs.log2 < 1920 := by
  by_cases h : n.natAbs = 0
  · rw [h]; decide
  · have := (Nat.log2_lt h).mpr (show n.natAbs < 2 ^ 31 by omega)
    omega
theorem withinD_true {d : PyData} {lo hi : Int} (h : withinD lo hi d = true) : ∃ n, d = .int n ∧ lo ≤ n ∧ n ≤ hi := by
  cases d with
  | int n =>
    have h' : (decide (lo ≤ n) && decide (n ≤ hi)) = true := h
    rw [Bool.and_eq_true, decide_eq_true_iff, decide_eq_true_iff] at h'
    exact ⟨n, rfl, h'.1, h'.2⟩
  | none => cases h
  | bool => cases h
  | str => cases h
  | list => cases h
  | tuple => cases h
  | dict => cases h
def spTimesJ (K : PySem.W.Frag) (c : Cs) (C : Nat → Addr) : Sp := fun vs H Q E => ∃ (H0 : Hp) (x dx t : Addr) (nv : V) (d : PyData) (xs : List V) (os : List (Option Itm)), vs = [.ref x, nv, .ref t] ∧ Same H0 H ∧ H0 x = none ∧ H x = some (.ins c.times dx []) ∧ H t = some (.tup xs) ∧ Kd K H0 nv d ∧ Ents K c H0 xs os ∧ xs.length ≤ 1000 ∧
  (withinD 0 1000000000 d = false → Rz C H0 E 0 (.str "number")) ∧ (withinD 0 1000000000 d = true → ∀ j y, chk os 1 = some (j, y) → Rz C H0 E j (.int y)) ∧
  (withinD 0 1000000000 d = true → chk os 1 = none → ∀ n its H', d = .int n → os = its.map some → ItW 2 (.times n its) → Same H0 H' → Io c H' (.ref x) (.times n its) → Q .non H')
/-- the defs that the two makers call, and what is known of them -/
structure MakT (K : PySem.W.Frag) (mg : PySem.Str → Option Value) (c : Cs) (fD pD fO fC tS tP tG tT tB : Addr) (fdD fdO fdC dS dP dG dT dB : FuncData) : Prop where
  FD : Fun K "depth" "Body.depth" sBodyD fD fdD
  bD : Binds K fdD ["self"] []
  gD : PropOf K c.body "depth" pD fD
  FO : Fun K "depth_of" "depth_of" sDepthOf fO fdO
  bO : Binds K fdO ["items"] []
  gO : Fn K mg "depth_of" fO
  FC : Fun K "check_items" "check_items" sCheck fC fdC
  bC : Binds K fdC ["items", "depth"] []
  gC : Fn K mg "check_items" fC
  M : MetT K c tS tP tG tT tB
  X : TexT K tS tP tG tT tB dS dP dG dT dB
section
variable {P : Program} {w : World} {K : PySem.W.Frag} {mg : Str → Option Value} {base : Heap} {fD pD fO fC tS tP tG tT tB fa : Addr} {fdD fdO fdC dS dP dG dT dB : FuncData} {c : Cs} {C : Nat → Addr}
theorem ok_bodyI {f : Addr} {fd : FuncData} (F : Fun K "__init__" "Body.__init__" sBodyI f fd) (T : Blt3 mg) (B : BodT K mg c) (R : ErrT K mg C tclass) (Z : MakT K mg c fD pD fO fC tS tP tG tT tB fdD fdO fdC dS dP dG dT dB) : FnR P w K mg base (L2.CX P w) 5 f (spBodyI K c C) := by
  obtain ⟨oc, od, kV, doc, pm, an, cdv, ct, osl, rfl, lk, hcd⟩ := F.ex
  refine FnR.imp (fn_star (ps := ["self"]) (pv := "items") (sp := spBodyJ K c C) lk hcd scBodyI cxUp (bind_star1 (B := fun us => bindArgs (PySem.W.fnOf "__init__" "Body.__init__" (defArgs sBodyI) (defBody sBodyI) (defScope sBodyI) .none kV doc pm an cdv ct) ⟨us, []⟩) (fun a => rfl) (fun a r rs => rfl))
    (fun A outer s H vs Q E hr h => bodyI_body T B R Z.FD Z.bD Z.gD Z.FO Z.bO Z.gO Z.FC Z.bC Z.gC Z.M Z.X hr h)) (fun vs H Q E h => ?_)
  obtain ⟨H0, x, dx, xs, os, rfl, S, n0, hx, hI, hl, kE, kQ⟩ := h
  refine ⟨[.ref x], xs, rfl, rfl, Nat.le_trans hl (by decide), fun p hp => ?_⟩
  exact ⟨H0, x, dx, p, xs, os, rfl, S.trans (same_new hp), n0, by rw [upd_ne (ne_of_none hx hp)]; exact hx, upd_same, hI, hl, kE, kQ⟩
theorem scTimesI : FnScope ["self", "number", "items"] ["self", "number", "items"] (defScope sTimesI) := ⟨rfl, rfl, rfl, by decide +kernel, rfl, by decide +kernel, by decide +kernel⟩
theorem timesI_body {fI fW fH : Addr} {fdI fdW fdH : FuncData} (FI : Fun K "__init__" "Body.__init__" sBodyI fI fdI) (MB : Mk K c.body fI) (T : Blt3 mg) (T1 : Blt mg) (U : Blt2 mg) (B : BodT K mg c) (R : ErrT K mg C tclass) (Z : MakT K mg c fD pD fO fC tS tP tG tT tB fdD fdO fdC dS dP dG dT dB)
    (FW : Fun K "is_within" "is_within" sWithin fW fdW) (bW : Binds K fdW ["value", "least", "most"] []) (gW : Fn K mg "is_within" fW) (FH : Fun K "is_whole" "is_whole" sWhole fH fdH) (bH : Binds K fdH ["value"] []) (gH : Fn K mg "is_whole" fH)
    {cdv : Value} {A : Around} {outer : List Env} {s : Shared} {H : Hp} {vs : List V} {Q : VK} {E : XK} (hr : Room 6 (A.deeper (envOfC "Times.__init__" (defScope sTimesI) s.heap.objs.size fa cdv))) (h : spTimesJ K c C vs H Q E) :
    ∃ t, PSs (cxOf (L2.CX P w) P w K mg base ["self", "number", "items"] "Times.__init__" (defScope sTimesI) fa cdv A outer s H E) (defBody sTimesI) t ∧ t { nx := fun _ H' => Q .non H', rt := Q } (start ["self", "number", "items"] vs) H := by
  have GC : FnOk P w K mg base (L2.CX P w) 4 fC fdC ["items", "depth"] (spChk K c C) := ok_check Z.FC T B R Z.FD Z.bD Z.gD Z.FO Z.bO Z.gO
  have GB : FnR P w K mg base (L2.CX P w) 5 fI (spBodyI K c C) := ok_bodyI FI T B R Z
  have GW : FnOk P w K mg base CX0 2 fW fdW ["value", "least", "most"] (spWithin K) := ok_within FW T1 U FH bH gH
  have GT : FnOk P w K mg base CX0 1 tB dB ["self"] (spTxBody c) := ok_bodyT Z.X.body B
  obtain ⟨H0, x, dx, t, nv, d, xs, os, rfl, S, n0, hx, ht, hk, hI, hl, kN, kE, kQ⟩ := h
  have hr4 : Room 4 _ := hr.mono (by decide)
  have hr2 : Room 2 _ := hr.mono (by decide)
  have hr1 : Room 1 _ := hr.mono (by decide)
  refine ⟨_, pss_cons (ps_if (pt_not (pt_val (pe_call GW hr2 rfl gW.g gW.k bW .nil pass0 (pa_cons (pv 1) (pa_cons pe_int (pa_cons (pe_cst rfl B.number) pa_nil)))))) (pss_one (ps_raise rfl (takes_of rfl rfl rfl rfl) (pmk_one (basC 0) (R.one 0 (by decide)) (R.ty 0 (by decide)) hr1 (R.g 0 (by decide)) (pa_cons pe_str pa_nil)))) pss_nil)
    (pss_cons (ps_expr (pe_call GC hr4 rfl Z.gC.g Z.gC.k Z.bC .nil (passes_call (takes_of rfl rfl rfl rfl) (fun _ _ _ _ h => h)) (pa_cons (pv 2) (pa_cons (pe_op op_sub (pe_cst rfl B.depth) pe_int) pa_nil))))
    (pss_cons (ps_fld (pv 0) (pv 1) rfl)
    (pss_cons (ps_fld (pv 0) (pe_makeR1 MB GB hr rfl B.gBody (passes_call (takes_of rfl rfl rfl rfl) (fun _ _ _ _ h => h)) (pv 2)) rfl)
    (pss_one (ps_fld (pv 0) (pe_joined (.cons (pe_fmt (pv 1)) (.cons pe_str (.cons (pe_fmt (pe_meth0 (pe_fld (pv 0) rfl) B.body.cl Z.M.body GT hr1 Z.X.bB .nil pass0)) (.cons pe_str .nil))))) rfl))))), ?_⟩
  refine ⟨_, rfl, nv, d, 0, 1000000000, rfl, Kd.keep (.same S) hk, _, rfl, ?_⟩
  cases e : withinD 0 1000000000 d with
  | false => exact iteT ⟨_, rfl, fun dd hdd => kN e H dd S hdd⟩
  | true =>
    refine iteF ⟨_, rfl, _, _, rfl, rfl, t, xs, os, _, rfl, SqT.of ht, hI.keep (.same S), hl, fun j y z => (kE e j y z).same S, fun hc H1 S1 => ?_⟩
    obtain ⟨n, rfl, n1, n2⟩ := withinD_true e
    have en := hk.nu n rfl
    subst en
    obtain ⟨its, rfl, hio, hw2, h6, hd⟩ := chk_none hc hI
    have hd1 : dIs its ≤ 1 := by
      have hd' : ((dIs its : Nat) : Int) ≤ 2 - 1 := hd
      omega
    have hw : ItsW 1 its := ItsW.up hd1 hw2.fit
    have hx1 := S1 _ _ hx
    have ht1 := S1 _ _ ht
    have tx : t ≠ x := ne_of ht hx (by intro z; cases z)
    have S01 : Same H0 H1 := S.trans S1
    have keepx : ∀ {Hk : Hp} {o : HO}, Same H0 Hk → Same H0 (upd Hk x o) := fun {Hk o} S b u e => by
      rw [upd_ne (ne_of_none e n0)]
      exact S _ _ e
    refine ⟨_, rfl, _, rfl, x, c.times, dx, [], rfl, hx1, B.times.cl, B.nNum, (by show 0 < 1000; decide), ?_⟩
    have S2 : Same H0 (upd H1 x (.ins c.times dx (putF "number" (.int n) []))) := keepx S01
    have ht2 : upd H1 x (.ins c.times dx (putF "number" (.int n) [])) t = some (.tup xs) := by rw [upd_ne tx]; exact ht1
    have hx2 : upd H1 x (.ins c.times dx (putF "number" (.int n) [])) x = some (.ins c.times dx (putF "number" (.int n) [])) := upd_same
    generalize upd H1 x (.ins c.times dx (putF "number" (.int n) [])) = H2 at S2 ht2 hx2 ⊢
    refine ⟨_, rfl, t, xs, rfl, .inl (SqT.of ht2), fun b db nb ndb neb => ?_⟩
    have S3 : Same H2 (upd (upd H2 db (.own b)) b (.ins c.body db [])) := fun q o h => by
      rw [upd_ne (ne_of_none h nb), upd_ne (ne_of_none h ndb)]
      exact h
    refine ⟨H2, b, db, xs, its.map some, rfl, S3, nb, upd_same, hI.keep (.same S2), hl, fun j y z => ?_, fun _ its' H4 eo hw' h6' S4 hB => ⟨rfl, ?_⟩⟩
    · rw [chk_ok h6 (by omega)] at z
      cases z
    · have : its' = its := by
        have := congrArg goods eo
        rw [goods_map, goods_map] at this
        exact this.symm
      subst this
      refine ⟨_, rfl, x, c.times, dx, _, rfl, S4 _ _ hx2, B.times.cl, B.nBod, (by show 1 < 1000; decide), ?_⟩
      have bx : b ≠ x := (ne_of_none hx2 nb).symm
      have S5 : Same H0 (upd H4 x (.ins c.times dx (putF "body" (.ref b) (putF "number" (.int n) [])))) := keepx (S2.trans S4)
      have hx4 : H4 x = some (.ins c.times dx [("number", .int n)]) := S4 _ _ hx2
      have hB5 : Bo c (upd H4 x (.ins c.times dx (putF "body" (.ref b) (putF "number" (.int n) [])))) b its' := hB.keep (.half hx4 (not_whole1 n) ((But.refl x H4).upd _))
      have hx5 : upd H4 x (.ins c.times dx (putF "body" (.ref b) (putF "number" (.int n) []))) x = some (.ins c.times dx (putF "body" (.ref b) (putF "number" (.int n) []))) := upd_same
      rw [fTimes_put2] at hB5 hx5 S5 ⊢
      generalize upd H4 x (.ins c.times dx [("number", .int n), ("body", .ref b)]) = H5 at S5 hB5 hx5 ⊢
      have hB5' := hB5
      cases hB5 with
      | mk q1 q2 q3 =>
        rename_i db2 e2 vs2
        have m8 : sizeLine = 16777216 := rfl
        have nl : (PySem.Str.ofString (toString n)).length ≤ 10 := toString_length_le n1 (by decide) (by omega)
        have bl := txB_len hw h6
        have b1 : bI 1 = 166 := by decide
        have l0 : (PySem.Str.empty).length = 0 := rfl
        have l1 : (("(" : PySem.Str)).length = 1 := by decide +kernel
        have l2 : ((")" : PySem.Str)).length = 1 := by decide +kernel
        refine ⟨_, rfl, .inr ⟨n, rfl, log_ok n1 n2, _, rfl, ?_, _, rfl, ?_, _, rfl, x, c.times, dx, _, _, rfl, hx5, B.times.cl, B.nBod, rfl, b, db2, _, rfl, q1, rfl, b, db2, e2, _, txB its', rfl, q1, .inl ⟨_, rfl, ?_, _, rfl, ?_, _, rfl, ?_, ?_⟩⟩⟩
        · rw [Str.length_append]; omega
        · rw [Str.length_append, Str.length_append]; omega
        · omega
        · rw [Str.length_append, Str.length_append, Str.length_append]; omega
        · rw [Str.length_append, Str.length_append, Str.length_append, Str.length_append]; omega
        · refine ⟨_, rfl, x, c.times, dx, _, rfl, hx5, B.times.cl, B.nTxt, (by show 2 < 1000; decide), ?_⟩
          refine kQ e hc n its' _ rfl rfl (.times n1 n2 h6 hw) (keepx S5) (.times (dx := dx) (b := b) ?_ ?_)
          · rw [upd_same, fTimes_put3]
            rw [txI]
            rfl
          · exact hB5'.keep (.half hx5 (not_whole2 _ _) ((But.refl x H5).upd _))
end
end KP
end

section
set_option Elab.async false
set_option linter.all false
set_option maxRecDepth 100000
set_option maxHeartbeats 4000000
namespace KP
open PySem PySem.Spec PyProof.Rows L2 Pn StX
abbrev sMade : Stmt := top 87
theorem passF {X : Cx} : Passes (L2.CX X.prog X.w) X (fun _ _ _ => False) := passes_call LamX.takes0 (fun _ _ _ _ h => h)
/-- the makers, found by their names -/
structure InsT (K : PySem.W.Frag) (mg : PySem.Str → Option Value) (c : Cs) (iS iP iG iT iB fW fN fH : Addr) (eS eP eG eT eB fdW fdN fdH : FuncData) : Prop where
  say : Fun K "__init__" "Say.__init__" sSayI iS eS
  press : Fun K "__init__" "Press.__init__" sPressI iP eP
  go : Fun K "__init__" "Go.__init__" sGoI iG eG
  times : Fun K "__init__" "Times.__init__" sTimesI iT eT
  body : Fun K "__init__" "Body.__init__" sBodyI iB eB
  bS : Binds K eS ["self", "command"] []
  bP : Binds K eP ["self", "key"] []
  bG : Binds K eG ["self", "mode"] []
  mS : Mk K c.say iS
  mP : Mk K c.press iP
  mG : Mk K c.go iG
  mT : Mk K c.times iT
  mB : Mk K c.body iB
  FW : Fun K "is_word" "is_word" sIsWordV fW fdW
  bW : Binds K fdW ["value"] []
  gW : Fn K mg "is_word" fW
  FN : Fun K "is_within" "is_within" sWithin fN fdN
  bN : Binds K fdN ["value", "least", "most"] []
  gN : Fn K mg "is_within" fN
  FH : Fun K "is_whole" "is_whole" sWhole fH fdH
  bH : Binds K fdH ["value"] []
  gH : Fn K mg "is_whole" fH
/-- a class method of a class -/
structure ClsT (K : PySem.W.Frag) (C : Addr) (mc : Value) (p g : Addr) (fd : FuncData) (ps : List PySem.Str) : Prop where
  rd : ClX.CRead K C mc
  mt : ClX.CMet K C mc "of" p g
  b : Binds K fd ps []
section
variable {P : Program} {w : World} {K : PySem.W.Frag} {mg : Str → Option Value} {base : Heap} {fD pD fO fC tS tP tG tT tB fa iS iP iG iT iB fW fN fH : Addr} {fdD fdO fdC dS dP dG dT dB eS eP eG eT eB fdW fdN fdH : FuncData} {c : Cs} {C : Nat → Addr}
theorem ok_timesI (T : Blt3 mg) (T1 : Blt mg) (U : Blt2 mg) (B : BodT K mg c) (R : ErrT K mg C tclass) (Z : MakT K mg c fD pD fO fC tS tP tG tT tB fdD fdO fdC dS dP dG dT dB) (Y : InsT K mg c iS iP iG iT iB fW fN fH eS eP eG eT eB fdW fdN fdH) : FnR P w K mg base (L2.CX P w) 7 iT (spTimesI K c C) := by
  obtain ⟨oc, od, kV, doc, pm, an, cdv, ct, osl, e0, lk, hcd⟩ := Y.times.ex
  subst e0
  refine FnR.imp (fn_star (ps := ["self", "number"]) (pv := "items") (sp := spTimesJ K c C) lk hcd scTimesI cxUp (bind_star2 (B := fun us => bindArgs (PySem.W.fnOf "__init__" "Times.__init__" (defArgs sTimesI) (defBody sTimesI) (defScope sTimesI) .none kV doc pm an cdv ct) ⟨us, []⟩) (fun a b => rfl) (fun a b r rs => rfl))
    (fun A outer s H vs Q E hr h => timesI_body Y.body Y.mB T T1 U B R Z Y.FN Y.bN Y.gN Y.FH Y.bH Y.gH hr h)) (fun vs H Q E h => ?_)
  obtain ⟨H0, x, dx, nv, d, xs, os, rfl, S, n0, hx, hk, hI, hl, kN, kE, kQ⟩ := h
  refine ⟨[.ref x, nv], xs, rfl, rfl, Nat.le_trans hl (by decide), fun p hp => ?_⟩
  exact ⟨H0, x, dx, p, nv, d, xs, os, rfl, S.trans (same_new hp), n0, by rw [upd_ne (ne_of_none hx hp)]; exact hx, upd_same, hk, hI, hl, kN, kE, kQ⟩
theorem scBodyO : FnScope ["cls", "items"] ["cls", "items"] (defScope sBodyO) := ⟨rfl, rfl, rfl, by decide +kernel, rfl, by decide +kernel, by decide +kernel⟩
theorem scTimesO : FnScope ["cls", "number", "items"] ["cls", "number", "items"] (defScope sTimesO) := ⟨rfl, rfl, rfl, by decide +kernel, rfl, by decide +kernel, by decide +kernel⟩
theorem ok_bodyO {f : Addr} {fd : FuncData} (F : Fun K "of" "Body.of" sBodyO f fd) (T : Blt3 mg) (B : BodT K mg c) (R : ErrT K mg C tclass) (Z : MakT K mg c fD pD fO fC tS tP tG tT tB fdD fdO fdC dS dP dG dT dB) (Y : InsT K mg c iS iP iG iT iB fW fN fH eS eP eG eT eB fdW fdN fdH) :
    FnOk P w K mg base (L2.CX P w) 7 f fd ["cls", "items"] (spBodyOf K c C) := by
  have GB : FnR P w K mg base (L2.CX P w) 5 iB (spBodyI K c C) := ok_bodyI Y.body T B R Z
  refine F.okX scBodyO (fun vs H Q E h => ?_) (fun cdv A outer s H vs Q E hr h => ?_)
  · obtain ⟨l, xs, os, rfl, _⟩ := h
    rfl
  · obtain ⟨l, xs, os, rfl, hS, hI, hl, kE, kQ⟩ := h
    have hr6 : Room 6 _ := hr
    refine ⟨_, pss_one (ps_ret (pe_makeL1 (i := 0) Y.mB GB hr6 rfl (Or.inl rfl) (passes_call (takes_of rfl rfl rfl rfl) (fun _ _ _ _ h => h)) (pv 1))), ?_⟩
    refine ⟨rfl, _, rfl, l, xs, rfl, hS, fun x dx nx ndx ne => ?_⟩
    have S : Same H (upd (upd H dx (.own x)) x (.ins c.body dx [])) := fun q o h => by
      rw [upd_ne (ne_of_none h nx), upd_ne (ne_of_none h ndx)]
      exact h
    exact ⟨H, x, dx, xs, os, rfl, S, nx, upd_same, hI, hl, kE, fun hc its H' eo hw h6 S' hB => ⟨rfl, kQ hc its H' x eo hw h6 S' nx hB⟩⟩
theorem ok_timesO {f : Addr} {fd : FuncData} (F : Fun K "of" "Times.of" sTimesO f fd) (T : Blt3 mg) (T1 : Blt mg) (U : Blt2 mg) (B : BodT K mg c) (R : ErrT K mg C tclass) (Z : MakT K mg c fD pD fO fC tS tP tG tT tB fdD fdO fdC dS dP dG dT dB) (Y : InsT K mg c iS iP iG iT iB fW fN fH eS eP eG eT eB fdW fdN fdH) :
    FnOk P w K mg base (L2.CX P w) 9 f fd ["cls", "number", "items"] (spTimesOf K c C) := by
  have GT : FnR P w K mg base (L2.CX P w) 7 iT (spTimesI K c C) := ok_timesI T T1 U B R Z Y
  refine F.okX scTimesO (fun vs H Q E h => ?_) (fun cdv A outer s H vs Q E hr h => ?_)
  · obtain ⟨nv, d, l, xs, os, rfl, _⟩ := h
    rfl
  · obtain ⟨nv, d, l, xs, os, rfl, hk, hS, hI, hl, kN, kE, kQ⟩ := h
    have hr8 : Room 8 _ := hr
    refine ⟨_, pss_one (ps_ret (pe_makeL2 (i := 0) Y.mT GT hr8 rfl (Or.inl rfl) (passes_call (takes_of rfl rfl rfl rfl) (fun _ _ _ _ h => h)) (pa_cons (pv 1) (pa_star (pv 2) pa_nil)))), ?_⟩
    refine ⟨rfl, _, rfl, _, rfl, l, xs, rfl, hS, fun x dx nx ndx ne => ?_⟩
    have S : Same H (upd (upd H dx (.own x)) x (.ins c.times dx [])) := fun q o h => by
      rw [upd_ne (ne_of_none h nx), upd_ne (ne_of_none h ndx)]
      exact h
    exact ⟨H, x, dx, nv, d, xs, os, by rw [List.append_nil], S, nx, upd_same, hk, hI, hl, kN, kE, fun hn hc n its H' en eo hw S' hB => ⟨rfl, kQ hn hc n its H' x en eo hw S' nx hB⟩⟩
/-! ### the law's makers -/
def spMade (c : Cs) (D : Nat) : Sp := fun vs H Q _ => ∃ (v : V) (it : Itm) (Bp : Addr → Prop), vs = [v] ∧ Rp Bp H v it ∧ ItOk D it ∧ ∀ u H', Same H H' → Io c H' u it → Q u H'
def spMadeP (c : Cs) : Nat → Sp
  | 0 => spNo
  | d + 1 => spMade c d
theorem scMade : FnScope ["_law_one", "_law_inner"] ["_law_one"] (defScope sMade) := ⟨rfl, rfl, rfl, by decide +kernel, rfl, by decide +kernel, by decide +kernel⟩
theorem ok_made1 (D : Nat) (hD : D ≤ 2) {f fZ gO pO : Addr} {fd fdZ fdGO : FuncData} {mc : Value} (F : Fun K "_law_made" "_law_made" sMade f fd) (T : Blt3 mg) (T1 : Blt mg) (U : Blt2 mg) (B : BodT K mg c) (R : ErrT K mg C tclass) (Z : MakT K mg c fD pD fO fC tS tP tG tT tB fdD fdO fdC dS dP dG dT dB) (Y : InsT K mg c iS iP iG iT iB fW fN fH eS eP eG eT eB fdW fdN fdH)
    (FO : Fun K "of" "Times.of" sTimesO gO fdGO) (CT : ClsT K c.times mc pO gO fdGO ["cls", "number", "items"]) (GZ : FnOk P w K mg base CX0 (9 + D) fZ fdZ ["_law_one"] (spMadeP c D)) (bZ : Binds K fdZ ["_law_one"] []) (gZ : Fn K mg "_law_made" fZ) :
    FnOk P w K mg base CX0 (10 + D) f fd ["_law_one"] (spMade c D) := by
  have GS : FnOk P w K mg base (L2.CX P w) 2 iS eS ["self", "command"] (spOneI K C c.say "command") := ok_sayI Y.say T1 U Y.FW Y.bW Y.gW B R
  have GP : FnOk P w K mg base (L2.CX P w) 2 iP eP ["self", "key"] (spOneI K C c.press "key") := ok_pressI Y.press T1 U Y.FW Y.bW Y.gW B R
  have GG : FnOk P w K mg base (L2.CX P w) 2 iG eG ["self", "mode"] (spOneI K C c.go "mode") := ok_goI Y.go T1 U Y.FW Y.bW Y.gW B R
  have GT : FnR P w K mg base (L2.CX P w) 9 gO (spTimesOf K c C) := FnR.imp (FnOk.raw (ok_timesO FO T T1 U B R Z Y) CT.b .nil) (fun vs H Q E h => by rw [List.append_nil]; exact h)
  rw [show 10 + D = (9 + D) + 1 by omega]
  refine F.ok scMade (fun vs H Q E h => ?_) (fun cdv A outer s H vs Q E hr h => ?_)
  · obtain ⟨v, it, Bp, rfl, _⟩ := h
    rfl
  · obtain ⟨v, it, Bp, rfl, hR, hO, q⟩ := h
    have hrZ : Room (9 + D) _ := hr
    have hr9 : Room 9 _ := hr.mono (by omega)
    have hr3 : Room 3 _ := hr.mono (by omega)
    refine ⟨_, pss_cons (ps_if (pt_cmpR op_eq (pe_ix (r := rIxT K) ix_tup (pv 0) pe_int (fun _ _ => rfl)) pe_str (nomark _)) (pss_one (ps_ret (pe_make Y.mS GS hr3 rfl B.gSay Y.bS .nil passF (pa_cons (pe_ix (r := rIxT K) ix_tup (pv 0) pe_int (fun _ _ => rfl)) pa_nil)))) pss_nil)
      (pss_cons (ps_if (pt_cmpR op_eq (pe_ix (r := rIxT K) ix_tup (pv 0) pe_int (fun _ _ => rfl)) pe_str (nomark _)) (pss_one (ps_ret (pe_make Y.mP GP hr3 rfl B.gPress Y.bP .nil passF (pa_cons (pe_ix (r := rIxT K) ix_tup (pv 0) pe_int (fun _ _ => rfl)) pa_nil)))) pss_nil)
      (pss_cons (ps_if (pt_cmpR op_eq (pe_ix (r := rIxT K) ix_tup (pv 0) pe_int (fun _ _ => rfl)) pe_str (nomark _)) (pss_one (ps_ret (pe_make Y.mG GG hr3 rfl B.gGo Y.bG .nil passF (pa_cons (pe_ix (r := rIxT K) ix_tup (pv 0) pe_int (fun _ _ => rfl)) pa_nil)))) pss_nil)
      (pss_one (ps_ret (ClX.pe_cmeth (pe_glob (v := .ref c.times) rfl B.gTimes rfl) CT.rd CT.mt GT hr9 passF (pa_cons (pe_ix (r := rIxT K) ix_tup (pv 0) pe_int (fun _ _ => rfl)) (pa_cons (pe_lc (own := [("_law_inner", 1)]) (g := gName 1) (tt := tYes) rfl scMade.nd (pi_list (pe_ix (r := rIxT K) ix_tup (pv 0) pe_int (fun _ _ => rfl))) (blkOk_by (N := ["_law_one", "_law_inner"]) (sc := defScope sMade) (by decide +kernel)) (fun _ _ _ _ _ => pg_name (i := 1) scMade.nd rfl (Or.inl rfl)) (fun _ _ _ _ _ => pts_nil)
        (fun _ _ _ _ _ => pe_call GZ hrZ rfl gZ.g gZ.k bZ .nil pass0 (pa_cons (pv 1) pa_nil))) pa_nil))))))), ?_⟩
    have one : ∀ (cls : Addr) (fn : PySem.Str) (z : PySem.Str) (hw : Wd z) (x dx : Addr), H x = none → H dx = none → dx ≠ x → (∀ H', Same H H' → H' x = some (.ins cls dx [(fn, .str z)]) → Q (.ref x) H') →
        spOneI K C cls fn [.ref x, .str z] (upd (upd H dx (.own x)) x (.ins cls dx [])) (fun v H2 => v = .non ∧ Q (.ref x) H2) (fun _ _ _ => False) := fun cls fn z hw x dx nx ndx ne k => by
      have S : Same H (upd (upd H dx (.own x)) x (.ins cls dx [])) := fun q o h => by
        rw [upd_ne (ne_of_none h nx), upd_ne (ne_of_none h ndx)]
        exact h
      refine ⟨H, x, dx, .str z, .str z, rfl, S, nx, upd_same, Kd.str z, fun y e => ?_, fun e => ?_, fun y H' e hw' S' hx' => ?_⟩
      · cases e
        have := wd_len hw
        omega
      · have : wdB z = true := (wdB_iff z).mpr hw
        have e' : wdB z = false := e
        rw [this] at e'
        cases e'
      · cases e
        exact ⟨rfl, k H' S' hx'⟩
    cases hR with
    | say _ h =>
      cases hO with
      | say hw =>
        refine ⟨_, rfl, _, _, 0, _, rfl, rfl, SqT.of h, atI_nat rfl, rfl, _, rfl, iteT ?_⟩
        refine ⟨_, rfl, _, _, 1, _, rfl, rfl, SqT.of h, atI_nat rfl, fun x dx nx ndx ne => one _ _ _ hw x dx nx ndx ne (fun H' S' hx => q _ H' S' (.say hx))⟩
    | press _ h =>
      cases hO with
      | press hw =>
        refine ⟨_, rfl, _, _, 0, _, rfl, rfl, SqT.of h, atI_nat rfl, rfl, _, rfl, iteF ?_⟩
        refine ⟨_, rfl, _, _, 0, _, rfl, rfl, SqT.of h, atI_nat rfl, rfl, _, rfl, iteT ?_⟩
        refine ⟨_, rfl, _, _, 1, _, rfl, rfl, SqT.of h, atI_nat rfl, fun x dx nx ndx ne => one _ _ _ hw x dx nx ndx ne (fun H' S' hx => q _ H' S' (.press hx))⟩
    | go _ h =>
      cases hO with
      | go hw =>
        refine ⟨_, rfl, _, _, 0, _, rfl, rfl, SqT.of h, atI_nat rfl, rfl, _, rfl, iteF ?_⟩
        refine ⟨_, rfl, _, _, 0, _, rfl, rfl, SqT.of h, atI_nat rfl, rfl, _, rfl, iteF ?_⟩
        refine ⟨_, rfl, _, _, 0, _, rfl, rfl, SqT.of h, atI_nat rfl, rfl, _, rfl, iteT ?_⟩
        refine ⟨_, rfl, _, _, 1, _, rfl, rfl, SqT.of h, atI_nat rfl, fun x dx nx ndx ne => one _ _ _ hw x dx nx ndx ne (fun H' S' hx => q _ H' S' (.go hx))⟩
    | @times t l n vs its _ _ h g r =>
      cases D with
      | zero => cases hO
      | succ d =>
        cases hO with
        | times n0 n1 n3 hO' =>
          refine ⟨_, rfl, _, _, 0, _, rfl, rfl, SqT.of h, atI_nat rfl, rfl, _, rfl, iteF ?_⟩
          refine ⟨_, rfl, _, _, 0, _, rfl, rfl, SqT.of h, atI_nat rfl, rfl, _, rfl, iteF ?_⟩
          refine ⟨_, rfl, _, _, 0, _, rfl, rfl, SqT.of h, atI_nat rfl, rfl, _, rfl, iteF ?_⟩
          refine ⟨rfl, _, rfl, _, _, 1, _, rfl, rfl, SqT.of h, atI_nat rfl, _, rfl, _, _, 2, _, rfl, rfl, SqT.of h, atI_nat rfl, l, rfl, ⟨_, SqL.of g⟩, fun L hLn => ?_⟩
          have hx := r.len
          refine lc_list (xs := vs) (fun i Hk => Same H Hk ∧ ∃ us, Hk L = some (.lst us) ∧ us.length = i ∧ Ios c Hk us (its.take i)) ⟨same_new hLn, [], upd_same, rfl, by rw [List.take_zero]; exact .nil⟩ (fun i Hk _ h => SqL.of (h.1 _ _ g)) ?_ ?_
          · rintro i x Hk hxi ⟨hS, us, hLk, hlen, hU⟩
            have hRk := r.same hS
            obtain ⟨it2, hit, hr0⟩ := hRk.get hxi
            have hok := hO'.get hit
            have tk : its.take (i + 1) = its.take i ++ [it2] := by
              rw [List.take_add_one, hit]; rfl
            have il : i < vs.length := (List.getElem?_eq_some_iff.mp hxi).1
            refine ⟨rfl, _, rfl, x, it2, _, rfl, hr0, hok, fun u H' S' hio => ?_⟩
            refine ⟨us, S' _ _ hLk, by rw [hlen]; show i < 16777216; omega, fun b o e => ?_, us ++ [u], upd_same, by rw [List.length_append, hlen]; rfl, ?_⟩
            · rw [upd_ne (ne_of_none e hLn)]
              exact S' _ _ (hS _ _ e)
            · rw [tk]
              have kp : Kept H' (upd H' L (.lst (us ++ [u]))) := ⟨fun a C2 dx2 fs2 _ e => by rw [upd_ne (ne_of e (S' _ _ hLk) (by intro z; cases z))]; exact e, fun a ys e => by rw [upd_ne (ne_of e (S' _ _ hLk) (by intro z; cases z))]; exact e⟩
              exact ((hU.keep (.same S')).keep kp).app (.cons (hio.keep kp) .nil)
          · rintro Hk ⟨hS, us, hLk, hlen, hU⟩
            have tl : its.take vs.length = its := List.take_of_length_le (by omega)
            rw [tl] at hU
            have hw : ItsW d its := hO'.w
            have wn : withinD 0 1000000000 (.int n) = true := by
              show (decide (0 ≤ n) && decide (n ≤ 1000000000)) = true
              rw [decide_eq_true n0, decide_eq_true n1]
              rfl
            have hc : chk (its.map some) 1 = none := chk_ok (by omega) (by have := hw.dIs; omega)
            refine ⟨.int n, .int n, L, us, its.map some, rfl, Kd.int n, .inr (SqL.of hLk), Ents.ofIos hU (hw.up (by omega)), by omega, fun e => ?_, fun _ j y e => ?_, fun _ _ n' its' H' x en eo hw' S' nx hB => ?_⟩
            · rw [wn] at e; cases e
            · rw [hc] at e; cases e
            · cases en
              have : its' = its := by
                have := congrArg goods eo
                rw [goods_map, goods_map] at this
                exact this.symm
              subst this
              exact q _ H' (hS.trans S') hB
theorem ok_made {f gO pO : Addr} {fd fdGO : FuncData} {mc : Value} (F : Fun K "_law_made" "_law_made" sMade f fd) (T : Blt3 mg) (T1 : Blt mg) (U : Blt2 mg) (B : BodT K mg c) (R : ErrT K mg C tclass) (Z : MakT K mg c fD pD fO fC tS tP tG tT tB fdD fdO fdC dS dP dG dT dB) (Y : InsT K mg c iS iP iG iT iB fW fN fH eS eP eG eT eB fdW fdN fdH)
    (FO : Fun K "of" "Times.of" sTimesO gO fdGO) (CT : ClsT K c.times mc pO gO fdGO ["cls", "number", "items"]) (bZ : Binds K fd ["_law_one"] []) (gZ : Fn K mg "_law_made" f) :
    FnOk P w K mg base CX0 12 f fd ["_law_one"] (spMade c 2) := by
  have a0 := ok_made1 (P := P) (w := w) (base := base) 0 (by decide) F T T1 U B R Z Y FO CT (fZ := f) (fdZ := fd) ok_no bZ gZ
  have a1 := ok_made1 (P := P) (w := w) (base := base) 1 (by decide) F T T1 U B R Z Y FO CT a0 bZ gZ
  exact ok_made1 (P := P) (w := w) (base := base) 2 (by decide) F T T1 U B R Z Y FO CT a1 bZ gZ
end
end KP
end

section
set_option Elab.async false
set_option linter.all false
set_option maxRecDepth 100000
set_option maxHeartbeats 2000000
/-! len(x) of a class of the text with its own __len__. -/
namespace L2
open PySem PySem.Spec PyProof.Rows
def rLenO (C : Addr) (sp : Sp) (E : XK) : List V → Hp → VK → Prop := fun xs H Q => ∃ a dx fs, xs = [.ref a] ∧ H a = some (.ins C dx fs) ∧ sp [.ref a] H (fun v H2 => ∃ n : Int, v = .int n ∧ 0 ≤ n ∧ n < 2 ^ 63 ∧ Q (.int n) H2) E
theorem call_lenO {X : Cx} {CX : CXT} {k : Nat} {C f : Addr} {fd : FuncData} {ps : List Str} {sp : Sp} {E : XK} (hs : PySem.W.findIn X.K (.ref C) "__len__" = some (some (.ref f))) (hf : PySem.W.isFn X.K (.ref f) = true) (F : FnOk X.prog X.w X.K X.mg X.base CX k f fd ps sp) (hr : Room (k + 1) X.A) (hb : Binds X.K fd ps []) (hx : Passes CX X E) : CallR X (.builtin "len") (rLenO C sp E) := by
  intro pins s σ H xs us Q I r h
  obtain ⟨a, dx, fs, rfl, ha, hp⟩ := h
  obtain ⟨u, rfl, ru⟩ := vals1 r
  obtain rfl : u = Value.ref a := ru
  obtain ⟨m, hF⟩ := I.fr
  obtain ⟨mA, O, _, _, _, _⟩ := ins_get I.hok ha
  obtain ⟨od, J, _⟩ := O.look
  refine PySem.W.len_K hF I.ok.mod.kin J hs hf ?_
  have hl := F.len _ _ _ _ hp
  refine wpAny_call (codeAny_mono (F.run X.A.in1 X.stack s H ⟨[.ref a], []⟩ [.ref a] [.ref a] _ E hr.in1 I.env0.in1 (by
    have := hb s [.ref a] I.kIn (by simpa using hl)
    simpa using this) (.cons rfl .nil) hp) fun r s' hq => ?_)
  cases r with
  | error e => exact hx pins σ H s e s' I hq
  | ok fl =>
    cases fl with
    | ret w =>
      obtain ⟨z, H', I', rz, n, rfl, h0, h1, q⟩ := I.after hq
      obtain ⟨t, rfl⟩ := rz
      exact ⟨⟨h0, h1⟩, .int n, H', I'.tok _, ⟨_, rfl⟩, q⟩
    | next => exact False.elim hq
    | brk => exact False.elim hq
    | cont => exact False.elim hq
end L2
end

section
set_option Elab.async false
set_option linter.all false
set_option maxRecDepth 100000
set_option maxHeartbeats 2000000
/-! != of an instance whose class has an own __eq__ and no __ne__. -/
namespace PySem.W
open PySem PySem.Calls PyProof.Rows Builtin
section
variable {prog : Program} {w : World} {A : Around} {E : Value → Shared → Prop} {s : Shared} {K : Frag} {x C L f : Addr} {h₀ : Heap} {m : Str → Option Value} {ox : Obj} {od : Option Obj}
theorem ifBound_blt {M : Model} {name : Str} {id : String} {args : List Value} {Q : Option Value → Shared → Prop} (X : K.In s.heap) (I : InstAt s.heap x ox C od) (hs : findIn K (.ref C) name = some (some (.builtin id))) (hb : bindSpecial (.builtin id) (.ref x) = pure (.builtin id, [.ref x]))
    (h : wpAny M A (call (.builtin id) (.ref x :: args)) (fun v => Q (some v)) E s) : wpAny M A (callSpecialIfBound? (.ref x) name args) Q E s := by
  simp only [callSpecialIfBound?, bindSpecialIfBound?]
  refine wpAny_holding (wpAny_bind (wpAny_bind (wpAny_bind (I.type.here ((looks_findIn X hs).here ?_)))))
  simp only [hb]
  refine wpAny_bind (wpAny_askSetting (wpAny_ite ?_))
  have fin : wpAny M A (call (.builtin id) ([.ref x] ++ args) >>= fun v => pure (some v)) Q E s := wpAny_bind (wpAny_mono h (fun v s' h' => wpAny_pure h') fun _ _ h' => h')
  split
  · exact wpAny_bind (wpAny_pure (wpAny_pure (by exact fin)))
  · exact wpAny_tryCatch (wpAny_bind (wpAny_pure (wpAny_pure (by exact fin))))
theorem slot_ne : Slot "object" "__ne__" "object.__ne__" := PySem.F.cmp_object.ne
theorem objNe_K {Q : Fin → Shared → Prop} {b : Value} (hu : A.units < cLine) (X : K.In s.heap) (I : InstAt s.heap x ox C od) (hs : findIn K (.ref C) "__eq__" = some (some (.ref f))) (hf : isFn K (.ref f) = true)
    (h : wpAny (model prog w) A (call (.ref f) [.ref x, b]) (fun v s' => ∃ c, v = .bool c ∧ Q (.done (.ret (.bool (!c)))) s') E s) : wpAny (model prog w) A (Builtin.«object.__ne__» ⟨[.ref x, b], []⟩) Q E s := by
  unfold Builtin.«object.__ne__»
  repeat (first
    | with_reducible refine wpAny_cRoomFor hu ?_
    | (refine wpAny_bind (m := callSpecialIfBound? (.ref x) (Str.ofString "__eq__") [b])
        (ifBound_K X I hs hf (wpAny_mono h (fun r s' hr => by
          obtain ⟨c, rfl, hq⟩ := hr
          repeat (first | exact hq | exact wpAny_pure hq | exact wpAny_truthy_bool hq | (refine wpAny_bind (m := truthy (.bool _)) (wpAny_truthy_bool ?_)) | wp_step)) fun _ _ e => e)))
    | wp_step)
theorem ne_K {Q : Value → Shared → Prop} {b tb : Value} (hu : A.units + 1 < cLine) (F : Fr h₀ L s.heap m) (X₀ : K.In h₀) (I : InstAt s.heap x ox C od) (hb : Looks (model prog w) s.heap (typeOf b) tb) (hn : notFirst K C tb = true)
    (ho : mroIn K C (.type "object") = some true) (hne : findIn K (.ref C) "__ne__" = some (some (.builtin "object.__ne__")))
    (hs : findIn K (.ref C) "__eq__" = some (some (.ref f))) (hf : isFn K (.ref f) = true)
    (h : wpAny (model prog w) A.in1 (call (.ref f) [.ref x, b]) (fun v s' => ∃ c, v = .bool c ∧ Q (.bool (!c)) s') E s) : wpAny (model prog w) A (richCompare .NotEq (.ref x) b) Q E s := by
  have X := X₀.keeps F.keep
  have inst : Looks (model prog w) s.heap (isInstance (.ref x) (.type "object")) true := I.type.andThen (looks_mroIn X ho)
  have one : wpAny (model prog w) A (tryCompare (.ref x) (cmpInfo .NotEq).2.1 b) (fun r s' => ∃ v, r = some v ∧ Q v s') E s := by
    unfold tryCompare
    refine wpAny_bind (ifBound_blt X I hne (slot_ne.bind _) (wpAny_call (codeAny_call_builtin slot_ne.plain PySem.F.cmpEntry_ne (check_slot PySem.F.cmpKind_ne PySem.F.cmpSplit_ne inst (PySem.F.cmpArgs_ne _ _)
      (objNe_K (A := A.in1) hu X I hs hf (wpAny_mono h (fun v s' hv => ?_) fun _ _ e => e))))))
    obtain ⟨c, rfl, hq⟩ := hv
    exact ⟨c, rfl, wpAny_pure ⟨_, rfl, hq⟩⟩
  unfold richCompare
  simp only [oneThing_ref]
  refine wpAny_holding (wpAny_bind (wpAny_cRoomFor (Nat.lt_of_succ_lt hu) ?_))
  refine wpAny_bind (I.type.here (wpAny_bind (hb.here ?_)))
  split
  · rename_i q
    have e : subIn K tb (.ref C) = some false := by
      rcases Bool.or_eq_true_iff.mp hn with e | e
      · rw [beq_iff_eq.mp e] at q; simp at q
      · exact beq_iff_eq.mp e
    refine wpAny_bind ((looks_subIn X e).here ?_)
    simp only [Bool.false_eq_true, if_false]
    refine wpAny_bind (wpAny_mono one (fun r s' z => ?_) fun _ _ e => e)
    obtain ⟨v, rfl, hq⟩ := z
    exact wpAny_pure hq
  · refine wpAny_bind (wpAny_pure ?_)
    simp only [Bool.false_eq_true, if_false]
    refine wpAny_bind (wpAny_mono one (fun r s' z => ?_) fun _ _ e => e)
    obtain ⟨v, rfl, hq⟩ := z
    exact wpAny_pure hq
end
end PySem.W
namespace L2
open PySem PySem.Spec PyProof.Rows
/-- what != of such an instance wants: how the class comes by it -/
structure NeC (K : PySem.W.Frag) (C : Addr) : Prop where
  ob : PySem.W.mroIn K C (.type "object") = some true
  ne : PySem.W.findIn K (.ref C) "__ne__" = some (some (.builtin "object.__ne__"))
def NcB (X : Cx) (n : Nat) (D : EqvB) : Prop :=
  ∀ (A : Around) (pins : List (Addr × Obj)) (s : Shared) (σ : St) (H : Hp) (x y : V) (u v : Value) (b : Bool), Sub X n A → Inv X pins σ H s → RelV x u → RelV y v → D x y H b →
    wpAny (model X.prog X.w) A (richCompare .NotEq u v) (fun r s' => r = .bool (!b) ∧ ∃ H', Inv X pins σ H' s' ∧ Ext H H') X.xe s
section
variable {X : Cx} {n m : Nat} {D D' : EqvB}
theorem NcB.or (h : NcB X n D) (h' : NcB X n D') : NcB X n (fun x y H b => D x y H b ∨ D' x y H b) := fun A pins s σ H x y u v b sb I rx ry d => by
  rcases d with d | d
  · exact h A pins s σ H x y u v b sb I rx ry d
  · exact h' A pins s σ H x y u v b sb I rx ry d
theorem ncB_ins {CX : CXT} {C f : Addr} {fd : FuncData} {ps : List Str} {R : Addr → V → Hp → Bool → Prop} {E : XK} (F : FnOk X.prog X.w X.K X.mg X.base CX n f fd ps (spEqB R))
    (hs : PySem.W.findIn X.K (.ref C) "__eq__" = some (some (.ref f))) (hf : PySem.W.isFn X.K (.ref f) = true) (N : NeC X.K C) (hb : Binds X.K fd ps []) (hx : Passes CX X E) : NcB X (n + 1) (DInsB X.K C R) := by
  intro A pins s σ H x y u v b sb I rx ry d
  obtain ⟨a, dx, fs, t, rfl, ha, ty, nf, hr⟩ := d
  cases rx
  obtain ⟨mA, J, _⟩ := ins_get I.hok ha
  obtain ⟨od, J, _⟩ := J.look
  obtain ⟨m, hF⟩ := I.fr
  obtain ⟨P, Z, p, _⟩ := kit_of I ry ty
  have sb1 := sb.in1
  refine PySem.W.ne_K (tb := t) (by have := sb.room.un; omega) hF I.ok.mod.kin J (Z.ty _ _ I.kIn p) nf N.ob N.ne hs hf ?_
  have hsp : spEqB R [.ref a, y] H (fun v H' => v = .bl b ∧ Ext H H') E := ⟨a, y, b, rfl, hr, fun H' e => ⟨rfl, e⟩⟩
  have e0 : Env0 X.prog X.w X.K X.mg X.base A.in1 X.stack s H := by
    have e := I.env0
    exact ⟨by rw [sb1.fr]; exact e.frames, e.mod, e.bs, e.bsz, e.funs, e.frf, e.hok, e.bare⟩
  have hl := F.len _ _ _ _ hsp
  have r2 : Vals [V.ref a, y] [Value.ref a, v] := .cons rfl (.cons ry .nil)
  refine wpAny_call (codeAny_mono (F.run A.in1 X.stack s H ⟨[.ref a, v], []⟩ [.ref a, v] [.ref a, y] _ E sb1.room e0 (by
    have := hb s [.ref a, v] I.kIn (by simpa using hl)
    simpa using this) r2 hsp) fun r s' hq => ?_)
  cases r with
  | error e => exact hx pins σ H s e s' I hq
  | ok fl =>
    cases fl with
    | ret w =>
      obtain ⟨z, H', I', rz, ez, ex⟩ := I.after hq
      subst ez
      cases rz
      exact ⟨_, rfl, rfl, H', I', ex⟩
    | next => exact False.elim hq
    | brk => exact False.elim hq
    | cont => exact False.elim hq
def rNeB (D : EqvB) : R2 := fun x y H Q => ∃ b, D x y H b ∧ ∀ H', Ext H H' → Q (.bl (!b)) H'
theorem op_neB (h : NcB X n D) (hr : Room n X.A) : OpR X (compareOp .NotEq) (rNeB D) := by
  intro pins s σ H x y v u Q I rx ry hq
  obtain ⟨b, d, q⟩ := hq
  show wpAny (model X.prog X.w) X.A (richCompare .NotEq v u) (EP X pins σ Q) X.xe s
  refine wpAny_mono (h X.A pins s σ H x y v u b ⟨hr, rfl⟩ I rx ry d) (fun r s' z => ?_) fun _ _ x => x
  obtain ⟨hr', H', I', e⟩ := z
  subst hr'
  exact ⟨.bl (!b), H', I', rfl, q H' e⟩
end
end L2
end

section
set_option Elab.async false
set_option linter.all false
set_option maxRecDepth 100000
set_option maxHeartbeats 4000000
/-! == of items and bodies. -/
namespace Pn
open PySem PySem.Spec PyProof.Rows L2
mutual
def eqI : Itm → Itm → Bool
  | .say z, .say y => decide (V.str z = V.str y)
  | .press z, .press y => decide (V.str z = V.str y)
  | .go z, .go y => decide (V.str z = V.str y)
  | .times n is, .times m js => decide (V.int n = V.int m) && eqs is js
  | _, _ => false
def eqs : List Itm → List Itm → Bool
  | [], [] => true
  | i :: is, j :: js => eqI i j && eqs is js
  | _, _ => false
end
mutual
theorem eqI_iff : ∀ i j : Itm, eqI i j = true ↔ i = j
  | .say z, .say y => by simp [eqI]
  | .press z, .press y => by simp [eqI]
  | .go z, .go y => by simp [eqI]
  | .times n is, .times m js => by simp [eqI, eqs_iff is js]
  | .say _, .press _ => by simp [eqI]
  | .say _, .go _ => by simp [eqI]
  | .say _, .times _ _ => by simp [eqI]
  | .press _, .say _ => by simp [eqI]
  | .press _, .go _ => by simp [eqI]
  | .press _, .times _ _ => by simp [eqI]
  | .go _, .say _ => by simp [eqI]
  | .go _, .press _ => by simp [eqI]
  | .go _, .times _ _ => by simp [eqI]
  | .times _ _, .say _ => by simp [eqI]
  | .times _ _, .press _ => by simp [eqI]
  | .times _ _, .go _ => by simp [eqI]
theorem eqs_iff : ∀ is js : List Itm, eqs is js = true ↔ is = js
  | [], [] => by simp [eqs]
  | [], _ :: _ => by simp [eqs]
  | _ :: _, [] => by simp [eqs]
  | i :: is, j :: js => by simp [eqs, eqI_iff i j, eqs_iff is js]
end
/-- item by item -/
def eqAt (is js : List Itm) (k : Nat) : Bool := match is[k]?, js[k]? with
  | some i, some j => eqI i j
  | _, _ => false
theorem eqs_at : ∀ is js : List Itm, eqs is js = (decide (is.length = js.length) && (List.range is.length).all (eqAt is js)) := by
  intro is js
  rw [Bool.eq_iff_iff, eqs_iff, Bool.and_eq_true, decide_eq_true_iff, List.all_eq_true]
  refine ⟨fun e => ?_, fun ⟨h1, h2⟩ => ?_⟩
  · subst e
    refine ⟨rfl, fun k hk => ?_⟩
    have hk' := List.mem_range.mp hk
    unfold eqAt
    rw [List.getElem?_eq_getElem hk']
    exact (eqI_iff _ _).mpr rfl
  · refine List.ext_getElem h1 (fun k k1 k2 => ?_)
    have := h2 k (List.mem_range.mpr k1)
    unfold eqAt at this
    rw [List.getElem?_eq_getElem k1, List.getElem?_eq_getElem k2] at this
    exact (eqI_iff _ _).mp this
theorem Kept.ext' {H H' : Hp} (S : Ext H H') : Kept H H' := ⟨fun a C dx fs _ h => S _ _ h, fun a xs h => S _ _ h⟩
/-- items -/
def DI (c : Cs) (d : Nat) : EqvB := fun x y H b => ∃ i j, Io c H x i ∧ ItW d i ∧ Io c H y j ∧ b = eqI i j
theorem monDI {c : Cs} {d : Nat} : MonB (DI c d) := fun x y b H H' S h => by
  obtain ⟨i, j, h1, h2, h3, h4⟩ := h
  exact ⟨i, j, h1.keep (.ext' S), h2, h3.keep (.ext' S), h4⟩
def RS (c : Cs) : Addr → V → Hp → Bool → Prop := fun a y H b => ∃ dx z j, H a = some (.ins c.say dx [("command", .str z)]) ∧ Io c H y j ∧ b = eqI (.say z) j
def RP (c : Cs) : Addr → V → Hp → Bool → Prop := fun a y H b => ∃ dx z j, H a = some (.ins c.press dx [("key", .str z)]) ∧ Io c H y j ∧ b = eqI (.press z) j
def RG (c : Cs) : Addr → V → Hp → Bool → Prop := fun a y H b => ∃ dx z j, H a = some (.ins c.go dx [("mode", .str z)]) ∧ Io c H y j ∧ b = eqI (.go z) j
def RT (c : Cs) (d : Nat) : Addr → V → Hp → Bool → Prop := fun a y H b => ∃ n its j, Io c H (.ref a) (.times n its) ∧ ItsW d its ∧ Io c H y j ∧ b = eqI (.times n its) j
/-- a body and a body -/
def RB (c : Cs) (d : Nat) : Addr → V → Hp → Bool → Prop := fun a y H b => ∃ is js a', Bo c H a is ∧ ItsW d is ∧ y = .ref a' ∧ Bo c H a' js ∧ b = eqs is js
/-- a body and what is none -/
def RN (K : PySem.W.Frag) (c : Cs) : Addr → V → Hp → Bool → Prop := fun a y H b => ∃ is t, Bo c H a is ∧ TyX K H y t ∧ PySem.W.kitOne K t (.ref c.body) = some false ∧ b = false
structure EqM (K : PySem.W.Frag) (C f : Addr) : Prop where
  at_ : PySem.W.findIn K (.ref C) "__eq__" = some (some (.ref f))
  fn : PySem.W.isFn K (.ref f) = true
  ne : NeC K C
/-- the classes are five, none of them below another one -/
structure Ap (K : PySem.W.Frag) (c : Cs) : Prop where
  sp : c.say ≠ c.press
  sg : c.say ≠ c.go
  pg : c.press ≠ c.go
  nf : ∀ C, (C = c.say ∨ C = c.press ∨ C = c.go ∨ C = c.times ∨ C = c.body) → ∀ D, (D = c.say ∨ D = c.press ∨ D = c.go ∨ D = c.times ∨ D = c.body) → PySem.W.notFirst K C (.ref D) = true
  kb : PySem.W.kitOne K (.ref c.body) (.ref c.body) = some true
end Pn
namespace KP
open PySem PySem.Spec PyProof.Rows L2 Pn StX
abbrev sSayE : Stmt := inClass (top 45) 1
abbrev sPressE : Stmt := inClass (top 46) 1
abbrev sGoE : Stmt := inClass (top 47) 1
abbrev sTimesE : Stmt := inClass (top 48) 2
abbrev sBodyE : Stmt := inClass (top 49) 8
section
variable {P : Program} {w : World} {K : PySem.W.Frag} {mg : Str → Option Value} {base : Heap} {c : Cs}
theorem scSayE : FnScope ["self", "other"] ["self", "other"] (defScope sSayE) := ⟨rfl, rfl, rfl, by decide +kernel, rfl, by decide +kernel, by decide +kernel⟩
theorem scPressE : FnScope ["self", "other"] ["self", "other"] (defScope sPressE) := ⟨rfl, rfl, rfl, by decide +kernel, rfl, by decide +kernel, by decide +kernel⟩
theorem scGoE : FnScope ["self", "other"] ["self", "other"] (defScope sGoE) := ⟨rfl, rfl, rfl, by decide +kernel, rfl, by decide +kernel, by decide +kernel⟩
theorem scTimesE : FnScope ["self", "other"] ["self", "other"] (defScope sTimesE) := ⟨rfl, rfl, rfl, by decide +kernel, rfl, by decide +kernel, by decide +kernel⟩
theorem scBodyE : FnScope ["self", "other"] ["self", "other"] (defScope sBodyE) := ⟨rfl, rfl, rfl, by decide +kernel, rfl, by decide +kernel, by decide +kernel⟩
theorem kit_is (B : BodT K mg c) {C D : Addr} (h : C = c.say ∨ C = c.press ∨ C = c.go ∨ C = c.times) (g : D = c.say ∨ D = c.press ∨ D = c.go ∨ D = c.times) : PySem.W.kitOne K (.ref C) (.ref D) = some (decide (C = D)) :=
  B.kit C (by rcases h with h | h | h | h <;> simp [h]) D g
theorem ok_sayE {f : Addr} {fd : FuncData} (F : Fun K "__eq__" "Say.__eq__" sSayE f fd) (T1 : Blt mg) (B : BodT K mg c) (A' : Ap K c) : FnOk P w K mg base CX0 1 f fd ["self", "other"] (spEqB (RS c)) := by
  refine F.ok scSayE (fun vs H Q E h => ?_) (fun cdv A outer s H vs Q E hr h => ?_)
  · obtain ⟨a, y, b, rfl, _⟩ := h
    rfl
  · obtain ⟨a, y, b, rfl, ⟨dx, z, j, ha, hj, rfl⟩, q⟩ := h
    refine ⟨_, pss_one (ps_ret (pe_and (pe_callB call_isi (by rfl) T1.isi bIsi (pa_cons (pv 1) (pa_cons (pe_glob (v := .ref c.say) rfl B.gSay rfl) pa_nil))) (pe_one (pe_cmpR op_eq (pe_fld (pv 0) rfl) (pe_fld (pv 1) rfl) (nomark _))))), ?_⟩
    cases hj with
    | @say a' dx' z' h' => exact ⟨_, rfl, _, .ref c.say, _, _, true, rfl, .own _, B.say.tyx h', (kit_is B (.inl rfl) (.inl rfl)).trans (congrArg some (decide_eq_true rfl)), true, rfl, _, rfl, a, _, _, _, _, rfl, ha, B.say.cl, B.nSay, rfl, _, rfl, a', _, _, _, _, rfl, h', B.say.cl, B.nSay, rfl, rfl, q H Ext.rfl'⟩
    | @press a' dx' z' h' => exact ⟨_, rfl, _, .ref c.say, _, _, false, rfl, .own _, B.press.tyx h', (kit_is B (.inr (.inl rfl)) (.inl rfl)).trans (congrArg some (decide_eq_false (Ne.symm A'.sp))), false, rfl, q H Ext.rfl'⟩
    | @go a' dx' z' h' => exact ⟨_, rfl, _, .ref c.say, _, _, false, rfl, .own _, B.go.tyx h', (kit_is B (.inr (.inr (.inl rfl))) (.inl rfl)).trans (congrArg some (decide_eq_false (Ne.symm A'.sg))), false, rfl, q H Ext.rfl'⟩
    | @times a' dx' b' n' its' h' _ => exact ⟨_, rfl, _, .ref c.say, _, _, false, rfl, .own _, B.times.tyx h', (kit_is B (.inr (.inr (.inr rfl))) (.inl rfl)).trans (congrArg some (decide_eq_false (Ne.symm B.ne1))), false, rfl, q H Ext.rfl'⟩
theorem ok_pressE {f : Addr} {fd : FuncData} (F : Fun K "__eq__" "Press.__eq__" sPressE f fd) (T1 : Blt mg) (B : BodT K mg c) (A' : Ap K c) : FnOk P w K mg base CX0 1 f fd ["self", "other"] (spEqB (RP c)) := by
  refine F.ok scPressE (fun vs H Q E h => ?_) (fun cdv A outer s H vs Q E hr h => ?_)
  · obtain ⟨a, y, b, rfl, _⟩ := h
    rfl
  · obtain ⟨a, y, b, rfl, ⟨dx, z, j, ha, hj, rfl⟩, q⟩ := h
    refine ⟨_, pss_one (ps_ret (pe_and (pe_callB call_isi (by rfl) T1.isi bIsi (pa_cons (pv 1) (pa_cons (pe_glob (v := .ref c.press) rfl B.gPress rfl) pa_nil))) (pe_one (pe_cmpR op_eq (pe_fld (pv 0) rfl) (pe_fld (pv 1) rfl) (nomark _))))), ?_⟩
    cases hj with
    | @say a' dx' z' h' => exact ⟨_, rfl, _, .ref c.press, _, _, false, rfl, .own _, B.say.tyx h', (kit_is B (.inl rfl) (.inr (.inl rfl))).trans (congrArg some (decide_eq_false A'.sp)), false, rfl, q H Ext.rfl'⟩
    | @press a' dx' z' h' => exact ⟨_, rfl, _, .ref c.press, _, _, true, rfl, .own _, B.press.tyx h', (kit_is B (.inr (.inl rfl)) (.inr (.inl rfl))).trans (congrArg some (decide_eq_true rfl)), true, rfl, _, rfl, a, _, _, _, _, rfl, ha, B.press.cl, B.nPress, rfl, _, rfl, a', _, _, _, _, rfl, h', B.press.cl, B.nPress, rfl, rfl, q H Ext.rfl'⟩
    | @go a' dx' z' h' => exact ⟨_, rfl, _, .ref c.press, _, _, false, rfl, .own _, B.go.tyx h', (kit_is B (.inr (.inr (.inl rfl))) (.inr (.inl rfl))).trans (congrArg some (decide_eq_false (Ne.symm A'.pg))), false, rfl, q H Ext.rfl'⟩
    | @times a' dx' b' n' its' h' _ => exact ⟨_, rfl, _, .ref c.press, _, _, false, rfl, .own _, B.times.tyx h', (kit_is B (.inr (.inr (.inr rfl))) (.inr (.inl rfl))).trans (congrArg some (decide_eq_false (Ne.symm B.ne2))), false, rfl, q H Ext.rfl'⟩
theorem ok_goE {f : Addr} {fd : FuncData} (F : Fun K "__eq__" "Go.__eq__" sGoE f fd) (T1 : Blt mg) (B : BodT K mg c) (A' : Ap K c) : FnOk P w K mg base CX0 1 f fd ["self", "other"] (spEqB (RG c)) := by
  refine F.ok scGoE (fun vs H Q E h => ?_) (fun cdv A outer s H vs Q E hr h => ?_)
  · obtain ⟨a, y, b, rfl, _⟩ := h
    rfl
  · obtain ⟨a, y, b, rfl, ⟨dx, z, j, ha, hj, rfl⟩, q⟩ := h
    refine ⟨_, pss_one (ps_ret (pe_and (pe_callB call_isi (by rfl) T1.isi bIsi (pa_cons (pv 1) (pa_cons (pe_glob (v := .ref c.go) rfl B.gGo rfl) pa_nil))) (pe_one (pe_cmpR op_eq (pe_fld (pv 0) rfl) (pe_fld (pv 1) rfl) (nomark _))))), ?_⟩
    cases hj with
    | @say a' dx' z' h' => exact ⟨_, rfl, _, .ref c.go, _, _, false, rfl, .own _, B.say.tyx h', (kit_is B (.inl rfl) (.inr (.inr (.inl rfl)))).trans (congrArg some (decide_eq_false A'.sg)), false, rfl, q H Ext.rfl'⟩
    | @press a' dx' z' h' => exact ⟨_, rfl, _, .ref c.go, _, _, false, rfl, .own _, B.press.tyx h', (kit_is B (.inr (.inl rfl)) (.inr (.inr (.inl rfl)))).trans (congrArg some (decide_eq_false A'.pg)), false, rfl, q H Ext.rfl'⟩
    | @go a' dx' z' h' => exact ⟨_, rfl, _, .ref c.go, _, _, true, rfl, .own _, B.go.tyx h', (kit_is B (.inr (.inr (.inl rfl))) (.inr (.inr (.inl rfl)))).trans (congrArg some (decide_eq_true rfl)), true, rfl, _, rfl, a, _, _, _, _, rfl, ha, B.go.cl, B.nGo, rfl, _, rfl, a', _, _, _, _, rfl, h', B.go.cl, B.nGo, rfl, rfl, q H Ext.rfl'⟩
    | @times a' dx' b' n' its' h' _ => exact ⟨_, rfl, _, .ref c.go, _, _, false, rfl, .own _, B.times.tyx h', (kit_is B (.inr (.inr (.inr rfl))) (.inr (.inr (.inl rfl)))).trans (congrArg some (decide_eq_false (Ne.symm B.ne3))), false, rfl, q H Ext.rfl'⟩
/-- items of one depth, by the defs -/
structure EqF (P : Program) (w : World) (K : PySem.W.Frag) (mg : Str → Option Value) (base : Heap) (c : Cs) (fS fP fG fT fB : Addr) (dS dP dG dT dB : FuncData) : Prop where
  S : FnOk P w K mg base CX0 1 fS dS ["self", "other"] (spEqB (RS c))
  P' : FnOk P w K mg base CX0 1 fP dP ["self", "other"] (spEqB (RP c))
  G : FnOk P w K mg base CX0 1 fG dG ["self", "other"] (spEqB (RG c))
  bS : Binds K dS ["self", "other"] []
  bP : Binds K dP ["self", "other"] []
  bG : Binds K dG ["self", "other"] []
  bT : Binds K dT ["self", "other"] []
  bB : Binds K dB ["self", "other"] []
  mS : EqM K c.say fS
  mP : EqM K c.press fP
  mG : EqM K c.go fG
  mT : EqM K c.times fT
  mB : EqM K c.body fB
variable {fS fP fG fT fB : Addr} {dS dP dG dT dB : FuncData}
theorem rcB_item {X : Cx} (d : Nat) (M : EqF X.prog X.w X.K X.mg X.base c fS fP fG fT fB dS dP dG dT dB) (B : BodT X.K mg c) (A' : Ap X.K c) (GT : ∀ d', d = d' + 1 → FnOk X.prog X.w X.K X.mg X.base CX0 (3 * d' + 4) fT dT ["self", "other"] (spEqB (RT c d'))) : RcB X (3 * d + 1) (DI c d) := by
  intro A pins s σ H x y u v b sb I rx ry dd
  obtain ⟨i, j, hi, hw, hj, hb⟩ := dd
  obtain ⟨Cj, hC, ty⟩ := Io.ty B hj
  have h5 : Cj = c.say ∨ Cj = c.press ∨ Cj = c.go ∨ Cj = c.times ∨ Cj = c.body := by rcases hC with h | h | h | h <;> simp [h]
  cases hi with
  | say h => exact (rcB_ins (E := fun _ _ _ => False) M.S M.mS.at_ M.mS.fn M.bS pass0).mono (by omega) A pins s σ H _ y u v b sb I rx ry ⟨_, _, _, _, rfl, h, ty, A'.nf _ (.inl rfl) _ h5, _, _, j, h, hj, hb⟩
  | press h => exact (rcB_ins (E := fun _ _ _ => False) M.P' M.mP.at_ M.mP.fn M.bP pass0).mono (by omega) A pins s σ H _ y u v b sb I rx ry ⟨_, _, _, _, rfl, h, ty, A'.nf _ (.inr (.inl rfl)) _ h5, _, _, j, h, hj, hb⟩
  | go h => exact (rcB_ins (E := fun _ _ _ => False) M.G M.mG.at_ M.mG.fn M.bG pass0).mono (by omega) A pins s σ H _ y u v b sb I rx ry ⟨_, _, _, _, rfl, h, ty, A'.nf _ (.inr (.inr (.inl rfl))) _ h5, _, _, j, h, hj, hb⟩
  | times h hB =>
    cases hw with
    | @times d' _ _ n0 n1 l hw =>
      exact (rcB_ins (E := fun _ _ _ => False) (GT d' rfl) M.mT.at_ M.mT.fn M.bT pass0).mono (by omega) A pins s σ H _ y u v b sb I rx ry ⟨_, _, _, _, rfl, h, ty, A'.nf _ (.inr (.inr (.inr (.inl rfl)))) _ h5, _, _, j, .times h hB, hw, hj, hb⟩
theorem ncB_item {X : Cx} (d : Nat) (M : EqF X.prog X.w X.K X.mg X.base c fS fP fG fT fB dS dP dG dT dB) (B : BodT X.K mg c) (A' : Ap X.K c) (GT : ∀ d', d = d' + 1 → FnOk X.prog X.w X.K X.mg X.base CX0 (3 * d' + 4) fT dT ["self", "other"] (spEqB (RT c d'))) : NcB X (3 * d + 2) (DI c d) := by
  intro A pins s σ H x y u v b sb I rx ry dd
  obtain ⟨i, j, hi, hw, hj, hb⟩ := dd
  obtain ⟨Cj, hC, ty⟩ := Io.ty B hj
  have h5 : Cj = c.say ∨ Cj = c.press ∨ Cj = c.go ∨ Cj = c.times ∨ Cj = c.body := by rcases hC with h | h | h | h <;> simp [h]
  cases hi with
  | say h => exact ncB_ins (E := fun _ _ _ => False) M.S M.mS.at_ M.mS.fn M.mS.ne M.bS pass0 A pins s σ H _ y u v b (sb.mono (by omega)) I rx ry ⟨_, _, _, _, rfl, h, ty, A'.nf _ (.inl rfl) _ h5, _, _, j, h, hj, hb⟩
  | press h => exact ncB_ins (E := fun _ _ _ => False) M.P' M.mP.at_ M.mP.fn M.mP.ne M.bP pass0 A pins s σ H _ y u v b (sb.mono (by omega)) I rx ry ⟨_, _, _, _, rfl, h, ty, A'.nf _ (.inr (.inl rfl)) _ h5, _, _, j, h, hj, hb⟩
  | go h => exact ncB_ins (E := fun _ _ _ => False) M.G M.mG.at_ M.mG.fn M.mG.ne M.bG pass0 A pins s σ H _ y u v b (sb.mono (by omega)) I rx ry ⟨_, _, _, _, rfl, h, ty, A'.nf _ (.inr (.inr (.inl rfl))) _ h5, _, _, j, h, hj, hb⟩
  | times h hB =>
    cases hw with
    | @times d' _ _ n0 n1 l hw =>
      exact ncB_ins (E := fun _ _ _ => False) (GT d' rfl) M.mT.at_ M.mT.fn M.mT.ne M.bT pass0 A pins s σ H _ y u v b (sb.mono (by omega)) I rx ry ⟨_, _, _, _, rfl, h, ty, A'.nf _ (.inr (.inr (.inr (.inl rfl)))) _ h5, _, _, j, .times h hB, hw, hj, hb⟩
theorem di_ref {d : Nat} : ∀ x y H b, DI c d x y H b → ∃ a b', x = .ref a ∧ y = .ref b' := fun x y H b h => by
  obtain ⟨i, j, h1, _, h3, _⟩ := h
  have r : ∀ {v i}, Io c H v i → ∃ a, v = .ref a := fun h => by cases h <;> exact ⟨_, rfl⟩
  obtain ⟨a, e⟩ := r h1
  obtain ⟨a', e'⟩ := r h3
  exact ⟨a, a', e, e'⟩
mutual
theorem io_det {H : Hp} (B : BodT K mg c) (A' : Ap K c) : ∀ {v : V} {i j : Itm}, Io c H v i → Io c H v j → i = j
  | _, _, _, .say h, g => by
    cases g with
    | say g => rw [h] at g; injection g with g; injection g with _ _ g; injection g with g _; injection g with _ g; injection g with g; rw [g]
    | press g => rw [h] at g; injection g with g; injection g with g; exact absurd g A'.sp
    | go g => rw [h] at g; injection g with g; injection g with g; exact absurd g A'.sg
    | times g _ => rw [h] at g; injection g with g; injection g with g; exact absurd g B.ne1
  | _, _, _, .press h, g => by
    cases g with
    | say g => rw [h] at g; injection g with g; injection g with g; exact absurd g.symm A'.sp
    | press g => rw [h] at g; injection g with g; injection g with _ _ g; injection g with g _; injection g with _ g; injection g with g; rw [g]
    | go g => rw [h] at g; injection g with g; injection g with g; exact absurd g A'.pg
    | times g _ => rw [h] at g; injection g with g; injection g with g; exact absurd g B.ne2
  | _, _, _, .go h, g => by
    cases g with
    | say g => rw [h] at g; injection g with g; injection g with g; exact absurd g.symm A'.sg
    | press g => rw [h] at g; injection g with g; injection g with g; exact absurd g.symm A'.pg
    | go g => rw [h] at g; injection g with g; injection g with _ _ g; injection g with g _; injection g with _ g; injection g with g; rw [g]
    | times g _ => rw [h] at g; injection g with g; injection g with g; exact absurd g B.ne3
  | _, _, _, .times h hb, g => by
    cases g with
    | say g => rw [h] at g; injection g with g; injection g with g; exact absurd g.symm B.ne1
    | press g => rw [h] at g; injection g with g; injection g with g; exact absurd g.symm B.ne2
    | go g => rw [h] at g; injection g with g; injection g with g; exact absurd g.symm B.ne3
    | times g gb =>
      rw [h] at g
      injection g with g
      injection g with _ _ g
      unfold fTimes at g
      injection g with g1 g2
      injection g2 with g2 _
      injection g1 with _ g1
      injection g1 with g1
      injection g2 with _ g2
      injection g2 with g2
      subst g1
      subst g2
      rw [bo_det B A' hb gb]
theorem bo_det {H : Hp} (B : BodT K mg c) (A' : Ap K c) : ∀ {b : Addr} {is js : List Itm}, Bo c H b is → Bo c H b js → is = js
  | _, _, _, .mk h e r, g => by
    cases g with
    | mk g e' r' =>
      rw [h] at g
      injection g with g
      injection g with _ _ g
      unfold fBody at g
      injection g with g1 _
      injection g1 with _ g1
      injection g1 with g1
      subst g1
      rw [e] at e'
      injection e' with e'
      injection e' with e'
      subst e'
      exact ios_det B A' r r'
theorem ios_det {H : Hp} (B : BodT K mg c) (A' : Ap K c) : ∀ {vs : List V} {is js : List Itm}, Ios c H vs is → Ios c H vs js → is = js
  | _, _, _, .nil, g => by cases g; rfl
  | _, _, _, .cons h1 h2, g => by
    cases g with
    | cons g1 g2 => rw [io_det B A' h1 g1, ios_det B A' h2 g2]
end
theorem di_refl {d : Nat} (B : BodT K mg c) (A' : Ap K c) : ∀ x H b, DI c d x x H b → b = true := fun x H b h => by
  obtain ⟨i, j, h1, _, h3, rfl⟩ := h
  exact (eqI_iff _ _).mpr (io_det B A' h1 h3)
theorem dtup {d : Nat} {H : Hp} {e e' : Addr} {vs vs' : List V} {is js : List Itm} (he : H e = some (.tup vs)) (he' : H e' = some (.tup vs')) (hI : Ios c H vs is) (hw : ItsW d is) (hJ : Ios c H vs' js) : DTupB K (DI c d) (.ref e) (.ref e') H (eqs is js) := by
  refine ⟨e, e', vs, vs', eqAt is js, rfl, rfl, SqT.of he, SqT.of he', fun k u v hu hv => ?_, by rw [hI.len, hJ.len]; exact eqs_at is js⟩
  obtain ⟨i, h1, h2⟩ := hI.get hu
  obtain ⟨j, h3, h4⟩ := hJ.get hv
  refine ⟨i, j, h2, hw.get h1, h4, ?_⟩
  unfold eqAt
  rw [h1, h3]
theorem ok_bodyE (d : Nat) {f : Addr} {fd : FuncData} (F : Fun K "__eq__" "Body.__eq__" sBodyE f fd) (T1 : Blt mg) (M : EqF P w K mg base c fS fP fG fT fB dS dP dG dT dB) (B : BodT K mg c) (A' : Ap K c) (GT : ∀ d', d = d' + 1 → FnOk P w K mg base CX0 (3 * d' + 4) fT dT ["self", "other"] (spEqB (RT c d'))) :
    FnOk P w K mg base CX0 (3 * d + 3) f fd ["self", "other"] (spEqB fun a y H b => RB c d a y H b ∨ RN K c a y H b) := by
  refine F.ok scBodyE (fun vs H Q E h => ?_) (fun cdv A outer s H vs Q E hr h => ?_)
  · obtain ⟨a, y, b, rfl, _⟩ := h
    rfl
  · obtain ⟨a, y, b, rfl, hR, q⟩ := h
    refine ⟨_, pss_one (ps_ret (pe_and (pe_callB call_isi (by rfl) T1.isi bIsi (pa_cons (pv 1) (pa_cons (pe_glob (v := .ref c.body) rfl B.gBody rfl) pa_nil))) (pe_one (pe_cmpR (op_eqB (rcB_tup monDI ((rcB_item d M B A' GT).eqB di_ref (di_refl B A'))) hr) (pe_fld (pv 0) rfl) (pe_fld (pv 1) rfl) (nomark _))))), ?_⟩
    rcases hR with ⟨is, js, a', hB, hw, rfl, hB', rfl⟩ | ⟨is, t, hB, ty, kt, rfl⟩
    · cases hB with
      | mk h1 h2 h3 => cases hB' with
        | mk g1 g2 g3 =>
          exact ⟨_, rfl, _, .ref c.body, _, _, true, rfl, .own _, B.body.tyx g1, A'.kb, true, rfl, _, rfl, a, _, _, _, _, rfl, h1, B.body.cl, B.nEnt, rfl, _, rfl, a', _, _, _, _, rfl, g1, B.body.cl, B.nEnt, rfl, _, dtup h2 g2 h3 hw g3, q⟩
    · exact ⟨_, rfl, _, .ref c.body, _, _, false, rfl, .own _, ty, kt, false, rfl, q H Ext.rfl'⟩
theorem ok_timesE (d : Nat) {f : Addr} {fd : FuncData} (F : Fun K "__eq__" "Times.__eq__" sTimesE f fd) (T1 : Blt mg) (M : EqF P w K mg base c fS fP fG fT fB dS dP dG dT dB) (B : BodT K mg c) (A' : Ap K c) (GB : FnOk P w K mg base CX0 (3 * d + 3) fB dB ["self", "other"] (spEqB fun a y H b => RB c d a y H b ∨ RN K c a y H b)) :
    FnOk P w K mg base CX0 (3 * d + 4) f fd ["self", "other"] (spEqB (RT c d)) := by
  refine F.ok scTimesE (fun vs H Q E h => ?_) (fun cdv A outer s H vs Q E hr h => ?_)
  · obtain ⟨a, y, b, rfl, _⟩ := h
    rfl
  · obtain ⟨a, y, b, rfl, ⟨n, its, j, hi, hw, hj, rfl⟩, q⟩ := h
    refine ⟨_, pss_one (ps_ret (pe_and (pe_callB call_isi (by rfl) T1.isi bIsi (pa_cons (pv 1) (pa_cons (pe_glob (v := .ref c.times) rfl B.gTimes rfl) pa_nil))) (pe_and (pe_cmpR op_eq (pe_fld (pv 0) rfl) (pe_fld (pv 1) rfl) (nomark _)) (pe_one (pe_cmpR (op_eqB (rcB_ins (E := fun _ _ _ => False) GB M.mB.at_ M.mB.fn M.bB pass0) hr) (pe_fld (pv 0) rfl) (pe_fld (pv 1) rfl) (nomark _)))))), ?_⟩
    cases hi with
    | times ha hB =>
      cases hj with
      | @say a' dx' z' h' => exact ⟨_, rfl, _, .ref c.times, _, _, false, rfl, .own _, B.say.tyx h', (kit_is B (.inl rfl) (.inr (.inr (.inr rfl)))).trans (congrArg some (decide_eq_false B.ne1)), false, rfl, q H Ext.rfl'⟩
      | @press a' dx' z' h' => exact ⟨_, rfl, _, .ref c.times, _, _, false, rfl, .own _, B.press.tyx h', (kit_is B (.inr (.inl rfl)) (.inr (.inr (.inr rfl)))).trans (congrArg some (decide_eq_false B.ne2)), false, rfl, q H Ext.rfl'⟩
      | @go a' dx' z' h' => exact ⟨_, rfl, _, .ref c.times, _, _, false, rfl, .own _, B.go.tyx h', (kit_is B (.inr (.inr (.inl rfl))) (.inr (.inr (.inr rfl)))).trans (congrArg some (decide_eq_false B.ne3)), false, rfl, q H Ext.rfl'⟩
      | @times a' dx' b' n' its' h' hB' =>
        refine ⟨_, rfl, _, .ref c.times, _, _, true, rfl, .own _, B.times.tyx h', (kit_is B (.inr (.inr (.inr rfl))) (.inr (.inr (.inr rfl)))).trans (congrArg some (decide_eq_true rfl)), true, rfl, _, rfl, a, _, _, _, _, rfl, ha, B.times.cl, B.nNum, rfl, _, rfl, a', _, _, _, _, rfl, h', B.times.cl, B.nNum, rfl, rfl, decide (V.int n = V.int n'), rfl, ?_⟩
        have e : eqI (.times n its) (.times n' its') = (decide (V.int n = V.int n') && eqs its its') := by rw [eqI]
        rw [e] at q
        cases hn : decide (V.int n = V.int n') with
        | false =>
          rw [hn] at q
          exact iteF (q H Ext.rfl')
        | true =>
          rw [hn, Bool.true_and] at q
          have hBx := hB
          have hBy := hB'
          cases hBx with
          | mk h1 _ _ => cases hBy with
            | mk g1 _ _ =>
              exact iteT ⟨_, rfl, a, _, _, _, _, rfl, ha, B.times.cl, B.nBod, rfl, _, rfl, a', _, _, _, _, rfl, h', B.times.cl, B.nBod, rfl, _, ⟨_, _, _, _, rfl, h1, B.body.tyx g1, A'.nf _ (.inr (.inr (.inr (.inr rfl)))) _ (.inr (.inr (.inr (.inr rfl)))), .inl ⟨_, _, _, hB, hw, rfl, hB', rfl⟩⟩, q⟩
end
end KP
end

section
set_option Elab.async false
set_option linter.all false
set_option maxRecDepth 100000
set_option maxHeartbeats 4000000
/-! What repr says of plain items tells them. -/
namespace Pn
open PySem PySem.Spec PyProof.Rows L2
theorem isPr_low : ∀ c : Nat, 97 ≤ c → c ≤ 122 → Unicode.isPrintable c = true := by
  intro c h1 h2
  have : c ∈ (List.range 26).map (· + 97) := List.mem_map.mpr ⟨c - 97, List.mem_range.mpr (by omega), by omega⟩
  have all : ((List.range 26).map (· + 97)).all Unicode.isPrintable = true := by decide +kernel
  exact List.all_eq_true.mp all c this
theorem reprC_low {c : Nat} (h1 : 97 ≤ c) (h2 : c ≤ 122) : Builtin.Str.reprChar 39 c = [c] := by
  unfold Builtin.Str.reprChar
  have e1 : (c == 39 || c == 92) = false := by simp; omega
  have e2 : (c == 10) = false := by simp; omega
  have e3 : (c == 13) = false := by simp; omega
  have e4 : (c == 9) = false := by simp; omega
  simp only [e1, e2, e3, e4, isPr_low c h1 h2]
  rfl
theorem fold_low : ∀ (l : List Nat) (acc : Array Nat), Low l → (l.foldl (fun out c => out ++ (Builtin.Str.reprChar 39 c).toArray) acc).toList = acc.toList ++ l
  | [], acc, _ => by simp
  | c :: l, acc, h => by
    have hc := h c (List.mem_cons_self ..)
    rw [List.foldl_cons, fold_low l _ (fun d m => h d (List.mem_cons_of_mem _ m)), reprC_low hc.1 hc.2]
    simp
theorem repr_low {z : PySem.Str} (h : Low z.cps.toList) : (reprText z).cps.toList = 39 :: (z.cps.toList ++ [39]) := by
  have q : reprQuote z = 39 := by
    unfold reprQuote
    have : z.cps.contains 39 = false := by
      cases e : z.cps.contains 39 with
      | false => rfl
      | true =>
        have m : (39 : Nat) ∈ z.cps := by simpa using e
        have := h 39 (Array.mem_toList_iff.mpr m)
        omega
    rw [this]
    rfl
  unfold reprText
  rw [q]
  rw [← Array.foldl_toList]
  simp only [Array.toList_push]
  rw [fold_low _ _ h]
  simp
end Pn
namespace Pn
open PySem PySem.Spec PyProof.Rows L2
theorem nat_text_inj {m n : Int} (hm : 0 ≤ m) (hn : 0 ≤ n) (e : (PySem.Str.ofString (toString m)).cps.toList = (PySem.Str.ofString (toString n)).cps.toList) : m = n := by
  obtain ⟨a, rfl⟩ := Int.eq_ofNat_of_zero_le hm
  obtain ⟨b, rfl⟩ := Int.eq_ofNat_of_zero_le hn
  rw [signs_ofString, signs_ofString] at e
  have e1 : (toString (a : Int)).toList = (toString (b : Int)).toList := by
    have inj : ∀ l l' : List Char, l.map Char.toNat = l'.map Char.toNat → l = l' := by
      intro l
      induction l with
      | nil => intro l' h; cases l' with
        | nil => rfl
        | cons c l' => cases h
      | cons c l ih => intro l' h; cases l' with
        | nil => cases h
        | cons c' l' =>
          rw [List.map_cons, List.map_cons] at h
          injection h with h1 h2
          rw [ih l' h2]
          have : c = c' := Char.ext (UInt32.toNat_inj.mp h1)
          rw [this]
    exact inj _ _ e
  have t : ∀ k : Nat, (toString (k : Int)).toList = Nat.toDigits 10 k := fun k => by
    show (Nat.repr k).toList = _
    unfold Nat.repr
    simp
  rw [t, t] at e1
  have := congrArg (fun l => Nat.ofDigitChars 10 l 0) e1
  simp only [Nat.ofDigitChars_toDigits (b := 10) (by decide) (by decide)] at this
  rw [this]
/-- a stretch without one sign, up to that sign -/
theorem cut_at {k : Nat} : ∀ {a b r r' : List Nat}, k ∉ a → k ∉ b → a ++ k :: r = b ++ k :: r' → a = b ∧ r = r'
  | [], [], r, r', _, _, e => by
    injection e with _ e
    exact ⟨rfl, e⟩
  | [], c :: b, r, r', _, hb, e => by
    injection e with e1 _
    exact absurd (by rw [e1]; exact List.mem_cons_self ..) hb
  | c :: a, [], r, r', ha, _, e => by
    injection e with e1 _
    exact absurd (by rw [← e1]; exact List.mem_cons_self ..) ha
  | c :: a, d :: b, r, r', ha, hb, e => by
    injection e with e1 e2
    obtain ⟨x, y⟩ := cut_at (fun m => ha (List.mem_cons_of_mem _ m)) (fun m => hb (List.mem_cons_of_mem _ m)) e2
    exact ⟨by rw [e1, x], y⟩
theorem low_no {l : List Nat} (h : Low l) : (39 : Nat) ∉ l := fun m => by have := h 39 m; omega
mutual
def cI : Itm → List Nat
  | .say z => [40, 39, 115, 97, 121, 39, 44, 32, 39] ++ (z.cps.toList ++ [39, 41])
  | .press z => [40, 39, 112, 114, 101, 115, 115, 39, 44, 32, 39] ++ (z.cps.toList ++ [39, 41])
  | .go z => [40, 39, 103, 111, 39, 44, 32, 39] ++ (z.cps.toList ++ [39, 41])
  | .times n its => [40, 39, 116, 105, 109, 101, 115, 39, 44, 32] ++ ((PySem.Str.ofString (toString n)).cps.toList ++ ([44, 32, 91] ++ (cL its ++ [93, 41])))
def cL : List Itm → List Nat
  | [] => []
  | i :: is => cI i ++ cT is
def cT : List Itm → List Nat
  | [] => []
  | i :: is => 44 :: 32 :: (cI i ++ cT is)
end
mutual
theorem cI_inj : ∀ (i j : Itm) (d d' : Nat) (r r' : List Nat), ItOk d i → ItOk d' j → cI i ++ r = cI j ++ r' → i = j ∧ r = r'
  | .say z, .say y, d, d', r, r', h, g, e => by
    cases h with
    | say h => cases g with
      | say g =>
        simp only [cI, List.append_assoc, List.cons_append, List.nil_append, List.cons.injEq, true_and] at e
        obtain ⟨e1, e2⟩ := cut_at (low_no h.2.2) (low_no g.2.2) e
        simp only [List.cons.injEq, true_and] at e2
        exact ⟨by rw [show z = y from by cases z; cases y; simp only at e1; rw [Array.toList_inj.mp e1]], e2⟩
  | .press z, .press y, d, d', r, r', h, g, e => by
    cases h with
    | press h => cases g with
      | press g =>
        simp only [cI, List.append_assoc, List.cons_append, List.nil_append, List.cons.injEq, true_and] at e
        obtain ⟨e1, e2⟩ := cut_at (low_no h.2.2) (low_no g.2.2) e
        simp only [List.cons.injEq, true_and] at e2
        exact ⟨by rw [show z = y from by cases z; cases y; simp only at e1; rw [Array.toList_inj.mp e1]], e2⟩
  | .go z, .go y, d, d', r, r', h, g, e => by
    cases h with
    | go h => cases g with
      | go g =>
        simp only [cI, List.append_assoc, List.cons_append, List.nil_append, List.cons.injEq, true_and] at e
        obtain ⟨e1, e2⟩ := cut_at (low_no h.2.2) (low_no g.2.2) e
        simp only [List.cons.injEq, true_and] at e2
        exact ⟨by rw [show z = y from by cases z; cases y; simp only at e1; rw [Array.toList_inj.mp e1]], e2⟩
  | .times n its, .times m jts, d, d', r, r', h, g, e => by
    cases h with
    | times h1 h2 h3 h4 => cases g with
      | times g1 g2 g3 g4 =>
        simp only [cI, List.append_assoc, List.cons_append, List.nil_append, List.cons.injEq, true_and] at e
        have n44 : ∀ k : Int, (44 : Nat) ∉ (PySem.Str.ofString (toString k)).cps.toList := fun k => (intText_free_44 k).mp
        obtain ⟨e1, e2⟩ := cut_at (n44 n) (n44 m) e
        have en := nat_text_inj h1 g1 e1
        simp only [List.cons.injEq, true_and] at e2
        obtain ⟨e3, e4⟩ := cL_inj its jts _ _ _ _ h4 g4 e2
        simp only [List.cons.injEq, true_and] at e4
        exact ⟨by rw [en, e3], e4⟩
  | .say _, .press _, _, _, _, _, _, _, e => by simp [cI] at e
  | .say _, .go _, _, _, _, _, _, _, e => by simp [cI] at e
  | .say _, .times _ _, _, _, _, _, _, _, e => by simp [cI] at e
  | .press _, .say _, _, _, _, _, _, _, e => by simp [cI] at e
  | .press _, .go _, _, _, _, _, _, _, e => by simp [cI] at e
  | .press _, .times _ _, _, _, _, _, _, _, e => by simp [cI] at e
  | .go _, .say _, _, _, _, _, _, _, e => by simp [cI] at e
  | .go _, .press _, _, _, _, _, _, _, e => by simp [cI] at e
  | .go _, .times _ _, _, _, _, _, _, _, e => by simp [cI] at e
  | .times _ _, .say _, _, _, _, _, _, _, e => by simp [cI] at e
  | .times _ _, .press _, _, _, _, _, _, _, e => by simp [cI] at e
  | .times _ _, .go _, _, _, _, _, _, _, e => by simp [cI] at e
theorem cL_inj : ∀ (is js : List Itm) (d d' : Nat) (r r' : List Nat), ItsOk d is → ItsOk d' js → cL is ++ 93 :: r = cL js ++ 93 :: r' → is = js ∧ r = r'
  | [], [], _, _, r, r', _, _, e => by simp [cL] at e; exact ⟨rfl, e⟩
  | [], j :: js, _, _, r, r', _, _, e => by cases j <;> simp [cL, cI] at e
  | i :: is, [], _, _, r, r', _, _, e => by cases i <;> simp [cL, cI] at e
  | i :: is, j :: js, d, d', r, r', h, g, e => by
    cases h with
    | cons h1 h2 => cases g with
      | cons g1 g2 =>
        simp only [cL, List.append_assoc] at e
        obtain ⟨e1, e2⟩ := cI_inj i j _ _ _ _ h1 g1 e
        obtain ⟨e3, e4⟩ := cT_inj is js _ _ _ _ h2 g2 e2
        exact ⟨by rw [e1, e3], e4⟩
theorem cT_inj : ∀ (is js : List Itm) (d d' : Nat) (r r' : List Nat), ItsOk d is → ItsOk d' js → cT is ++ 93 :: r = cT js ++ 93 :: r' → is = js ∧ r = r'
  | [], [], _, _, r, r', _, _, e => by simp [cT] at e; exact ⟨rfl, e⟩
  | [], j :: js, _, _, r, r', _, _, e => by simp [cT] at e
  | i :: is, [], _, _, r, r', _, _, e => by simp [cT] at e
  | i :: is, j :: js, d, d', r, r', h, g, e => by
    cases h with
    | cons h1 h2 => cases g with
      | cons g1 g2 =>
        simp only [cT, List.append_assoc, List.cons_append, List.cons.injEq, true_and] at e
        obtain ⟨e1, e2⟩ := cI_inj i j _ _ _ _ h1 g1 e
        obtain ⟨e3, e4⟩ := cT_inj is js _ _ _ _ h2 g2 e2
        exact ⟨by rw [e1, e3], e4⟩
end
end Pn
namespace Pn
open PySem PySem.Spec PyProof.Rows L2
theorem textFrom_succ : ∀ (ts : List PySem.Str) (k : Nat) (acc : PySem.Str), (textFrom (k + 1) acc ts).cps.toList = acc.cps.toList ++ (ts.map fun t => 44 :: 32 :: t.cps.toList).flatten
  | [], k, acc => by simp [textFrom]
  | t :: ts, k, acc => by
    rw [textFrom, textFrom_succ ts (k + 1), if_pos (Nat.succ_pos k), cps_app, cps_app, List.map_cons, List.flatten_cons]
    have e : ((PySem.Str.ofString ", ")).cps.toList = [44, 32] := by decide +kernel
    rw [show ((", " : String) : PySem.Str).cps.toList = [44, 32] from e]
    simp
theorem listText_cons (t : PySem.Str) (ts : List PySem.Str) : (listText (t :: ts)).cps.toList = 91 :: (t.cps.toList ++ ((ts.map fun t => 44 :: 32 :: t.cps.toList).flatten ++ [93])) := by
  unfold listText
  rw [cps_app, textFrom, textFrom_succ, cps_app, cps_app]
  have e1 : (("[" : PySem.Str)).cps.toList = [91] := by decide +kernel
  have e2 : (("]" : PySem.Str)).cps.toList = [93] := by decide +kernel
  have e3 : ((if 0 > 0 then ", " else "" : String) : PySem.Str).cps.toList = [] := by decide +kernel
  rw [e1, e2, e3]
  simp
theorem listText_nil : (listText []).cps.toList = [91, 93] := by decide +kernel
theorem tup2 (a b : PySem.Str) : (tupleText [a, b]).cps.toList = 40 :: (a.cps.toList ++ (44 :: 32 :: (b.cps.toList ++ [41]))) := by
  unfold tupleText
  rw [cps_app, cps_app]
  show _ ++ (a ++ (PySem.Str.ofString ", ") ++ b).cps.toList ++ _ = _
  rw [cps_app, cps_app]
  have e1 : (("(" : PySem.Str)).cps.toList = [40] := by decide +kernel
  have e2 : ((PySem.Str.ofString ", ")).cps.toList = [44, 32] := by decide +kernel
  have e3 : ((if [a, b].length == 1 then ",)" else ")" : String) : PySem.Str).cps.toList = [41] := by
    show ((if false = true then ",)" else ")" : String) : PySem.Str).cps.toList = [41]
    decide +kernel
  rw [e1, e2, e3]
  simp
theorem tup3 (a b c : PySem.Str) : (tupleText [a, b, c]).cps.toList = 40 :: (a.cps.toList ++ (44 :: 32 :: (b.cps.toList ++ (44 :: 32 :: (c.cps.toList ++ [41]))))) := by
  unfold tupleText
  rw [cps_app, cps_app]
  show _ ++ (a ++ (PySem.Str.ofString ", ") ++ (b ++ (PySem.Str.ofString ", ") ++ c)).cps.toList ++ _ = _
  rw [cps_app, cps_app, cps_app, cps_app]
  have e1 : (("(" : PySem.Str)).cps.toList = [40] := by decide +kernel
  have e2 : ((PySem.Str.ofString ", ")).cps.toList = [44, 32] := by decide +kernel
  have e3 : ((if [a, b, c].length == 1 then ",)" else ")" : String) : PySem.Str).cps.toList = [41] := by
    show ((if false = true then ",)" else ")" : String) : PySem.Str).cps.toList = [41]
    decide +kernel
  rw [e1, e2, e3]
  simp
theorem low_say : Low ("say" : PySem.Str).cps.toList := by
  have : ("say" : PySem.Str).cps.toList.all (fun c => decide (97 ≤ c) && decide (c ≤ 122)) = true := by decide +kernel
  intro c m
  have := List.all_eq_true.mp this c m
  simpa using this
theorem low_press : Low ("press" : PySem.Str).cps.toList := by
  have : ("press" : PySem.Str).cps.toList.all (fun c => decide (97 ≤ c) && decide (c ≤ 122)) = true := by decide +kernel
  intro c m
  have := List.all_eq_true.mp this c m
  simpa using this
theorem low_go : Low ("go" : PySem.Str).cps.toList := by
  have : ("go" : PySem.Str).cps.toList.all (fun c => decide (97 ≤ c) && decide (c ≤ 122)) = true := by decide +kernel
  intro c m
  have := List.all_eq_true.mp this c m
  simpa using this
theorem low_times : Low ("times" : PySem.Str).cps.toList := by
  have : ("times" : PySem.Str).cps.toList.all (fun c => decide (97 ≤ c) && decide (c ≤ 122)) = true := by decide +kernel
  intro c m
  have := List.all_eq_true.mp this c m
  simpa using this
theorem c_say : ("say" : PySem.Str).cps.toList = [115, 97, 121] := by decide +kernel
theorem c_press : ("press" : PySem.Str).cps.toList = [112, 114, 101, 115, 115] := by decide +kernel
theorem c_go : ("go" : PySem.Str).cps.toList = [103, 111] := by decide +kernel
theorem c_times : ("times" : PySem.Str).cps.toList = [116, 105, 109, 101, 115] := by decide +kernel
mutual
theorem shown_cI : ∀ (i : Itm) (d : Nat), ItOk d i → (PyData.shown (itD i)).cps.toList = cI i
  | .say z, _, .say h => by
    rw [itD, cI]
    simp only [PyData.shown, PyData.shownAll]
    rw [tup2, repr_low low_say, repr_low h.2.2, c_say]
    simp
  | .press z, _, .press h => by
    rw [itD, cI]
    simp only [PyData.shown, PyData.shownAll]
    rw [tup2, repr_low low_press, repr_low h.2.2, c_press]
    simp
  | .go z, _, .go h => by
    rw [itD, cI]
    simp only [PyData.shown, PyData.shownAll]
    rw [tup2, repr_low low_go, repr_low h.2.2, c_go]
    simp
  | .times n its, _, .times _ _ _ h => by
    rw [itD, cI]
    simp only [PyData.shown, PyData.shownAll]
    rw [tup3, repr_low low_times, c_times, shown_cL its _ h]
    simp
theorem shown_cL : ∀ (is : List Itm) (d : Nat), ItsOk d is → (listText (PyData.shownAll (itsD is))).cps.toList = 91 :: (cL is ++ [93])
  | [], _, _ => by
    rw [itsD, cL]
    simp only [PyData.shownAll]
    exact listText_nil
  | i :: is, d, .cons h1 h2 => by
    rw [itsD, cL]
    simp only [PyData.shownAll]
    rw [listText_cons, shown_cI i d h1, shown_cT is d h2]
    simp
theorem shown_cT : ∀ (is : List Itm) (d : Nat), ItsOk d is → ((PyData.shownAll (itsD is)).map fun t => 44 :: 32 :: t.cps.toList).flatten = cT is
  | [], _, _ => by rw [itsD, cT]; simp [PyData.shownAll]
  | i :: is, d, .cons h1 h2 => by
    rw [itsD, cT]
    simp only [PyData.shownAll, List.map_cons, List.flatten_cons]
    rw [shown_cI i d h1, shown_cT is d h2]
    simp
end
/-- what repr says of lists of items tells them -/
theorem shown_inj {is js : List Itm} {d d' : Nat} (h : ItsOk d is) (g : ItsOk d' js) (e : PyData.shown (.list (itsD is)) = PyData.shown (.list (itsD js))) : is = js := by
  have e1 := congrArg (fun z : PySem.Str => z.cps.toList) e
  simp only [PyData.shown] at e1
  rw [shown_cL is d h, shown_cL js d' g] at e1
  injection e1 with _ e2
  exact (cL_inj is js d d' [] [] h g e2).1
end Pn
end

section
set_option Elab.async false
set_option linter.all false
set_option maxRecDepth 100000
set_option maxHeartbeats 2000000
/-! x[i] by an own __getitem__; repr of longer data. -/
namespace L2
open PySem PySem.Spec PyProof.Rows
/-- the class comes by a def for x[i] -/
structure IxC (K : PySem.W.Frag) (C f : Addr) : Prop where
  at_ : PySem.W.findIn K (.ref C) "__getitem__" = some (some (.ref f))
  fn : PySem.W.fnIn K f = true
  ty : PySem.W.isFn K (.ref f) = true
def PlainIxO (b : Expr) : Prop := ∀ (x : Addr) i, subscripted b true (.ref x) i = runValue (.builtin "lifetime.subscript" ⟨[.ref x, i], []⟩)
def rIxO (C : Addr) (sp : Sp) (E : XK) : R2 := fun x y H Q => ∃ a dx fs, x = .ref a ∧ H a = some (.ins C dx fs) ∧ sp [.ref a, y] H Q E
theorem pe_ixO {X : Cx} {CX : CXT} {k : Nat} {C f : Addr} {fd : FuncData} {ps : List Str} {sp : Sp} {E : XK} {a b : Expr} {ta tb : TE} {pos : Pos} (c : IxC X.K C f) (F : FnOk X.prog X.w X.K X.mg X.base CX k f fd ps sp) (hr : Room (k + 1) X.A) (hbd : Binds X.K fd ps []) (hx : Passes CX X E)
    (ha : PE X a ta) (hb : PE X b tb) (hs : PlainIxO b) : PE X (.Subscript a b pos) (tOp (rIxO C sp E) ta tb) := by
  refine ⟨fun pins s σ H Q I h => ?_⟩
  refine Subscript_ (binT ha hb I h fun v u s2 x y H2 I2 rx ry q => ?_)
  obtain ⟨a', dx, fs, rfl, he, hp⟩ := q
  obtain rfl : v = Value.ref a' := rx
  obtain ⟨m, hF⟩ := I2.fr
  obtain ⟨mA, O, _, _, _, _⟩ := ins_get I2.hok he
  obtain ⟨od, J, _⟩ := O.look
  refine PySem.W.sub_K hF I2.ok.mod.kin J c.at_ c.fn c.ty ?_ (hs _ _)
  have hl := F.len _ _ _ _ hp
  refine wpAny_call (codeAny_mono (F.run X.A.in1 X.stack s2 H2 ⟨[.ref a', u], []⟩ [.ref a', u] [.ref a', y] _ E hr.in1 I2.env0.in1 (by
    have := hbd s2 [.ref a', u] I2.kIn (by simpa using hl)
    simpa using this) (.cons rfl (.cons ry .nil)) hp) fun r s' hq => ?_)
  cases r with
  | error e => exact hx pins σ H2 s2 e s' I2 hq
  | ok fl =>
    cases fl with
    | ret w =>
      obtain ⟨z, H', I', rz, q⟩ := I2.after hq
      exact ⟨z, H', I', rz, q⟩
    | next => exact False.elim hq
    | brk => exact False.elim hq
    | cont => exact False.elim hq
section
variable {X : Cx}
/-- repr(v), v data -/
def rReprB (K : PySem.W.Frag) : List V → Hp → VK → Prop := fun xs H Q => ∃ (v : V) (d : PyData), xs = [v] ∧ Dq K H v d ∧ d.showable = true ∧ d.depth ≤ 30 ∧ d.shown.length ≤ 1000000 ∧ Q (.str d.shown) H
theorem call_reprB (hgd : X.A.guards = some []) (hu : X.A.units + 64 < cLine) : CallR X (.builtin "repr") (rReprB X.K) := by
  intro pins s σ H xs us Q I r h
  obtain ⟨v, d, rfl, hd, hs, hdep, hsz, q⟩ := h
  obtain ⟨u, rfl, ru⟩ := vals1 r
  obtain ⟨as, R, hsm⟩ := hd.reads I ru
  have hz : d.shown.length ≤ sizeLine := by rw [sizeLine_eq]; omega
  have fin : ∀ t, Inv X pins σ H { s with toks := t } → EP X pins σ Q (.str d.shown s.toks) { s with toks := t } := fun t J => ⟨.str d.shown, H, J, ⟨_, rfl⟩, q⟩
  cases R with
  | none => exact PySem.P.repr_of_none (fin _ (I.tok _))
  | bool b =>
    exact PySem.P.repr_of_bool (by have z := fin _ (I.tok (s.toks + 1)); simp only [PyData.shown] at z; exact z)
  | int i t => exact PySem.P.repr_of_int (by simpa [PyData.showable] using hs) (by have z := fin _ (I.tok (s.toks + 1)); simp only [PyData.shown] at z; exact z)
  | str x t => exact PySem.P.repr_of_str (by have z := fin _ (I.tok (s.toks + 1)); simp only [PyData.shown] at z; exact z) (by simpa [PyData.shown] using hz)
  | list a1 a2 a3 a4 => exact repr_of_reads' (Reads.list a1 a2 a3 a4) hs hsm hgd (by omega) (fun _ _ e => e) (fun h' u tk hk => ⟨.str _, H, I.kept hk, ⟨_, rfl⟩, q⟩) hz
  | tuple a1 a2 a3 a4 => exact repr_of_reads' (Reads.tuple a1 a2 a3 a4) hs hsm hgd (by omega) (fun _ _ e => e) (fun h' u tk hk => ⟨.str _, H, I.kept hk, ⟨_, rfl⟩, q⟩) hz
  | dict a1 a2 a3 a4 a5 => exact repr_of_reads' (Reads.dict a1 a2 a3 a4 a5) hs hsm hgd (by omega) (fun _ _ e => e) (fun h' u tk hk => ⟨.str _, H, I.kept hk, ⟨_, rfl⟩, q⟩) hz
end
end L2
end

section
set_option Elab.async false
set_option linter.all false
set_option maxRecDepth 100000
set_option maxHeartbeats 4000000
/-! entries, and items as plain data. -/
namespace KP
open PySem PySem.Spec PyProof.Rows L2 Pn StX
abbrev sBodyEn : Stmt := inClass (top 49) 3
abbrev sPlain : Stmt := top 88
def spEnt (c : Cs) : Sp := fun vs H Q _ => ∃ (a dx e : Addr) (d : Int) (t : PySem.Str), vs = [.ref a] ∧ H a = some (.ins c.body dx (fBody e d t)) ∧ Q (.ref e) H
def spPlain (c : Cs) (D : Nat) : Sp := fun vs H Q _ => ∃ (v : V) (it : Itm), vs = [v] ∧ Io c H v it ∧ ItW D it ∧ ∀ u H', Same H H' → Rp (fun b => H b ≠ none) H' u it → Q u H'
def spPlainP (c : Cs) : Nat → Sp
  | 0 => spNo
  | d + 1 => spPlain c d
section
variable {P : Program} {w : World} {K : PySem.W.Frag} {mg : Str → Option Value} {base : Heap} {c : Cs}
theorem scBodyEn : FnScope ["self"] ["self"] (defScope sBodyEn) := ⟨rfl, rfl, rfl, by decide +kernel, rfl, by decide +kernel, by decide +kernel⟩
theorem ok_ent {f : Addr} {fd : FuncData} (F : Fun K "entries" "Body.entries" sBodyEn f fd) (B : BodT K mg c) : FnOk P w K mg base CX0 1 f fd ["self"] (spEnt c) := by
  refine F.ok scBodyEn (fun vs H Q E h => ?_) (fun cdv A outer s H vs Q E hr h => ?_)
  · obtain ⟨a, dx, b, n, t, rfl, _⟩ := h
    rfl
  · obtain ⟨a, dx, b, n, t, rfl, ha, q⟩ := h
    refine ⟨_, pss_one (ps_ret (pe_fld (pv 0) rfl)), ?_⟩
    exact ⟨_, rfl, a, c.body, dx, _, _, rfl, ha, B.body.cl, B.nEnt, rfl, q⟩
theorem scPlain : FnScope ["_law_item_here", "_law_one"] ["_law_item_here"] (defScope sPlain) := ⟨rfl, rfl, rfl, by decide +kernel, rfl, by decide +kernel, by decide +kernel⟩
theorem ok_plain1 (D : Nat) {f fZ pE fE : Addr} {fd fdZ fdE : FuncData} (F : Fun K "_law_plain" "_law_plain" sPlain f fd) (T1 : Blt mg) (B : BodT K mg c) (A' : Ap K c) (FE : Fun K "entries" "Body.entries" sBodyEn fE fdE) (bE : Binds K fdE ["self"] []) (gE : PropOf K c.body "entries" pE fE)
    (GZ : FnOk P w K mg base CX0 (2 + D) fZ fdZ ["_law_item_here"] (spPlainP c D)) (bZ : Binds K fdZ ["_law_item_here"] []) (gZ : Fn K mg "_law_plain" fZ) :
    FnOk P w K mg base CX0 (3 + D) f fd ["_law_item_here"] (spPlain c D) := by
  have GE : FnOk P w K mg base CX0 1 fE fdE ["self"] (spEnt c) := ok_ent FE B
  rw [show 3 + D = (2 + D) + 1 by omega]
  refine F.ok scPlain (fun vs H Q E h => ?_) (fun cdv A outer s H vs Q E hr h => ?_)
  · obtain ⟨v, it, rfl, _⟩ := h
    rfl
  · obtain ⟨v, it, rfl, hio, hw, q⟩ := h
    have hrZ : Room (2 + D) _ := hr
    have hr2 : Room 2 _ := hr.mono (by omega)
    refine ⟨_, pss_cons (ps_if (pt_val (pe_callB call_isi (by rfl) T1.isi bIsi (pa_cons (pv 0) (pa_cons (pe_glob (v := .ref c.say) rfl B.gSay rfl) pa_nil)))) (pss_one (ps_ret (pe_tup (pa_cons pe_str (pa_cons (pe_fld (pv 0) rfl) pa_nil))))) pss_nil)
      (pss_cons (ps_if (pt_val (pe_callB call_isi (by rfl) T1.isi bIsi (pa_cons (pv 0) (pa_cons (pe_glob (v := .ref c.press) rfl B.gPress rfl) pa_nil)))) (pss_one (ps_ret (pe_tup (pa_cons pe_str (pa_cons (pe_fld (pv 0) rfl) pa_nil))))) pss_nil)
      (pss_cons (ps_if (pt_val (pe_callB call_isi (by rfl) T1.isi bIsi (pa_cons (pv 0) (pa_cons (pe_glob (v := .ref c.go) rfl B.gGo rfl) pa_nil)))) (pss_one (ps_ret (pe_tup (pa_cons pe_str (pa_cons (pe_fld (pv 0) rfl) pa_nil))))) pss_nil)
      (pss_one (ps_ret (pe_tup (pa_cons pe_str (pa_cons (pe_fld (pv 0) rfl) (pa_cons (pe_lc (own := [("_law_one", 1)]) (g := gName 1) (tt := tYes) rfl scPlain.nd (pi_tup (pe_prop (pe_fld (pv 0) rfl) B.body.cl gE GE hr2 bE .nil pass0 rfl)) (blkOk_by (N := ["_law_item_here", "_law_one"]) (sc := defScope sPlain) (by decide +kernel)) (fun _ _ _ _ _ => pg_name (i := 1) scPlain.nd rfl (Or.inl rfl)) (fun _ _ _ _ _ => pts_nil)
        (fun _ _ _ _ _ => pe_call GZ hrZ rfl gZ.g gZ.k bZ .nil pass0 (pa_cons (pv 1) pa_nil))) pa_nil)))))))), ?_⟩
    have hno : ∀ {q : Addr}, H q = none → ¬ (H q ≠ none) := fun e z => z e
    cases hio with
    | @say a dx z h =>
      refine ⟨_, rfl, _, .ref c.say, _, _, true, rfl, .own _, B.say.tyx h, (kit_is B (.inl rfl) (.inl rfl)).trans (congrArg some (decide_eq_true rfl)), _, rfl, iteT ?_⟩
      exact ⟨_, rfl, a, _, _, _, _, rfl, h, B.say.cl, B.nSay, rfl, (by show 2 ≤ sizeLine; decide), fun t ht => q _ _ (same_new ht) (.say (hno ht) upd_same)⟩
    | @press a dx z h =>
      refine ⟨_, rfl, _, .ref c.say, _, _, false, rfl, .own _, B.press.tyx h, (kit_is B (.inr (.inl rfl)) (.inl rfl)).trans (congrArg some (decide_eq_false (Ne.symm A'.sp))), _, rfl, iteF ?_⟩
      refine ⟨_, rfl, _, .ref c.press, _, _, true, rfl, .own _, B.press.tyx h, (kit_is B (.inr (.inl rfl)) (.inr (.inl rfl))).trans (congrArg some (decide_eq_true rfl)), _, rfl, iteT ?_⟩
      exact ⟨_, rfl, a, _, _, _, _, rfl, h, B.press.cl, B.nPress, rfl, (by show 2 ≤ sizeLine; decide), fun t ht => q _ _ (same_new ht) (.press (hno ht) upd_same)⟩
    | @go a dx z h =>
      refine ⟨_, rfl, _, .ref c.say, _, _, false, rfl, .own _, B.go.tyx h, (kit_is B (.inr (.inr (.inl rfl))) (.inl rfl)).trans (congrArg some (decide_eq_false (Ne.symm A'.sg))), _, rfl, iteF ?_⟩
      refine ⟨_, rfl, _, .ref c.press, _, _, false, rfl, .own _, B.go.tyx h, (kit_is B (.inr (.inr (.inl rfl))) (.inr (.inl rfl))).trans (congrArg some (decide_eq_false (Ne.symm A'.pg))), _, rfl, iteF ?_⟩
      refine ⟨_, rfl, _, .ref c.go, _, _, true, rfl, .own _, B.go.tyx h, (kit_is B (.inr (.inr (.inl rfl))) (.inr (.inr (.inl rfl)))).trans (congrArg some (decide_eq_true rfl)), _, rfl, iteT ?_⟩
      exact ⟨_, rfl, a, _, _, _, _, rfl, h, B.go.cl, B.nGo, rfl, (by show 2 ≤ sizeLine; decide), fun t ht => q _ _ (same_new ht) (.go (hno ht) upd_same)⟩
    | @times a dx b n its h hB =>
      cases hw with
      | @times d' _ _ n0 n1 l6 hw =>
        refine ⟨_, rfl, _, .ref c.say, _, _, false, rfl, .own _, B.times.tyx h, (kit_is B (.inr (.inr (.inr rfl))) (.inl rfl)).trans (congrArg some (decide_eq_false (Ne.symm B.ne1))), _, rfl, iteF ?_⟩
        refine ⟨_, rfl, _, .ref c.press, _, _, false, rfl, .own _, B.times.tyx h, (kit_is B (.inr (.inr (.inr rfl))) (.inr (.inl rfl))).trans (congrArg some (decide_eq_false (Ne.symm B.ne2))), _, rfl, iteF ?_⟩
        refine ⟨_, rfl, _, .ref c.go, _, _, false, rfl, .own _, B.times.tyx h, (kit_is B (.inr (.inr (.inr rfl))) (.inr (.inr (.inl rfl)))).trans (congrArg some (decide_eq_false (Ne.symm B.ne3))), _, rfl, iteF ?_⟩
        cases hB with
        | @mk _ dxb e vs _ h1 h2 h3 =>
          refine ⟨_, rfl, a, _, _, _, _, rfl, h, B.times.cl, B.nNum, rfl, _, rfl, a, _, _, _, _, rfl, h, B.times.cl, B.nBod, rfl, b, _, _, rfl, h1, b, _, _, _, _, rfl, h1, e, rfl, ⟨_, SqT.of h2⟩, fun L hL => ?_⟩
          have hx := h3.len
          refine lc_tup (xs := vs) (fun i Hk => Same H Hk ∧ ∃ us, Hk L = some (.lst us) ∧ Rps (fun b => b = L ∨ H b ≠ none) Hk us (its.take i)) ⟨same_new hL, [], upd_same, by rw [List.take_zero]; exact .nil⟩ (fun i Hk _ hk => SqT.of (hk.1 _ _ h2)) ?_ ?_
          · rintro i x Hk hxi ⟨hS, us, hLk, hR⟩
            obtain ⟨it2, hit, hio2⟩ := h3.get hxi
            have tk : its.take (i + 1) = its.take i ++ [it2] := by
              rw [List.take_add_one, hit]; rfl
            have il : i < vs.length := (List.getElem?_eq_some_iff.mp hxi).1
            have ul : us.length = i := by rw [hR.len, List.length_take]; omega
            refine ⟨rfl, _, rfl, x, it2, rfl, hio2.keep (.same hS), hw.get hit, fun u H' S' hr' => ?_⟩
            refine ⟨us, S' _ _ hLk, by rw [ul]; show i < 16777216; omega, fun b o e => ?_, us ++ [u], upd_same, ?_⟩
            · rw [upd_ne (ne_of_none e hL)]
              exact S' _ _ (hS _ _ e)
            · rw [tk]
              refine Rps.app (Rps.mono (fun b h => h) (fun b o nb h => ?_) _ us hR) (.cons (Rp.mono (fun b h => ?_) (fun b o nb h => ?_) it2 u hr') .nil)
              · have bL : b ≠ L := fun z => nb (.inl z)
                rw [upd_ne bL]
                exact S' _ _ h
              · rcases h with rfl | h
                · rw [hLk]; exact Option.some_ne_none _
                · intro z
                  cases e : H b with
                  | none => exact h e
                  | some o => rw [hS _ _ e] at z; cases z
              · have bL : b ≠ L := fun z => nb (by rw [z, hLk]; exact Option.some_ne_none _)
                rw [upd_ne bL]
                exact h
          · rintro Hk ⟨hS, us, hLk, hR⟩
            have tl : its.take vs.length = its := List.take_of_length_le (by omega)
            rw [tl] at hR
            refine ⟨(by show 3 ≤ sizeLine; decide), fun t ht => q _ _ (hS.trans (same_new ht)) (.times (fun z => ?_) (fun z => z hL) upd_same ((same_new ht) _ _ hLk) ?_)⟩
            · cases e : H t with
              | none => exact z e
              | some o => rw [hS _ _ e] at ht; cases ht
            · exact Rps.mono (fun b h => .inr h) (fun b o nb h => (same_new ht) _ _ h) its us hR
theorem ok_plain {f pE fE : Addr} {fd fdE : FuncData} (F : Fun K "_law_plain" "_law_plain" sPlain f fd) (T1 : Blt mg) (B : BodT K mg c) (A' : Ap K c) (FE : Fun K "entries" "Body.entries" sBodyEn fE fdE) (bE : Binds K fdE ["self"] []) (gE : PropOf K c.body "entries" pE fE) (bZ : Binds K fd ["_law_item_here"] []) (gZ : Fn K mg "_law_plain" f) :
    FnOk P w K mg base CX0 5 f fd ["_law_item_here"] (spPlain c 2) :=
  ok_plain1 2 F T1 B A' FE bE gE (ok_plain1 1 F T1 B A' FE bE gE (ok_plain1 0 F T1 B A' FE bE gE ok_no bZ gZ) bZ gZ) bZ gZ
end
end KP
end

section
set_option Elab.async false
set_option linter.all false
set_option maxRecDepth 100000
set_option maxHeartbeats 4000000
/-! values.py: lists of words, pairs of words. -/
namespace KP
open PySem PySem.Spec PyProof.Rows L2 Pn
abbrev sAllW : Stmt := top 39
abbrev sPairW : Stmt := top 40
def Kds (K : PySem.W.Frag) (H : Hp) (xs : List V) (ds : List PyData) : Prop := xs.length = ds.length ∧ ∀ (i : Nat) x, xs[i]? = some x → ∃ d, ds[i]? = some d ∧ Kd K H x d ∧ ∀ z, d = .str z → z.length ≤ 1000
def spAllW (K : PySem.W.Frag) : Sp := fun vs H Q _ => ∃ (l : Addr) (xs : List V) (ds : List PyData), vs = [.ref l] ∧ (SqL K H l xs ∨ SqT K H l xs) ∧ Kds K H xs ds ∧ xs.length ≤ 1000 ∧ ∀ H', Ext H H' → Q (.bl (ds.all wordD)) H'
def pairD : PyData → Bool
  | .tuple [a, b] => wordD a && wordD b
  | _ => false
/-- a value of the kind of d; a tuple's items are of the kinds of its items -/
structure PrV (K : PySem.W.Frag) (H : Hp) (x : V) (d : PyData) : Prop where
  ty : TyX K H x (.type (kindD d))
  tp : ∀ ds, d = .tuple ds → ∃ a xs, x = .ref a ∧ SqT K H a xs ∧ xs.length = ds.length ∧ xs.length ≤ 1000 ∧ (ds.length = 2 → Kds K H xs ds)
def spPairW (K : PySem.W.Frag) : Sp := fun vs H Q _ => ∃ (x : V) (d : PyData), vs = [x] ∧ PrV K H x d ∧ ∀ H', Ext H H' → Q (.bl (pairD d)) H'
structure BltW (mg : PySem.Str → Option Value) : Prop where
  all : mg "all" = none
  tuple : mg "tuple" = none
  dict : mg "dict" = none
theorem kit_lt {K : PySem.W.Frag} : PySem.W.kitAny K (.type "tuple") [.type "list", .type "tuple"] = some true := by
  have e1 : PySem.W.kitOne K (.type "tuple") (.type "list") = some false := kit_ty (by decide +kernel)
  have e2 : PySem.W.kitOne K (.type "tuple") (.type "tuple") = some true := kit_ty (by decide +kernel)
  unfold PySem.W.kitAny
  rw [e1]
  show PySem.W.kitAny K (.type "tuple") [.type "tuple"] = some true
  unfold PySem.W.kitAny
  rw [e2]
theorem isD_tup (d : PyData) : isD "tuple" d = true ↔ ∃ ds, d = .tuple ds := by
  cases d <;> simp only [isD, kindD]
  all_goals first
    | exact ⟨fun h => absurd h (by decide +kernel), fun ⟨z, h⟩ => by cases h⟩
    | exact ⟨fun _ => ⟨_, rfl⟩, fun _ => by decide +kernel⟩
theorem kds_strs {K : PySem.W.Frag} {H : Hp} {zs : List PySem.Str} (h : ∀ z ∈ zs, z.length ≤ 1000) : Kds K H (zs.map V.str) (zs.map PyData.str) := by
  refine ⟨by rw [List.length_map, List.length_map], fun i x e => ?_⟩
  rw [List.getElem?_map] at e
  cases e2 : zs[i]? with
  | none => rw [e2] at e; cases e
  | some z =>
    rw [e2] at e
    cases e
    refine ⟨.str z, by rw [List.getElem?_map, e2]; rfl, Kd.str z, fun y e3 => ?_⟩
    cases e3
    exact h z (List.mem_of_getElem? e2)
theorem PrV.pair {K : PySem.W.Frag} {H : Hp} {q : Addr} {a b : PySem.Str} (h : SqT K H q [.str a, .str b]) (la : a.length ≤ 1000) (lb : b.length ≤ 1000) : PrV K H (.ref q) (.tuple [.str a, .str b]) := by
  refine ⟨tyT h, fun ds e => ?_⟩
  cases e
  refine ⟨q, _, rfl, h, rfl, by show 2 ≤ 1000; omega, fun _ => ?_⟩
  have := kds_strs (K := K) (H := H) (zs := [a, b]) (fun z m => by simp at m; rcases m with rfl | rfl <;> assumption)
  exact this
theorem all_take {p : PyData → Bool} {ds : List PyData} {i : Nat} {d : PyData} (e : ds[i]? = some d) : (ds.take (i + 1)).map p = (ds.take i).map p ++ [p d] := by
  rw [List.take_add_one, e, List.map_append]
  rfl
section
variable {P : Program} {w : World} {K : PySem.W.Frag} {mg : Str → Option Value} {base : Heap}
theorem scAllW : FnScope ["value", "word"] ["value"] (defScope sAllW) := ⟨rfl, rfl, rfl, by decide +kernel, rfl, by decide +kernel, by decide +kernel⟩
theorem ok_allW {f fW : Addr} {fd fdW : FuncData} (F : Fun K "are_all_words" "are_all_words" sAllW f fd) (T : Blt mg) (U : Blt2 mg) (V3 : BltW mg) (FW : Fun K "is_word" "is_word" sIsWordV fW fdW) (bW : Binds K fdW ["value"] []) (gW : Fn K mg "is_word" fW) :
    FnOk P w K mg base CX0 2 f fd ["value"] (spAllW K) := by
  have GW : FnOk P w K mg base CX0 1 fW fdW ["value"] (spWordV K) := ok_wordV FW T U
  refine F.ok scAllW (fun vs H Q E h => ?_) (fun cdv A outer s H vs Q E hr h => ?_)
  · obtain ⟨l, xs, ds, rfl, _⟩ := h
    rfl
  · obtain ⟨l, xs, ds, rfl, hl, ⟨ln, hk⟩, hz, k⟩ := h
    have hr1 : Room 1 _ := hr
    have bool : ∀ bs : List Bool, (bs.map V.bl).length = bs.length := fun bs => List.length_map ..
    have core : ∀ (H1 : Hp) (L : Addr), Ext H H1 → H1 L = none → Ext H (upd H1 L (.lst [])) := fun H1 L e n => e.trans (Ext.upd n)
    rcases hl with hl | hl
    · refine ⟨_, pss_one (ps_ret (pe_and (pe_callB call_isiT (by rfl) T.isi bIsi (pa_cons (pv 0) (pa_cons (pe_tup (pa_cons (pe_bltn (v := .ty "list") (by rfl) T.list (by decide +kernel) rfl) (pa_cons (pe_bltn (v := .ty "tuple") (by rfl) V3.tuple (by decide +kernel) rfl) pa_nil))) pa_nil)))
        (pe_one (pe_callB (cr_all rfl) (by rfl) V3.all (by decide +kernel) (pa_cons (pe_lc (own := [("word", 1)]) (g := gName 1) (tt := tYes) rfl scAllW.nd (pi_list (pv 0)) (blkOk_by (N := ["value", "word"]) (sc := defScope sAllW) (by decide +kernel)) (fun _ _ _ _ _ => pg_name (i := 1) scAllW.nd rfl (Or.inl rfl)) (fun _ _ _ _ _ => pts_nil)
          (fun _ _ _ _ _ => pe_call GW hr1 rfl gW.g gW.k bW .nil pass0 (pa_cons (pv 1) pa_nil))) pa_nil))))), ?_⟩
      refine ⟨_, rfl, by show 2 ≤ 16777216; omega, fun t ht => ?_⟩
      have e1 : Ext H (upd H t (.tup [.ty "list", .ty "tuple"])) := Ext.upd ht
      refine ⟨.ref l, t, _, .type "list", [.type "list", .type "tuple"], true, rfl, upd_same, .cons (.ty _) (.cons (.ty _) .nil), tyL (hl.ext e1), by rfl, true, rfl, ?_⟩
      refine ⟨_, rfl, l, rfl, ⟨_, hl.ext e1⟩, fun L hL => ?_⟩
      refine lc_list (xs := xs) (fun i Hk => Ext H Hk ∧ Hk L = some (.lst (((ds.take i).map wordD).map V.bl))) ⟨e1.trans (Ext.upd hL), upd_same⟩ (fun i Hk _ h => hl.ext h.1) ?_ ?_
      · rintro i x Hk ex ⟨eH, hLk⟩
        obtain ⟨d, ed, kd, sz⟩ := hk i x ex
        refine ⟨rfl, _, rfl, x, d, rfl, Kd.keep (.same eH) kd, sz, ?_⟩
        refine ⟨_, hLk, ?_, ?_, ?_⟩
        · rw [bool, List.length_map, List.length_take]
          show _ < 16777216
          omega
        · intro c o e
          by_cases z : c = L
          · subst z
            have : H c = none := by
              cases e3 : H c with
              | none => rfl
              | some o2 => rw [e1 c o2 e3] at hL; cases hL
            rw [this] at e; cases e
          · rw [upd_ne z]; exact eH c o e
        · rw [upd_same, all_take ed, List.map_append]; rfl
      · rintro Hk ⟨eH, hLk⟩
        rw [ln, List.take_length] at hLk
        refine ⟨L, ds.map wordD, rfl, SqL.of hLk, ?_⟩
        have e5 : (ds.map wordD).all id = ds.all wordD := by rw [List.all_map]; rfl
        rw [e5]
        exact k Hk eH
    · refine ⟨_, pss_one (ps_ret (pe_and (pe_callB call_isiT (by rfl) T.isi bIsi (pa_cons (pv 0) (pa_cons (pe_tup (pa_cons (pe_bltn (v := .ty "list") (by rfl) T.list (by decide +kernel) rfl) (pa_cons (pe_bltn (v := .ty "tuple") (by rfl) V3.tuple (by decide +kernel) rfl) pa_nil))) pa_nil)))
        (pe_one (pe_callB (cr_all rfl) (by rfl) V3.all (by decide +kernel) (pa_cons (pe_lc (own := [("word", 1)]) (g := gName 1) (tt := tYes) rfl scAllW.nd (pi_tup (pv 0)) (blkOk_by (N := ["value", "word"]) (sc := defScope sAllW) (by decide +kernel)) (fun _ _ _ _ _ => pg_name (i := 1) scAllW.nd rfl (Or.inl rfl)) (fun _ _ _ _ _ => pts_nil)
          (fun _ _ _ _ _ => pe_call GW hr1 rfl gW.g gW.k bW .nil pass0 (pa_cons (pv 1) pa_nil))) pa_nil))))), ?_⟩
      refine ⟨_, rfl, by show 2 ≤ 16777216; omega, fun t ht => ?_⟩
      have e1 : Ext H (upd H t (.tup [.ty "list", .ty "tuple"])) := Ext.upd ht
      refine ⟨.ref l, t, _, .type "tuple", [.type "list", .type "tuple"], true, rfl, upd_same, .cons (.ty _) (.cons (.ty _) .nil), tyT (hl.ext e1), kit_lt, true, rfl, ?_⟩
      refine ⟨_, rfl, l, rfl, ⟨_, hl.ext e1⟩, fun L hL => ?_⟩
      refine lc_tup (xs := xs) (fun i Hk => Ext H Hk ∧ Hk L = some (.lst (((ds.take i).map wordD).map V.bl))) ⟨e1.trans (Ext.upd hL), upd_same⟩ (fun i Hk _ h => hl.ext h.1) ?_ ?_
      · rintro i x Hk ex ⟨eH, hLk⟩
        obtain ⟨d, ed, kd, sz⟩ := hk i x ex
        refine ⟨rfl, _, rfl, x, d, rfl, Kd.keep (.same eH) kd, sz, ?_⟩
        refine ⟨_, hLk, ?_, ?_, ?_⟩
        · rw [bool, List.length_map, List.length_take]
          show _ < 16777216
          omega
        · intro c o e
          by_cases z : c = L
          · subst z
            have : H c = none := by
              cases e3 : H c with
              | none => rfl
              | some o2 => rw [e1 c o2 e3] at hL; cases hL
            rw [this] at e; cases e
          · rw [upd_ne z]; exact eH c o e
        · rw [upd_same, all_take ed, List.map_append]; rfl
      · rintro Hk ⟨eH, hLk⟩
        rw [ln, List.take_length] at hLk
        refine ⟨L, ds.map wordD, rfl, SqL.of hLk, ?_⟩
        have e5 : (ds.map wordD).all id = ds.all wordD := by rw [List.all_map]; rfl
        rw [e5]
        exact k Hk eH
theorem scPairW : FnScope ["value"] ["value"] (defScope sPairW) := ⟨rfl, rfl, rfl, by decide +kernel, rfl, by decide +kernel, by decide +kernel⟩
theorem ok_pairW {f fW fA : Addr} {fd fdW fdA : FuncData} (F : Fun K "is_pair_of_words" "is_pair_of_words" sPairW f fd) (T : Blt mg) (U : Blt2 mg) (V3 : BltW mg) (FW : Fun K "is_word" "is_word" sIsWordV fW fdW) (bW : Binds K fdW ["value"] []) (gW : Fn K mg "is_word" fW)
    (FA : Fun K "are_all_words" "are_all_words" sAllW fA fdA) (bA : Binds K fdA ["value"] []) (gA : Fn K mg "are_all_words" fA) :
    FnOk P w K mg base CX0 3 f fd ["value"] (spPairW K) := by
  have GA : FnOk P w K mg base CX0 2 fA fdA ["value"] (spAllW K) := ok_allW FA T U V3 FW bW gW
  refine F.ok scPairW (fun vs H Q E h => ?_) (fun cdv A outer s H vs Q E hr h => ?_)
  · obtain ⟨x, d, rfl, _⟩ := h
    rfl
  · obtain ⟨x, d, rfl, pr, k⟩ := h
    have hr2 : Room 2 _ := hr
    refine ⟨_, pss_one (ps_ret (pe_and (pe_callB call_isi (by rfl) T.isi bIsi (pa_cons (pv 0) (pa_cons (pe_bltn (v := .ty "tuple") (by rfl) V3.tuple (by decide +kernel) rfl) pa_nil)))
      (pe_and (pe_cmpR op_eq (pe_callB call_len (by rfl) T.len PySem.boot_len (pa_cons (pv 0) pa_nil)) pe_int (nomark _))
      (pe_one (pe_call GA hr2 rfl gA.g gA.k bA .nil pass0 (pa_cons (pv 0) pa_nil)))))), ?_⟩
    refine ⟨_, rfl, x, _, _, _, _, rfl, .ty _, pr.ty, kit_tuple d, ?_⟩
    by_cases hd : ∃ ds, d = .tuple ds
    · obtain ⟨ds, rfl⟩ := hd
      rw [(isD_tup (.tuple ds)).mpr ⟨ds, rfl⟩]
      obtain ⟨a, xs, rfl, hS, ln, z, kk⟩ := pr.tp ds rfl
      refine ⟨true, rfl, _, rfl, _, xs.length, rfl, .inr ⟨xs, hS, rfl⟩, rfl, _, rfl, ?_⟩
      by_cases l2 : ds.length = 2
      · rw [show decide (V.int ((xs.length : Nat) : Int) = V.int 2) = true from decide_eq_true (by rw [ln, l2]; rfl)]
        refine ⟨_, rfl, a, xs, ds, rfl, .inr hS, kk l2, z, fun H' e => ?_⟩
        have e2 : pairD (.tuple ds) = ds.all wordD := by
          match ds, l2 with
          | [a, b], _ => show (wordD a && wordD b) = _; simp
        rw [← e2]
        exact k H' e
      · rw [show decide (V.int ((xs.length : Nat) : Int) = V.int 2) = false from decide_eq_false (fun e => l2 (by rw [ln] at e; injection e with e; omega))]
        have e2 : pairD (.tuple ds) = false := by
          match ds with
          | [] => rfl
          | [a] => rfl
          | [a, b] => exact absurd rfl l2
          | a :: b :: c :: r => rfl
        rw [e2] at k
        exact k H Ext.rfl'
    · have e1 : isD "tuple" d = false := by
        cases e : isD "tuple" d with
        | false => rfl
        | true => exact absurd ((isD_tup d).mp e) hd
      rw [e1]
      refine ⟨false, rfl, ?_⟩
      have e2 : pairD d = false := by
        cases d with
        | tuple ds => exact absurd ⟨ds, rfl⟩ hd
        | _ => rfl
      rw [e2] at k
      exact k H Ext.rfl'
end
end KP
end

section
set_option Elab.async false
set_option linter.all false
set_option maxRecDepth 100000
set_option maxHeartbeats 4000000
/-! Lists of plain items, as repr wants them. -/
namespace Pn
open PySem PySem.Spec PyProof.Rows L2
mutual
theorem itD_noDict : ∀ i : Itm, PyData.hasDict (itD i) = false
  | .say z => by rw [itD]; simp [PyData.hasDict, PyData.hasDictAll]
  | .press z => by rw [itD]; simp [PyData.hasDict, PyData.hasDictAll]
  | .go z => by rw [itD]; simp [PyData.hasDict, PyData.hasDictAll]
  | .times n its => by rw [itD]; simp [PyData.hasDict, PyData.hasDictAll, itsD_noDict its]
theorem itsD_noDict : ∀ is : List Itm, PyData.hasDictAll (itsD is) = false
  | [] => by rw [itsD]; simp [PyData.hasDictAll]
  | i :: is => by rw [itsD]; simp [PyData.hasDictAll, itD_noDict i, itsD_noDict is]
end
mutual
theorem itD_show : ∀ (i : Itm) (d : Nat), ItOk d i → PyData.showable (itD i) = true
  | .say z, _, _ => by rw [itD]; simp [PyData.showable, PyData.showableAll]
  | .press z, _, _ => by rw [itD]; simp [PyData.showable, PyData.showableAll]
  | .go z, _, _ => by rw [itD]; simp [PyData.showable, PyData.showableAll]
  | .times n its, _, .times a b _ h => by
    have : n.natAbs.log2 < 1920 := by
      have h1 : n.natAbs < 2 ^ 31 := by omega
      have h2 : n.natAbs.log2 < 31 := by
        rcases Nat.eq_zero_or_pos n.natAbs with e | e
        · rw [e]; decide
        · exact (Nat.log2_lt (by omega)).mpr h1
      omega
    rw [itD]
    simp [PyData.showable, PyData.showableAll, this, itsD_show its _ h]
theorem itsD_show : ∀ (is : List Itm) (d : Nat), ItsOk d is → PyData.showableAll (itsD is) = true
  | [], _, _ => by rw [itsD]; simp [PyData.showableAll]
  | i :: is, _, .cons a b => by rw [itsD]; simp [PyData.showableAll, itD_show i _ a, itsD_show is _ b]
end
def bC : Nat → Nat
  | 0 => 40
  | d + 1 => 40 + 20 * (bC d + 2)
mutual
theorem cI_len : ∀ (d : Nat) (i : Itm), ItOk d i → (cI i).length ≤ bC d
  | d, .say z, .say h => by
    have : 40 ≤ bC d := by cases d <;> unfold bC <;> omega
    have := h.2.1
    rw [cI]
    simp only [List.length_append, List.length_cons, List.length_nil]
    omega
  | d, .press z, .press h => by
    have : 40 ≤ bC d := by cases d <;> unfold bC <;> omega
    have := h.2.1
    rw [cI]
    simp only [List.length_append, List.length_cons, List.length_nil]
    omega
  | d, .go z, .go h => by
    have : 40 ≤ bC d := by cases d <;> unfold bC <;> omega
    have := h.2.1
    rw [cI]
    simp only [List.length_append, List.length_cons, List.length_nil]
    omega
  | d + 1, .times n its, .times a b l h => by
    have n1 : (PySem.Str.ofString (toString n)).length ≤ 10 := toString_length_le a (by decide) (by omega)
    have n2 : (PySem.Str.ofString (toString n)).cps.toList.length ≤ 10 := n1
    have := cL_len d its h
    have : its.length * (bC d + 2) ≤ 20 * (bC d + 2) := Nat.mul_le_mul_right _ (by omega)
    rw [cI]
    unfold bC
    simp only [List.length_append, List.length_cons, List.length_nil]
    omega
theorem cL_len : ∀ (d : Nat) (is : List Itm), ItsOk d is → (cL is).length ≤ is.length * (bC d + 2)
  | d, [], _ => by rw [cL]; simp
  | d, i :: is, .cons a b => by
    have := cI_len d i a
    have := cT_len d is b
    rw [cL, List.length_append, List.length_cons, Nat.succ_mul]
    omega
theorem cT_len : ∀ (d : Nat) (is : List Itm), ItsOk d is → (cT is).length ≤ is.length * (bC d + 2)
  | d, [], _ => by rw [cT]; simp
  | d, i :: is, .cons a b => by
    have := cI_len d i a
    have := cT_len d is b
    rw [cT, List.length_cons, List.length_cons, List.length_append, List.length_cons, Nat.succ_mul]
    omega
end
structure Shows (x : PyData) : Prop where
  s : x.showable = true
  d : x.depth ≤ 30
  l : x.shown.length ≤ 1000000
theorem shows_its {is : List Itm} (h : ItsOk 2 is) (l : is.length ≤ 20) : Shows (.list (itsD is)) := by
  refine ⟨?_, ?_, ?_⟩
  · have := itsD_show is 2 h
    simp [PyData.showable, this]
  · have := itsD_deep is 2 h
    simp [PyData.depth]
    omega
  · have e : (PyData.shown (.list (itsD is))).cps.toList = 91 :: (cL is ++ [93]) := by
      simp only [PyData.shown]
      exact shown_cL is 2 h
    have := cL_len 2 is h
    have b2 : bC 2 = 17680 := by decide
    have : is.length * (bC 2 + 2) ≤ 20 * (bC 2 + 2) := Nat.mul_le_mul_right _ l
    rw [lenL, e]
    simp only [List.length_cons, List.length_append, List.length_nil]
    omega
theorem dq_its {K : PySem.W.Frag} {B : Addr → Prop} {H : Hp} {l : Addr} {vs : List V} {is : List Itm} (hl : H l = some (.lst vs)) (hR : Rps B H vs is) (hO : ItsOk 2 is) : Dq K H (.ref l) (.list (itsD is)) := by
  refine .pl (.lst (SqL.of hl) (Rps.dp is vs hR)) ?_ (its_shaped hO (by decide)) (SeqAt.eqv_refl _ ?_)
  · simp [PyData.hasDict, itsD_noDict is]
  · simp [PyData.canLay0, itsD_lay is 2 hO]
end Pn
end

section
set_option Elab.async false
set_option linter.all false
set_option maxRecDepth 100000
set_option maxHeartbeats 4000000
/-! Modes of items; how many items there are. -/
namespace Pn
open PySem PySem.Spec PyProof.Rows L2
mutual
/-- the modes to which an item changes -/
def gosI : Itm → List PySem.Str
  | .say _ => []
  | .press _ => []
  | .go z => [z]
  | .times _ its => gosL its
def gosL : List Itm → List PySem.Str
  | [] => []
  | i :: is => gosI i ++ gosL is
end
mutual
/-- how many items there are in all -/
def szI : Itm → Nat
  | .say _ => 1
  | .press _ => 1
  | .go _ => 1
  | .times _ its => 1 + szL its
def szL : List Itm → Nat
  | [] => 0
  | i :: is => szI i + szL is
end
theorem gosL_app : ∀ a b : List Itm, gosL (a ++ b) = gosL a ++ gosL b
  | [], b => by rw [gosL]; rfl
  | i :: a, b => by rw [List.cons_append, gosL, gosL, gosL_app a b, List.append_assoc]
theorem szL_app : ∀ a b : List Itm, szL (a ++ b) = szL a + szL b
  | [], b => by rw [szL, List.nil_append, Nat.zero_add]
  | i :: a, b => by rw [List.cons_append, szL, szL, szL_app a b, Nat.add_assoc]
theorem szI_pos (i : Itm) : 1 ≤ szI i := by cases i <;> rw [szI] <;> omega
theorem len_szL : ∀ a : List Itm, a.length ≤ szL a
  | [] => Nat.zero_le _
  | i :: a => by have := szI_pos i; have := len_szL a; rw [szL, List.length_cons]; omega
def capI : Nat → Nat
  | 0 => 1
  | d + 1 => 1 + 6 * capI d
mutual
theorem szI_cap : ∀ {d : Nat} {i : Itm}, ItW d i → szI i ≤ capI d
  | d, _, .say _ => by rw [szI]; cases d <;> unfold capI <;> omega
  | d, _, .press _ => by rw [szI]; cases d <;> unfold capI <;> omega
  | d, _, .go _ => by rw [szI]; cases d <;> unfold capI <;> omega
  | d + 1, _, .times a b l h => by
    have := szL_cap h
    have := Nat.mul_le_mul_right (capI d) l
    rw [szI]; unfold capI; omega
theorem szL_cap : ∀ {d : Nat} {is : List Itm}, ItsW d is → szL is ≤ is.length * capI d
  | d, _, .nil => by rw [szL]; exact Nat.zero_le _
  | d, _, .cons a b => by have := szI_cap a; have := szL_cap b; rw [szL, List.length_cons, Nat.succ_mul]; omega
end
theorem szL_2 {is : List Itm} (h : ItsW 2 is) (l : is.length ≤ 6) : szL is ≤ 300 := by
  have h1 := szL_cap h
  have e : capI 2 = 43 := by decide
  have h2 : is.length * 43 ≤ 6 * 43 := Nat.mul_le_mul_right _ l
  rw [e] at h1
  omega
mutual
theorem gosI_sz : ∀ i : Itm, (gosI i).length ≤ szI i
  | .say _ => by rw [gosI, szI]; exact Nat.zero_le _
  | .press _ => by rw [gosI, szI]; exact Nat.zero_le _
  | .go _ => by rw [gosI, szI]; exact Nat.le_refl _
  | .times _ its => by rw [gosI, szI]; have := gosL_sz its; omega
theorem gosL_sz : ∀ is : List Itm, (gosL is).length ≤ szL is
  | [] => by rw [gosL, szL]; exact Nat.zero_le _
  | i :: is => by rw [gosL, szL, List.length_append]; have := gosI_sz i; have := gosL_sz is; omega
end
theorem Ios.snoc {c : Cs} {H : Hp} : ∀ {vs : List V} {is : List Itm}, Ios c H vs is → vs ≠ [] → ∃ ws v js i, vs = ws ++ [v] ∧ is = js ++ [i] ∧ Ios c H ws js ∧ Io c H v i
  | _, _, .nil, h => absurd rfl h
  | _, _, @Ios.cons _ _ v [] i [] a .nil, _ => ⟨[], v, [], i, rfl, rfl, .nil, a⟩
  | _, _, @Ios.cons _ _ v (v2 :: vs) i is a b, _ => by
    obtain ⟨ws, v', js, i', e1, e2, g, x⟩ := Ios.snoc b (by simp)
    exact ⟨v :: ws, v', i :: js, i', by rw [e1]; rfl, by rw [e2]; rfl, .cons a g, x⟩
theorem ItsW.split {d : Nat} : ∀ {a b : List Itm}, ItsW d (a ++ b) → ItsW d a ∧ ItsW d b
  | [], b, h => ⟨.nil, h⟩
  | i :: a, b, h => by
    cases h with
    | cons x y => exact ⟨.cons x (ItsW.split y).1, (ItsW.split y).2⟩
theorem ItsW.app2 {d : Nat} : ∀ {a b : List Itm}, ItsW d a → ItsW d b → ItsW d (a ++ b)
  | [], b, _, h => h
  | i :: a, b, h, g => by
    cases h with
    | cons x y => exact .cons x (ItsW.app2 y g)
theorem while_m {c : TT} {tb : TS} {D : Ends} {σ : L2.St} {H : Hp} (Pv : Nat → L2.St → Hp → Prop) (m0 : Nat) (h0 : Pv m0 σ H)
    (hs : ∀ m σ H, Pv m σ H → c σ H fun b H1 => if b = true then tb { D with nx := fun σ' H' => ∃ m', m' < m ∧ Pv m' σ' H', ct := fun σ' H' => ∃ m', m' < m ∧ Pv m' σ' H', bk := D.nx } σ H1 else D.nx σ H1)
    (mono : ∀ σ H Q Q', (∀ b H1, Q b H1 → Q' b H1) → c σ H Q → c σ H Q') : tWhile c tb D σ H := by
  refine ⟨Pv, ⟨_, h0⟩, fun m σ H p => ?_⟩
  refine mono σ H _ _ (fun b H1 q => ?_) (hs m σ H p)
  cases b with
  | true => exact ⟨_, fun σ' H' z => z, q⟩
  | false => exact q
end Pn
end

section
set_option Elab.async false
set_option linter.all false
set_option maxRecDepth 100000
set_option maxHeartbeats 4000000
/-! goes_of -/
namespace KP
open PySem PySem.Spec PyProof.Rows L2 Pn StX
abbrev sGoes : Stmt := top 63
def spGoes (c : Cs) : Sp := fun vs H Q _ => ∃ (b : Addr) (its : List Itm), vs = [.ref b] ∧ Bo c H b its ∧ ItsW 2 its ∧ its.length ≤ 6 ∧
  ∀ (F : Addr) (fs : List PySem.Str) (H' : Hp), Ext H H' → H F = none → H' F = some (.lst (fs.map V.str)) → (∀ x, x ∈ fs ↔ x ∈ gosL its) → fs.length = (gosL its).length → Q (.ref F) H'
section
variable {P : Program} {w : World} {K : PySem.W.Frag} {mg : Str → Option Value} {base : Heap} {c : Cs}
theorem scGoes : FnScope ["body", "found", "todo", "item"] ["body"] (defScope sGoes) := ⟨rfl, rfl, rfl, by decide +kernel, rfl, by decide +kernel, by decide +kernel⟩
theorem ext_two {H Hk : Hp} {p : Addr} {o : HO} (e : Ext H Hk) (hp : H p = none) : Ext H (upd Hk p o) := fun a u h => by
  rw [upd_ne (ne_of_none h hp)]
  exact e a u h
theorem ok_goes {f pE fE : Addr} {fd fdE : FuncData} (F : Fun K "goes_of" "goes_of" sGoes f fd) (T1 : Blt mg) (B : BodT K mg c) (A' : Ap K c) (FE : Fun K "entries" "Body.entries" sBodyEn fE fdE) (bE : Binds K fdE ["self"] []) (gE : PropOf K c.body "entries" pE fE) :
    FnOk P w K mg base CX0 3 f fd ["body"] (spGoes c) := by
  have GE : FnOk P w K mg base CX0 1 fE fdE ["self"] (spEnt c) := ok_ent FE B
  refine F.ok scGoes (fun vs H Q E h => ?_) (fun cdv A outer s H vs Q E hr h => ?_)
  · obtain ⟨b, its, rfl, _⟩ := h
    rfl
  · obtain ⟨b, its, rfl, hB, hw, l6, k⟩ := h
    have hr2 : Room 2 _ := hr
    refine ⟨_, pss_cons (ps_set (i := 1) scGoes.nd rfl (Or.inl rfl) (pe_lst pa_nil))
      (pss_cons (ps_set (i := 2) scGoes.nd rfl (Or.inl rfl) (pe_callTy call_list_of (by rfl) T1.list (by decide +kernel) (pa_cons (pe_prop (pv 0) B.body.cl gE GE hr2 bE .nil pass0 rfl) pa_nil)))
      (pss_cons (ps_while PassesOwn.never (pt_truth (pv 2) (by intro _; rfl))
        (pss_cons (ps_set (i := 3) scGoes.nd rfl (Or.inl rfl) (pe_bm0 PySem.F.plainAttrs_list PySem.F.slot_list_pop PySem.F.type_list_pop mt_pop (pv 2)))
        (pss_one (ps_if (pt_val (pe_callB call_isi (by rfl) T1.isi bIsi (pa_cons (pv 3) (pa_cons (pe_glob (v := .ref c.go) rfl B.gGo rfl) pa_nil))))
          (pss_one (ps_expr (pe_bm PySem.F.plainAttrs_list PySem.F.slot_list_append PySem.F.type_list_append mt_append (pv 1) (pa_cons (pe_fld (pv 3) rfl) pa_nil))))
          (pss_one (ps_if (pt_val (pe_callB call_isi (by rfl) T1.isi bIsi (pa_cons (pv 3) (pa_cons (pe_glob (v := .ref c.times) rfl B.gTimes rfl) pa_nil))))
            (pss_one (ps_expr (pe_bm PySem.F.plainAttrs_list PySem.F.slot_list_extend PySem.F.type_list_extend mt_extend (pv 2) (pa_cons (pe_callTy call_list_of (by rfl) T1.list (by decide +kernel) (pa_cons (pe_prop (pe_fld (pv 3) rfl) B.body.cl gE GE hr2 bE .nil pass0 rfl) pa_nil)) pa_nil))))
            pss_nil))))))
      (pss_one (ps_ret (pv 1))))), ?_⟩
    refine ⟨Nat.zero_le _, fun L hL => ?_⟩
    have S1 : Ext H (upd H L (.lst [])) := Ext.upd hL
    cases hB with
    | @mk _ dx e vs _ h1 h2 h3 =>
      refine ⟨_, rfl, b, _, _, rfl, S1 _ _ h1, b, _, _, _, _, rfl, S1 _ _ h1, e, _, rfl, .inr (SqT.of (S1 _ _ h2)), fun R hR => ?_⟩
      have LR : L ≠ R := fun z => by rw [← z, upd_same] at hR; cases hR
      have hR0 : H R = none := by rw [upd_ne LR.symm] at hR; exact hR
      have sz := szL_2 hw l6
      have m8 : sizeLine = 16777216 := rfl
      have hx := h3.len
      dsimp only [gName]
      refine while_m (fun m σ Hk => ∃ y, σ = [some (.ref b), some (.ref L), some (.ref R), y] ∧ Ext H Hk ∧ ∃ (fs : List PySem.Str) (us : List V) (js : List Itm), Hk L = some (.lst (fs.map V.str)) ∧ Hk R = some (.lst us) ∧ Ios c Hk us js ∧ ItsW 2 js ∧ szL js = m ∧ szL js + fs.length ≤ szL its ∧ (∀ x, x ∈ gosL its ↔ x ∈ fs ∨ x ∈ gosL js) ∧ fs.length + (gosL js).length = (gosL its).length) (szL its)
        ⟨none, rfl, ext_two S1 hR0, [], vs, its, by rw [upd_ne LR, upd_same]; rfl, upd_same, h3.keep (.same (ext_two S1 hR0)), hw, rfl, Nat.le_refl _, fun x => by simp, by simp⟩ ?step ?mono
      case mono =>
        rintro σ Hk Q1 Q2 hm ⟨v, hv, kk, hk, q⟩
        exact ⟨v, hv, kk, hk, hm _ _ q⟩
      case step =>
        rintro m σ Hk ⟨y, rfl, eH, fs, us, js, hLk, hRk, hI, hwj, hm, hsz, hmem, hlen⟩
        have ul := hI.len
        have jl := len_szL js
        refine ⟨_, rfl, _, .inl ⟨us, SqL.of hRk, rfl⟩, ?_⟩
        cases us with
        | nil =>
          cases hI
          have e0 : gosL [] = [] := by rw [gosL]
          rw [e0] at hmem hlen
          exact ⟨_, rfl, k L fs Hk eH hL hLk (fun x => by rw [hmem]; simp) (by simpa using hlen)⟩
        | cons u0 us0 =>
          obtain ⟨ws, v, ks, it, e1, rfl, hJ, hi⟩ := hI.snoc (by simp)
          rw [e1] at hRk
          obtain ⟨wk, wi⟩ := hwj.split
          refine ⟨_, rfl, .inl ⟨rfl, _, SqL.of hRk⟩, R, ws ++ [v], v, rfl, rfl, hRk, by simp, ?_⟩
          rw [List.dropLast_concat]
          have LnR : L ≠ R := LR
          have bL : upd Hk R (.lst ws) L = some (.lst (fs.map V.str)) := by rw [upd_ne LR]; exact hLk
          have eK : Ext H (upd Hk R (.lst ws)) := ext_two eH hR0
          have kp : Kept Hk (upd Hk R (.lst ws)) := ⟨fun a C dx fs _ h => by rw [upd_ne (ne_of h hRk (by intro z; cases z))]; exact h, fun a xs h => by rw [upd_ne (ne_of h hRk (by intro z; cases z))]; exact h⟩
          have hJ2 := hJ.keep kp
          have hi2 := hi.keep kp
          have wl := hJ.len
          have gl : gosL (ks ++ [it]) = gosL ks ++ gosI it := by simp [gosL_app, gosL]
          have sl : szL (ks ++ [it]) = szL ks + szI it := by simp [szL_app, szL]
          rw [gl] at hmem hlen
          rw [sl] at hm hsz
          have gk := len_szL ks
          rw [List.length_append] at hlen
          have mono2 : ∀ (o : HO), Ext H (upd (upd Hk R (.lst ws)) R o) := fun o => by rw [upd_upd]; exact ext_two eH hR0
          have fin : ∀ (us' : List V) (js' : List Itm) (y' : Option V), Ios c (upd (upd Hk R (.lst ws)) R (.lst us')) us' js' → ItsW 2 js' → szL js' < m → (∀ x, x ∈ gosL its ↔ x ∈ fs ∨ x ∈ gosL js') → fs.length + (gosL js').length = (gosL its).length → szL js' + fs.length ≤ szL its →
              ∃ m', m' < m ∧ ∃ y, [some (.ref b), some (.ref L), some (.ref R), y'] = [some (V.ref b), some (.ref L), some (.ref R), y] ∧ Ext H (upd (upd Hk R (.lst ws)) R (.lst us')) ∧ ∃ (fs : List PySem.Str) (us : List V) (js : List Itm), (upd (upd Hk R (.lst ws)) R (.lst us')) L = some (.lst (fs.map V.str)) ∧ (upd (upd Hk R (.lst ws)) R (.lst us')) R = some (.lst us) ∧ Ios c (upd (upd Hk R (.lst ws)) R (.lst us')) us js ∧ ItsW 2 js ∧ szL js = m' ∧ szL js + fs.length ≤ szL its ∧ (∀ x, x ∈ gosL its ↔ x ∈ fs ∨ x ∈ gosL js) ∧ fs.length + (gosL js).length = (gosL its).length :=
            fun us' js' y' a1 a2 a3 a4 a5 a6 => ⟨_, a3, y', rfl, mono2 _, fs, us', js', by rw [upd_ne LR]; exact bL, upd_same, a1, a2, rfl, a6, a4, a5⟩
          have same2 : upd (upd Hk R (.lst ws)) R (.lst ws) = upd Hk R (.lst ws) := upd_upd
          have skip : gosI it = [] → ∃ m', m' < m ∧ ∃ y, [some (.ref b), some (.ref L), some (.ref R), some v] = [some (V.ref b), some (.ref L), some (.ref R), y] ∧ Ext H (upd Hk R (.lst ws)) ∧ ∃ (fs : List PySem.Str) (us : List V) (js : List Itm), (upd Hk R (.lst ws)) L = some (.lst (fs.map V.str)) ∧ (upd Hk R (.lst ws)) R = some (.lst us) ∧ Ios c (upd Hk R (.lst ws)) us js ∧ ItsW 2 js ∧ szL js = m' ∧ szL js + fs.length ≤ szL its ∧ (∀ x, x ∈ gosL its ↔ x ∈ fs ∨ x ∈ gosL js) ∧ fs.length + (gosL js).length = (gosL its).length := fun g0 => by
            have q := fin ws ks (some v) (by rw [same2]; exact hJ2) wk (by have := szI_pos it; omega) (fun x => by rw [hmem, g0, List.append_nil]) (by rw [g0] at hlen; simpa using hlen) (by omega)
            rw [same2] at q
            exact q
          cases hi2 with
          | @say a dx z h =>
            refine ⟨_, rfl, _, .ref c.go, _, _, false, rfl, .own _, B.say.tyx h, (kit_is B (.inl rfl) (.inr (.inr (.inl rfl)))).trans (congrArg some (decide_eq_false A'.sg)), _, rfl, iteF ?_⟩
            refine ⟨_, rfl, _, .ref c.times, _, _, false, rfl, .own _, B.say.tyx h, (kit_is B (.inl rfl) (.inr (.inr (.inr rfl)))).trans (congrArg some (decide_eq_false B.ne1)), _, rfl, iteF ?_⟩
            exact skip (by rw [gosI])
          | @press a dx z h =>
            refine ⟨_, rfl, _, .ref c.go, _, _, false, rfl, .own _, B.press.tyx h, (kit_is B (.inr (.inl rfl)) (.inr (.inr (.inl rfl)))).trans (congrArg some (decide_eq_false A'.pg)), _, rfl, iteF ?_⟩
            refine ⟨_, rfl, _, .ref c.times, _, _, false, rfl, .own _, B.press.tyx h, (kit_is B (.inr (.inl rfl)) (.inr (.inr (.inr rfl)))).trans (congrArg some (decide_eq_false B.ne2)), _, rfl, iteF ?_⟩
            exact skip (by rw [gosI])
          | @go a dx z h =>
            refine ⟨_, rfl, _, .ref c.go, _, _, true, rfl, .own _, B.go.tyx h, (kit_is B (.inr (.inr (.inl rfl))) (.inr (.inr (.inl rfl)))).trans (congrArg some (decide_eq_true rfl)), _, rfl, iteT ?_⟩
            have g1 : gosI (.go z) = [z] := by rw [gosI]
            have g2 : szI (.go z) = 1 := by rw [szI]
            rw [g1] at hmem hlen
            rw [g2] at hm hsz
            have g3 := gosL_sz ks
            refine ⟨_, rfl, .inl ⟨rfl, _, SqL.of bL⟩, _, rfl, a, _, _, _, _, rfl, h, B.go.cl, B.nGo, rfl, L, _, _, rfl, rfl, bL, by rw [List.length_map]; show _ < 16777216; omega, ?_⟩
            refine ⟨szL ks, by omega, some (.ref a), rfl, ext_two eK hL, fs ++ [z], ws, ks, by rw [upd_same, List.map_append]; rfl, by rw [upd_ne LR.symm]; exact upd_same, hJ2.keep ?_, wk, rfl, by rw [List.length_append]; show _ + (_ + 1) ≤ _; omega, fun x => ?_, by rw [List.length_append]; simp at hlen ⊢; omega⟩
            · exact ⟨fun a C dx fs _ h => by rw [upd_ne (ne_of h bL (by intro z; cases z))]; exact h, fun a xs h => by rw [upd_ne (ne_of h bL (by intro z; cases z))]; exact h⟩
            · rw [hmem]; simp only [List.mem_append, List.mem_singleton]; constructor
              · rintro (x | x | x)
                · exact .inl (.inl x)
                · exact .inr x
                · exact .inl (.inr x)
              · rintro ((x | x) | x)
                · exact .inl x
                · exact .inr (.inr x)
                · exact .inr (.inl x)
          | @times a dx b2 n its2 h hB2 =>
            refine ⟨_, rfl, _, .ref c.go, _, _, false, rfl, .own _, B.times.tyx h, (kit_is B (.inr (.inr (.inr rfl))) (.inr (.inr (.inl rfl)))).trans (congrArg some (decide_eq_false (Ne.symm B.ne3))), _, rfl, iteF ?_⟩
            refine ⟨_, rfl, _, .ref c.times, _, _, true, rfl, .own _, B.times.tyx h, (kit_is B (.inr (.inr (.inr rfl))) (.inr (.inr (.inr rfl)))).trans (congrArg some (decide_eq_true rfl)), _, rfl, iteT ?_⟩
            cases wi with
            | cons wi0 _ =>
            cases wi0 with
            | @times d' _ _ n0 n1 nl wi1 =>
            have g1 : gosI (.times n its2) = gosL its2 := by rw [gosI]
            have g2 : szI (.times n its2) = 1 + szL its2 := by rw [szI]
            rw [g1] at hmem hlen
            rw [g2] at hm hsz
            cases hB2 with
            | @mk _ dx2 e2 vs2 _ q1 q2 q3 =>
            have l2 := q3.len
            have l3 := len_szL its2
            refine ⟨_, rfl, .inl ⟨rfl, _, SqL.of upd_same⟩, _, rfl, a, _, _, _, _, rfl, h, B.times.cl, B.nBod, rfl, b2, _, _, rfl, q1, b2, _, _, _, _, rfl, q1, e2, _, rfl, .inr (SqT.of q2), fun Z hZ => ?_⟩
            have ZR : Z ≠ R := fun z => by rw [z, upd_same] at hZ; cases hZ
            have ZL : Z ≠ L := fun z => by rw [z, bL] at hZ; cases hZ
            have Z0 : H Z = none := by
              cases e3 : H Z with
              | none => rfl
              | some o => rw [eK _ _ e3] at hZ; cases hZ
            refine ⟨R, Z, ws, vs2, rfl, rfl, by rw [upd_ne ZR.symm]; exact upd_same, upd_same, by omega, ?_⟩
            refine ⟨szL ks + szL its2, by omega, some (.ref a), rfl, ext_two (ext_two eK Z0) hR0, fs, ws ++ vs2, ks ++ its2, by rw [upd_ne LR, upd_ne ZL.symm]; exact bL, upd_same, (hJ2.keep ?kk).app (q3.keep ?kk), ?wv, szL_app _ _, by rw [szL_app]; omega, fun x => ?_, ?_⟩
            case wv =>
              exact wk.app2 (wi1.up (by omega))
            case kk =>
              refine ⟨fun a C dx fs _ h => ?_, fun a xs h => ?_⟩
              · rw [upd_ne (ne_of h upd_same (by intro z; cases z)), upd_ne (ne_of_none h hZ)]
                exact h
              · rw [upd_ne (ne_of h upd_same (by intro z; cases z)), upd_ne (ne_of_none h hZ)]
                exact h
            · rw [hmem, gosL_app]
            · rw [gosL_app, List.length_append]; exact hlen
end
end KP
end

section
set_option Elab.async false
set_option linter.all false
set_option maxRecDepth 100000
set_option maxHeartbeats 4000000
/-! modes_of -/
namespace KP
open PySem PySem.Spec PyProof.Rows L2 Pn StX
abbrev sModes : Stmt := top 64
abbrev PB := (PySem.Str × PySem.Str) × List Itm
def keyP (p : PySem.Str × PySem.Str) : List Key := [Sum.inr p.1, Sum.inr p.2]
/-- the bodies of a dict -/
inductive Bods (c : Cs) (H : Hp) : List (List Key × V) → List PB → Prop
  | nil : Bods c H [] []
  | cons {p : PySem.Str × PySem.Str} {b : Addr} {its : List Itm} {kvs : List (List Key × V)} {bs : List PB} : Bo c H b its → Bods c H kvs bs → Bods c H ((keyP p, .ref b) :: kvs) ((p, its) :: bs)
theorem Bods.len {c : Cs} {H : Hp} : ∀ {kvs : List (List Key × V)} {bs : List PB}, Bods c H kvs bs → kvs.length = bs.length
  | _, _, .nil => rfl
  | _, _, .cons _ r => by rw [List.length_cons, List.length_cons, r.len]
theorem Bods.get {c : Cs} {H : Hp} : ∀ {kvs : List (List Key × V)} {bs : List PB} {i : Nat} {kk : List Key} {v : V}, Bods c H kvs bs → kvs[i]? = some (kk, v) → ∃ p its b, bs[i]? = some (p, its) ∧ kk = keyP p ∧ v = .ref b ∧ Bo c H b its
  | _, _, i, kk, v, .nil, e => by cases e
  | _, _, 0, kk, v, .cons (p := p) (its := its) (b := b) h _, e => by cases e; exact ⟨p, its, b, rfl, rfl, rfl, h⟩
  | _, _, i + 1, kk, v, .cons _ r, e => r.get (i := i) e
theorem Bods.keys {c : Cs} {H : Hp} : ∀ {kvs : List (List Key × V)} {bs : List PB}, Bods c H kvs bs → PairKeys kvs (bs.map (·.1))
  | _, _, .nil => rfl
  | _, _, .cons _ r => by
    have := r.keys
    unfold PairKeys at this ⊢
    rw [List.map_cons, List.map_cons, List.map_cons, this]
    rfl
theorem Bods.keep {c : Cs} {H H' : Hp} (k : Kept H H') : ∀ {kvs : List (List Key × V)} {bs : List PB}, Bods c H kvs bs → Bods c H' kvs bs
  | _, _, .nil => .nil
  | _, _, .cons h r => .cons (h.keep k) (r.keep k)
/-- right bodies under right words -/
def BsW (bs : List PB) : Prop := ∀ x ∈ bs, ItsW 2 x.2 ∧ x.2.length ≤ 6 ∧ Wd x.1.1 ∧ Wd x.1.2
def mlist (f : PySem.Str) (rs : List PySem.Str) (bs : List PB) : List PySem.Str := bs.map (·.1.1) ++ [f] ++ rs ++ bs.flatMap (fun x => gosL x.2)
def spModes (K : PySem.W.Frag) (c : Cs) : Sp := fun vs H Q _ => ∃ (f : PySem.Str) (r d : Addr) (rs : List PySem.Str) (kvs : List (List Key × V)) (bs : List PB), vs = [.str f, .ref r, .ref d] ∧ (SqL K H r (rs.map V.str) ∨ SqT K H r (rs.map V.str)) ∧
  H d = some (.dT kvs) ∧ Bods c H kvs bs ∧ (kvs.map (·.1)).Nodup ∧ BsW bs ∧ (mlist f rs bs).length ≤ 1000 ∧ (∃ W : List PySem.Str, W.length < 64 ∧ ∀ x ∈ mlist f rs bs, x ∈ W) ∧
  ∀ t ys H', Ext H H' → H t = none → H' t = some (.tup (ys.map V.str)) → ys.Nodup → sortedS ys = true → (∀ x, x ∈ ys ↔ x ∈ mlist f rs bs) → Q (.ref t) H'
theorem but_unlock {H Hk : Hp} {d : Addr} {kvs : List (List Key × V)} (hd : H d = some (.dT kvs)) (b : But d H Hk) : Ext H (upd Hk d (.dT kvs)) := fun a o e => by
  by_cases z : a = d
  · rw [z, upd_same, ← e, z, hd]
  · rw [upd_ne z]; exact b a o z e
theorem Kept.butT {H H' : Hp} {p : Addr} {kvs : List (List Key × V)} (B : But p H H') (hp : H p = some (.dT kvs)) : Kept H H' :=
  ⟨fun a C dx fs _ h => B a _ (ne_of h hp (by intro z; cases z)) h, fun a xs h => B a _ (ne_of h hp (by intro z; cases z)) h⟩
theorem But.ext {p : Addr} {H H1 H2 : Hp} (a : But p H H1) (e : Ext H1 H2) : But p H H2 := fun c u n h => e _ _ (a c u n h)
theorem But.ofExt {p : Addr} {H H1 : Hp} (e : Ext H H1) : But p H H1 := fun c u n h => e _ _ h
section
variable {P : Program} {w : World} {K : PySem.W.Frag} {mg : Str → Option Value} {base : Heap} {c : Cs}
theorem scModes : FnScope ["first", "rest", "bodies", "found", "mode", "_", "pair"] ["first", "rest", "bodies"] (defScope sModes) := ⟨rfl, rfl, rfl, by decide +kernel, rfl, by decide +kernel, by decide +kernel⟩
theorem ok_modes {f fG fA pE fE : Addr} {fd fdG fdA fdE : FuncData} (F : Fun K "modes_of" "modes_of" sModes f fd) (T1 : Blt mg) (TG : BltG mg) (B : BodT K mg c) (A' : Ap K c) (FE : Fun K "entries" "Body.entries" sBodyEn fE fdE) (bE : Binds K fdE ["self"] []) (gE : PropOf K c.body "entries" pE fE)
    (FG : Fun K "goes_of" "goes_of" sGoes fG fdG) (bG : Binds K fdG ["body"] []) (gG : Fn K mg "goes_of" fG) (FA : Fun K "ascending" "ascending" sAsc fA fdA) (bA : Binds K fdA ["words"] []) (gA : Fn K mg "ascending" fA) :
    FnOk P w K mg base CX0 4 f fd ["first", "rest", "bodies"] (spModes K c) := by
  have GG : FnOk P w K mg base CX0 3 fG fdG ["body"] (spGoes c) := ok_goes FG T1 B A' FE bE gE
  have GA : FnOk P w K mg base CX0 1 fA fdA ["words"] (spAsc K) := ok_asc FA TG
  refine F.ok scModes (fun vs H Q E h => ?_) (fun cdv A outer s H vs Q E hr h => ?_)
  · obtain ⟨f, r, d, rs, kvs, bs, rfl, _⟩ := h
    rfl
  · obtain ⟨f, r, d, rs, kvs, bs, rfl, hrs, hd, hB, nd, hw, lm, hW, k⟩ := h
    have hr3 : Room 3 _ := hr
    have hr1 : Room 1 _ := hr.mono (by omega)
    have hu := hu_of hr
    refine ⟨_, pss_cons (ps_lock (ps_setLc (i := 3) (own := [("mode", 4), ("_", 5)]) (g := gTup K 2 (gCons (gName 4) (gCons (gName 5) gNil))) (tt := tYes) rfl scModes.nd rfl rfl (sw_true rfl rfl rfl rfl) (pi_keys (pv 2)) (blkOk_by (N := ["first", "rest", "bodies", "found", "mode", "_", "pair"]) (sc := defScope sModes) (by decide +kernel)) (fun _ _ _ _ _ => by exact pg_tup rfl (pgs_cons (pg_name (i := 4) scModes.nd rfl (Or.inl rfl)) (pgs_cons (pg_name (i := 5) scModes.nd rfl (Or.inl rfl)) pgs_nil))) (fun _ _ _ _ _ => pts_nil) (fun _ _ _ _ _ => pv 4)))
      (pss_cons (ps_expr (pe_bm PySem.F.plainAttrs_list PySem.F.slot_list_append PySem.F.type_list_append mt_append (pv 3) (pa_cons (pv 0) pa_nil)))
      (pss_cons (ps_expr (pe_bm PySem.F.plainAttrs_list PySem.F.slot_list_extend PySem.F.type_list_extend mt_extend (pv 3) (pa_cons (pe_callTy call_list_of (by rfl) T1.list (by decide +kernel) (pa_cons (pv 1) pa_nil)) pa_nil)))
      (pss_cons (ps_lock (ps_for PassesOwn.never rfl (pi_keys (pv 2)) (pg_name (i := 6) scModes.nd rfl (Or.inl rfl)) (pss_one (ps_expr (pe_bm PySem.F.plainAttrs_list PySem.F.slot_list_extend PySem.F.type_list_extend mt_extend (pv 3) (pa_cons (pe_call GG hr3 rfl gG.g gG.k bG .nil pass0 (pa_cons (pe_dget hu (pv 2) (pv 6) (fun _ _ => rfl)) pa_nil)) pa_nil))))))
      (pss_one (ps_ret (pe_call GA hr1 rfl gA.g gA.k bA .nil pass0 (pa_cons (pv 3) pa_nil))))))), ?_⟩
    have ln := hB.len
    have hz : kvs.length ≤ 1000 ∧ rs.length ≤ 1000 := by
      unfold mlist at lm
      simp only [List.length_append, List.length_map] at lm
      omega
    refine ⟨d, _, hd, trivial, fun od => ?_⟩
    refine ⟨_, rfl, d, od, rfl, .inr ⟨kvs, upd_same, fun L hL => lc_it (walk_keysT (d := d) (o := od)) (fun i Hk => Hk = upd (upd H d (.frz od (.dT kvs))) L (.lst ((bs.take i).map fun p => V.str p.1.1))) rfl (fun i Hk _ e => ?hG) ?turn ?fine⟩⟩
    case hG => rw [e, upd_ne (fun z => by rw [← z, upd_same] at hL; cases hL), upd_same]
    case turn =>
      rintro i x Hk H' lt hP ⟨rfl, kk, v, q, e, rfl, hq⟩
      obtain ⟨p, its, b, ep, rfl, rfl, hb⟩ := hB.get e
      refine ⟨q, _, rfl, SqT.of hq, rfl, _, _, rfl, _, _, rfl, rfl, ?_⟩
      refine ⟨rfl, _, rfl, _, by rw [hP]; exact upd_same, ?_, ?_⟩
      · rw [List.length_map, List.length_take]
        show _ < 16777216
        omega
      · rw [hP, upd_upd, List.take_add_one, ep, List.map_append]
        rfl
    case fine =>
      rintro Hk hP
      have dL : d ≠ L := fun z => by rw [← z, upd_same] at hL; cases hL
      have hLn : H L = none := by rw [upd_ne (fun z => dL z.symm)] at hL; exact hL
      rw [ln, List.take_length] at hP
      refine ⟨by rw [hP, upd_ne dL, upd_same], ?_⟩
      have e2 : upd Hk d (.dT kvs) = upd H L (.lst ((bs.map (·.1.1)).map V.str)) := by
        funext c
        rw [hP]
        by_cases c1 : c = d
        · subst c1
          rw [upd_same, upd_ne dL, hd]
        · rw [upd_ne c1]
          by_cases c2 : c = L
          · rw [c2, upd_same, upd_same, List.map_map]; rfl
          · rw [upd_ne c2, upd_ne c2, upd_ne c1]
      rw [e2]
      have eA : ∀ xs : List V, Ext H (upd H L (.lst xs)) := fun xs => Ext.upd hLn
      refine ⟨_, rfl, .inl ⟨rfl, _, SqL.of upd_same⟩, _, rfl, L, _, _, rfl, rfl, upd_same, by rw [List.length_map, List.length_map]; show _ < 16777216; omega, ?_⟩
      rw [upd_upd]
      have hrs1 := hrs.imp (fun h => h.ext (eA (List.map V.str (bs.map (·.1.1)) ++ [.str f]))) (fun h => h.ext (eA (List.map V.str (bs.map (·.1.1)) ++ [.str f])))
      refine ⟨_, rfl, .inl ⟨rfl, _, SqL.of upd_same⟩, _, rfl, r, _, rfl, hrs1, fun R hR => ?_⟩
      have RL : R ≠ L := fun z => by rw [z, upd_same] at hR; cases hR
      have hR0 : H R = none := by rw [upd_ne RL] at hR; exact hR
      refine ⟨L, R, _, rs.map V.str, rfl, rfl, by rw [upd_ne RL.symm]; exact upd_same, upd_same, by simp only [List.length_append, List.length_map, List.length_cons, List.length_nil]; show _ ≤ 16777216; omega, ?_⟩
      have eB : Ext H (upd (upd (upd H L (.lst (List.map V.str (bs.map (·.1.1)) ++ [.str f]))) R (.lst (rs.map V.str))) L (.lst (List.map V.str (bs.map (·.1.1)) ++ [.str f] ++ rs.map V.str))) := ext_two ((eA _).trans (Ext.upd hR)) hLn
      have hL3 : upd (upd (upd H L (.lst (List.map V.str (bs.map (·.1.1)) ++ [.str f]))) R (.lst (rs.map V.str))) L (.lst (List.map V.str (bs.map (·.1.1)) ++ [.str f] ++ rs.map V.str)) L = some (.lst ((bs.map (·.1.1) ++ [f] ++ rs).map V.str)) := by rw [upd_same, List.map_append, List.map_append]; rfl
      generalize upd (upd (upd H L (.lst (List.map V.str (bs.map (·.1.1)) ++ [.str f]))) R (.lst (rs.map V.str))) L (.lst (List.map V.str (bs.map (·.1.1)) ++ [.str f] ++ rs.map V.str)) = H3 at eB hL3 ⊢
      have hd3 := eB _ _ hd
      refine ⟨d, _, hd3, trivial, fun o2 => ?_⟩
      have lM : (bs.map (·.1.1) ++ [f] ++ rs).length + (bs.flatMap fun x => gosL x.2).length ≤ 1000 := by
        unfold mlist at lm
        rw [List.length_append] at lm
        exact lm
      have L3 : H3 L ≠ none := fun z => by rw [z] at hL3; cases hL3
      refine ⟨_, rfl, d, o2, rfl, .inr ⟨kvs, upd_same, for_it (walk_keysT (d := d) (o := o2)) (fun i σ Hk => ∃ y0 y1 y2, σ = [some (.str f), some (.ref r), some (.ref d), some (.ref L), y0, y1, y2] ∧ But d H Hk ∧ Hk d = some (.frz o2 (.dT kvs)) ∧ ∃ gs : List PySem.Str, Hk L = some (.lst ((bs.map (·.1.1) ++ [f] ++ rs ++ gs).map V.str)) ∧ (∀ x, x ∈ gs ↔ x ∈ (bs.take i).flatMap fun x => gosL x.2) ∧ gs.length = ((bs.take i).flatMap fun x => gosL x.2).length) ?h0 ?hG2 ?hs ?hd2⟩⟩
      case h0 =>
        refine ⟨_, _, _, rfl, fun a o n e => ?_, upd_same, [], ?_, fun x => by simp, by simp⟩
        · rw [upd_ne n]; exact eB _ _ e
        · rw [upd_ne (ne_of hL3 hd3 (by intro z; cases z)), List.append_nil]
          exact hL3
      case hG2 =>
        rintro i σ Hk _ ⟨y0, y1, y2, _, _, h, _⟩
        exact h
      case hs =>
        rintro i x σ Hk H' lt ⟨y0, y1, y2, rfl, bK, hfd, gs, hLk, hm, hl⟩ ⟨rfl, kk, v, q, e, rfl, hq⟩
        obtain ⟨p, its, b, ep, rfl, rfl, hb⟩ := hB.get e
        have wp := hw _ (List.mem_of_getElem? ep)
        have tk : (bs.take (i + 1)).flatMap (fun x => gosL x.2) = (bs.take i).flatMap (fun x => gosL x.2) ++ gosL its := by
          rw [List.take_add_one, ep, List.flatMap_append]
          simp
        have cut : ((bs.take (i + 1)).flatMap fun x => gosL x.2).length ≤ (bs.flatMap fun x => gosL x.2).length := by
          have e3 : bs.flatMap (fun x => gosL x.2) = (bs.take (i + 1)).flatMap (fun x => gosL x.2) ++ (bs.drop (i + 1)).flatMap (fun x => gosL x.2) := by
            rw [← List.flatMap_append, List.take_append_drop]
          rw [e3, List.length_append]
          omega
        refine ⟨_, rfl, .inl ⟨rfl, _, SqL.of hLk⟩, _, rfl, _, rfl, d, .ref b, rfl, .inr ⟨kvs, keyP p, q, .inr ⟨o2, hfd⟩, rfl, hq, (valT_at nd e).symm⟩, b, its, rfl, hb.keep (Kept.butT bK hd), wp.1, wp.2.1, fun G g2 H5 e5 hG hG5 m5 l5 => ?_⟩
        rw [tk, List.length_append] at cut
        refine ⟨L, G, _, _, rfl, rfl, e5 _ _ hLk, hG5, ?_, _, _, _, rfl, fun a o n ea => ?_, ?_, gs ++ g2, ?_, fun x => ?_, ?_⟩
        · rw [List.length_map, List.length_map, List.length_append, l5]
          show _ ≤ 16777216
          omega
        · have aL : a ≠ L := fun z => by rw [z, hLn] at ea; cases ea
          rw [upd_ne aL]
          exact e5 _ _ (bK a o n ea)
        · rw [upd_ne dL]
          exact e5 _ _ hfd
        · rw [upd_same, ← List.map_append, List.append_assoc]
        · rw [tk, List.mem_append, List.mem_append, hm, m5]
        · rw [tk, List.length_append, List.length_append, hl, l5]
      case hd2 =>
        rintro σ Hk ⟨y0, y1, y2, rfl, bK, hfd, gs, hLk, hm, hl⟩
        rw [ln, List.take_length] at hm hl
        refine ⟨hfd, ?_⟩
        have hL4 : upd Hk d (.dT kvs) L = some (.lst ((bs.map (·.1.1) ++ [f] ++ rs ++ gs).map V.str)) := by rw [upd_ne dL.symm]; exact hLk
        have mm : ∀ x, x ∈ bs.map (·.1.1) ++ [f] ++ rs ++ gs ↔ x ∈ mlist f rs bs := fun x => by
          unfold mlist
          rw [List.mem_append, hm, ← List.mem_append]
        have eZ := but_unlock hd bK
        refine ⟨_, rfl, L, _, rfl, .inl (SqL.of hL4), by rw [List.length_append]; omega, ?_, fun t ys H' eH ht h1 h2 h3 h4 => k t ys H' (eZ.trans eH) ?_ h1 h2 h3 (fun x => (h4 x).trans (mm x))⟩
        · obtain ⟨W, w1, w2⟩ := hW
          exact ⟨W, w1, fun x m => w2 x ((mm x).mp m)⟩
        · cases e : H t with
          | none => rfl
          | some o =>
            have z : (none : Option HO) = some o := ht.symm.trans (eZ t o e)
            cases z
end
end KP
end

section
set_option Elab.async false
set_option linter.all false
set_option maxRecDepth 100000
set_option maxHeartbeats 4000000
/-! the checks, for what is right -/
namespace KP
open PySem PySem.Spec PyProof.Rows L2 Pn StX
abbrev sChkMode : Stmt := top 66
abbrev sChkModes : Stmt := top 67
abbrev sChkBods : Stmt := top 68
abbrev sExcess : Stmt := top 69
abbrev sChkLim : Stmt := top 70
def spChkMode : Sp := fun vs H Q _ => ∃ z : PySem.Str, vs = [.str z] ∧ Wd z ∧ Q .non H
def spChkModes (K : PySem.W.Frag) : Sp := fun vs H Q _ => ∃ (l : Addr) (zs : List PySem.Str), vs = [.ref l] ∧ (SqL K H l (zs.map V.str) ∨ SqT K H l (zs.map V.str)) ∧ (∀ z ∈ zs, Wd z) ∧ zs.length ≤ 1000 ∧ ∀ H', Ext H H' → Q .non H'
def spChkBods (c : Cs) : Sp := fun vs H Q _ => ∃ (d : Addr) (kvs : List (List Key × V)) (bs : List PB), vs = [.ref d] ∧ H d = some (.dT kvs) ∧ Bods c H kvs bs ∧ (kvs.map (·.1)).Nodup ∧ BsW bs ∧ bs.length ≤ 1000 ∧ ∀ H', Ext H H' → Q .non H'
/-- the different ones -/
def dd : List PySem.Str → List PySem.Str
  | [] => []
  | x :: xs => if x ∈ xs then dd xs else x :: dd xs
theorem dd_mem : ∀ (xs : List PySem.Str) x, x ∈ dd xs ↔ x ∈ xs
  | [], x => Iff.rfl
  | y :: xs, x => by
    unfold dd
    by_cases h : y ∈ xs
    · rw [if_pos h, dd_mem xs x, List.mem_cons]
      exact ⟨fun m => .inr m, fun m => m.elim (fun e => e ▸ h) id⟩
    · rw [if_neg h, List.mem_cons, List.mem_cons, dd_mem xs x]
theorem dd_nodup : ∀ xs : List PySem.Str, (dd xs).Nodup
  | [] => List.nodup_nil
  | y :: xs => by
    unfold dd
    by_cases h : y ∈ xs
    · rw [if_pos h]; exact dd_nodup xs
    · rw [if_neg h]; exact List.nodup_cons.mpr ⟨fun m => h ((dd_mem xs y).mp m), dd_nodup xs⟩
theorem dd_len {xs ys : List PySem.Str} (n : ys.Nodup) (m : ∀ x, x ∈ ys ↔ x ∈ xs) : ys.length = (dd xs).length :=
  Nat.le_antisymm (sub_len _ _ n fun x h => (dd_mem xs x).mpr ((m x).mp h)) (sub_len _ _ (dd_nodup xs) fun x h => (m x).mpr ((dd_mem xs x).mp h))
theorem dd_le {xs W : List PySem.Str} (h : ∀ x ∈ xs, x ∈ W) : (dd xs).length ≤ W.length := sub_len _ _ (dd_nodup xs) fun x m => h x ((dd_mem xs x).mp m)
/-- whether a book has too many modes or keys -/
def over (f : PySem.Str) (rs : List PySem.Str) (bs : List PB) : Bool := decide (6 < (dd (mlist f rs bs)).length) || decide (6 < (dd (bs.map (·.1.2))).length)
/-- what the defs of limits ask -/
structure Lim (K : PySem.W.Frag) (c : Cs) (H : Hp) (r d : Addr) (f : PySem.Str) (rs : List PySem.Str) (kvs : List (List Key × V)) (bs : List PB) : Prop where
  r : SqL K H r (rs.map V.str) ∨ SqT K H r (rs.map V.str)
  d : H d = some (.dT kvs)
  b : Bods c H kvs bs
  n : (kvs.map (·.1)).Nodup
  w : BsW bs
  l : (mlist f rs bs).length ≤ 1000
  m : (dd (mlist f rs bs)).length < 64
  z : bs.length < 64
theorem Lim.ext {K : PySem.W.Frag} {c : Cs} {H H' : Hp} {r d : Addr} {f : PySem.Str} {rs : List PySem.Str} {kvs : List (List Key × V)} {bs : List PB} (h : Lim K c H r d f rs kvs bs) (e : Ext H H') : Lim K c H' r d f rs kvs bs :=
  ⟨h.r.imp (fun h => h.ext e) (fun h => h.ext e), e _ _ h.d, h.b.keep (.ext' e), h.n, h.w, h.l, h.m, h.z⟩
def spExcess (K : PySem.W.Frag) (c : Cs) : Sp := fun vs H Q _ => ∃ (f : PySem.Str) (r d : Addr) (rs : List PySem.Str) (kvs : List (List Key × V)) (bs : List PB), vs = [.str f, .ref r, .ref d] ∧ Lim K c H r d f rs kvs bs ∧ ∀ H', Ext H H' → Q (if over f rs bs then .int 6 else .non) H'
def spChkLim (K : PySem.W.Frag) (c : Cs) : Sp := fun vs H Q _ => ∃ (f : PySem.Str) (r d : Addr) (rs : List PySem.Str) (kvs : List (List Key × V)) (bs : List PB), vs = [.str f, .ref r, .ref d] ∧ Lim K c H r d f rs kvs bs ∧ over f rs bs = false ∧ ∀ H', Ext H H' → Q .non H'
structure LimG (mg : PySem.Str → Option Value) : Prop where
  modes : ∃ t, mg "MODES" = some (.int 6 t)
  keys : ∃ t, mg "KEYS" = some (.int 6 t)
theorem pe_ci {X : Cx} {x : PySem.Str} {n : Int} {pos : Pos} (hg : Gl X x) (h : ∃ t, X.mg x = some (.int n t)) (hd : (x == ("__debug__" : PySem.Str)) = false := by decide) : PE X (.Name x pos) (tC (.int n)) := by
  obtain ⟨t, h⟩ := h
  exact pe_glob hg h ⟨_, rfl⟩ hd
section
variable {P : Program} {w : World} {K : PySem.W.Frag} {mg : Str → Option Value} {base : Heap} {c : Cs}
theorem scChkMode : FnScope ["mode"] ["mode"] (defScope sChkMode) := ⟨rfl, rfl, rfl, by decide +kernel, rfl, by decide +kernel, by decide +kernel⟩
theorem ok_chkMode {f fW : Addr} {fd fdW : FuncData} (F : Fun K "check_mode" "check_mode" sChkMode f fd) (T : Blt mg) (U : Blt2 mg) (FW : Fun K "is_word" "is_word" sIsWordV fW fdW) (bW : Binds K fdW ["value"] []) (gW : Fn K mg "is_word" fW) :
    FnOk P w K mg base CX0 2 f fd ["mode"] spChkMode := by
  have GW : FnOk P w K mg base CX0 1 fW fdW ["value"] (spWordV K) := ok_wordV FW T U
  refine F.ok scChkMode (fun vs H Q E h => ?_) (fun cdv A outer s H vs Q E hr h => ?_)
  · obtain ⟨z, rfl, _⟩ := h
    rfl
  · obtain ⟨z, rfl, hz, k⟩ := h
    have hr1 : Room 1 _ := hr
    refine ⟨_, pss_one (ps_if (pt_not (pt_val (pe_call GW hr1 rfl gW.g gW.k bW .nil pass0 (pa_cons (pv 0) pa_nil)))) (pss_one ps_never) pss_nil), ?_⟩
    refine ⟨_, rfl, _, .str z, rfl, Kd.str z, fun y e => by cases e; have := wd_len hz; omega, _, rfl, ?_⟩
    rw [show wordD (.str z) = true from (wdB_iff z).mpr hz]
    exact iteF k
theorem scChkModes : FnScope ["modes"] ["modes"] (defScope sChkModes) := ⟨rfl, rfl, rfl, by decide +kernel, rfl, by decide +kernel, by decide +kernel⟩
theorem ok_chkModes {f fW fA : Addr} {fd fdW fdA : FuncData} (F : Fun K "check_modes" "check_modes" sChkModes f fd) (T : Blt mg) (U : Blt2 mg) (V3 : BltW mg) (FW : Fun K "is_word" "is_word" sIsWordV fW fdW) (bW : Binds K fdW ["value"] []) (gW : Fn K mg "is_word" fW)
    (FA : Fun K "are_all_words" "are_all_words" sAllW fA fdA) (bA : Binds K fdA ["value"] []) (gA : Fn K mg "are_all_words" fA) : FnOk P w K mg base CX0 3 f fd ["modes"] (spChkModes K) := by
  have GA : FnOk P w K mg base CX0 2 fA fdA ["value"] (spAllW K) := ok_allW FA T U V3 FW bW gW
  refine F.ok scChkModes (fun vs H Q E h => ?_) (fun cdv A outer s H vs Q E hr h => ?_)
  · obtain ⟨l, zs, rfl, _⟩ := h
    rfl
  · obtain ⟨l, zs, rfl, hl, hz, lz, k⟩ := h
    have hr2 : Room 2 _ := hr
    refine ⟨_, pss_one (ps_if (pt_not (pt_val (pe_call GA hr2 rfl gA.g gA.k bA .nil pass0 (pa_cons (pv 0) pa_nil)))) (pss_one ps_never) pss_nil), ?_⟩
    refine ⟨_, rfl, l, _, _, rfl, hl, kds_strs (fun z m => by have := wd_len (hz z m); omega), by rw [List.length_map]; exact lz, fun H' e => ⟨_, rfl, ?_⟩⟩
    have e1 : (zs.map PyData.str).all wordD = true := by
      rw [List.all_map, List.all_eq_true]
      exact fun z m => (wdB_iff z).mpr (hz z m)
    rw [e1]
    exact iteF (k H' e)
theorem scChkBods : FnScope ["bodies", "pair"] ["bodies"] (defScope sChkBods) := ⟨rfl, rfl, rfl, by decide +kernel, rfl, by decide +kernel, by decide +kernel⟩
theorem ok_chkBods {f fW fA fP : Addr} {fd fdW fdA fdP : FuncData} (F : Fun K "check_bodies" "check_bodies" sChkBods f fd) (T : Blt mg) (U : Blt2 mg) (V3 : BltW mg) (B : BodT K mg c) (A' : Ap K c) (FW : Fun K "is_word" "is_word" sIsWordV fW fdW) (bW : Binds K fdW ["value"] []) (gW : Fn K mg "is_word" fW)
    (FA : Fun K "are_all_words" "are_all_words" sAllW fA fdA) (bA : Binds K fdA ["value"] []) (gA : Fn K mg "are_all_words" fA) (FP : Fun K "is_pair_of_words" "is_pair_of_words" sPairW fP fdP) (bP : Binds K fdP ["value"] []) (gP : Fn K mg "is_pair_of_words" fP) :
    FnOk P w K mg base CX0 4 f fd ["bodies"] (spChkBods c) := by
  have GP : FnOk P w K mg base CX0 3 fP fdP ["value"] (spPairW K) := ok_pairW FP T U V3 FW bW gW FA bA gA
  refine F.ok scChkBods (fun vs H Q E h => ?_) (fun cdv A outer s H vs Q E hr h => ?_)
  · obtain ⟨d, kvs, bs, rfl, _⟩ := h
    rfl
  · obtain ⟨d, kvs, bs, rfl, hd, hB, nd, hw, lz, k⟩ := h
    have hr3 : Room 3 _ := hr
    have hu := hu_of hr
    refine ⟨_, pss_cons (ps_if (pt_not (pt_val (pe_callB call_isi (by rfl) T.isi bIsi (pa_cons (pv 0) (pa_cons (pe_bltn (v := .ty "dict") (by rfl) V3.dict (by decide +kernel) rfl) pa_nil))))) (pss_one ps_never) pss_nil)
      (pss_one (ps_lock (ps_for PassesOwn.never rfl (pi_keys (pv 0)) (pg_name (i := 1) scChkBods.nd rfl (Or.inl rfl)) (pss_one (ps_if (PW.pt (pw_or (pt_not (pt_val (pe_call GP hr3 rfl gP.g gP.k bP .nil pass0 (pa_cons (pv 1) pa_nil)))) (pw_or1 (pt_not (pt_val (pe_callB call_isi (by rfl) T.isi bIsi (pa_cons (pe_dget hu (pv 0) (pv 1) (fun _ _ => rfl)) (pa_cons (pe_glob (v := .ref c.body) rfl B.gBody rfl) pa_nil))))))))
        (pss_one ps_never) pss_nil))))), ?_⟩
    refine ⟨_, rfl, _, _, _, _, _, rfl, .ty _, .base (.dT hd), (kit_ty (by decide +kernel) : PySem.W.kitOne K (.type "dict") (.type "dict") = some true), _, rfl, iteF ?_⟩
    refine ⟨d, _, hd, trivial, fun od => ?_⟩
    have ln := hB.len
    refine ⟨_, rfl, d, od, rfl, .inr ⟨kvs, upd_same, for_it (walk_keysT (d := d) (o := od)) (fun i σ Hk => ∃ y, σ = [some (.ref d), y] ∧ But d H Hk ∧ Hk d = some (.frz od (.dT kvs))) ⟨_, rfl, fun a o n e => by rw [upd_ne n]; exact e, upd_same⟩ (fun i σ Hk _ ⟨_, _, _, h⟩ => h) ?hs ?hd⟩⟩
    case hs =>
      rintro i x σ Hk H' lt ⟨y, rfl, bK, hfd⟩ ⟨rfl, kk, v, q, e, rfl, hq⟩
      obtain ⟨p, its, b, ep, rfl, rfl, hb⟩ := hB.get e
      have wp := hw _ (List.mem_of_getElem? ep)
      have w1 : p.1.length ≤ 8 := wd_len wp.2.2.1
      have w2 : p.2.length ≤ 8 := wd_len wp.2.2.2
      refine ⟨_, rfl, _, _, rfl, PrV.pair (SqT.of hq) (by omega) (by omega), fun H2 e2 => ⟨_, rfl, ?_⟩⟩
      rw [show pairD (.tuple [.str p.1, .str p.2]) = true from by
        show (wdB p.1 && wdB p.2) = true
        rw [(wdB_iff _).mpr wp.2.2.1, (wdB_iff _).mpr wp.2.2.2]; rfl]
      refine iteF ?_
      have hfd2 := e2 _ _ hfd
      have bK2 := But.ext bK e2
      have hb2 := hb.keep (Kept.butT bK2 hd)
      cases hb2 with
      | mk h1 h2 h3 =>
        refine ⟨_, rfl, _, rfl, d, .ref b, rfl, .inr ⟨kvs, keyP p, q, .inr ⟨od, hfd2⟩, rfl, e2 _ _ hq, (valT_at nd e).symm⟩, _, .ref c.body, _, _, true, rfl, .own _, B.body.tyx h1, A'.kb, _, rfl, iteF ⟨_, rfl, bK2, hfd2⟩⟩
    case hd =>
      rintro σ Hk ⟨y, rfl, bK, hfd⟩
      exact ⟨hfd, k _ (but_unlock hd bK)⟩
theorem scExcess : FnScope ["first", "rest", "bodies"] ["first", "rest", "bodies"] (defScope sExcess) := ⟨rfl, rfl, rfl, by decide +kernel, rfl, by decide +kernel, by decide +kernel⟩
/-- the defs that the limits call -/
structure LimF (K : PySem.W.Frag) (mg : PySem.Str → Option Value) (c : Cs) (fM fG fA fK pE fE : Addr) (dM dG dA dK dE : FuncData) : Prop where
  FE : Fun K "entries" "Body.entries" sBodyEn fE dE
  bE : Binds K dE ["self"] []
  gE : PropOf K c.body "entries" pE fE
  FG : Fun K "goes_of" "goes_of" sGoes fG dG
  bG : Binds K dG ["body"] []
  gG : Fn K mg "goes_of" fG
  FA : Fun K "ascending" "ascending" sAsc fA dA
  bA : Binds K dA ["words"] []
  gA : Fn K mg "ascending" fA
  FM : Fun K "modes_of" "modes_of" sModes fM dM
  bM : Binds K dM ["first", "rest", "bodies"] []
  gM : Fn K mg "modes_of" fM
  FK : Fun K "keys_of" "keys_of" sKeysOf fK dK
  bK : Binds K dK ["bodies"] []
  gK : Fn K mg "keys_of" fK
variable {fM fG fA fK pE fE : Addr} {dM dG dA dK dE : FuncData}
theorem LimF.M (Z : LimF K mg c fM fG fA fK pE fE dM dG dA dK dE) (T1 : Blt mg) (TG : BltG mg) (B : BodT K mg c) (A' : Ap K c) : FnOk P w K mg base CX0 4 fM dM ["first", "rest", "bodies"] (spModes K c) := ok_modes Z.FM T1 TG B A' Z.FE Z.bE Z.gE Z.FG Z.bG Z.gG Z.FA Z.bA Z.gA
theorem LimF.Ky (Z : LimF K mg c fM fG fA fK pE fE dM dG dA dK dE) (TG : BltG mg) : FnOk P w K mg base CX0 2 fK dK ["bodies"] spKeysOf := ok_keysOf Z.FK Z.FA Z.bA Z.gA TG
theorem ok_excess {f : Addr} {fd : FuncData} (F : Fun K "excess" "excess" sExcess f fd) (Z : LimF K mg c fM fG fA fK pE fE dM dG dA dK dE) (T1 : Blt mg) (TG : BltG mg) (B : BodT K mg c) (A' : Ap K c) (LG : LimG mg) : FnOk P w K mg base CX0 5 f fd ["first", "rest", "bodies"] (spExcess K c) := by
  have GM : FnOk P w K mg base CX0 4 fM dM ["first", "rest", "bodies"] (spModes K c) := Z.M T1 TG B A'
  have GK : FnOk P w K mg base CX0 2 fK dK ["bodies"] spKeysOf := Z.Ky TG
  refine F.ok scExcess (fun vs H Q E h => ?_) (fun cdv A outer s H vs Q E hr h => ?_)
  · obtain ⟨f, r, d, rs, kvs, bs, rfl, _⟩ := h
    rfl
  · obtain ⟨f, r, d, rs, kvs, bs, rfl, hL, k⟩ := h
    have hr4 : Room 4 _ := hr
    have hr2 : Room 2 _ := hr.mono (by omega)
    refine ⟨_, pss_cons (ps_if (pt_cmpR op_gt (pe_callB call_len_seq (by rfl) T1.len PySem.boot_len (pa_cons (pe_call GM hr4 rfl Z.gM.g Z.gM.k Z.bM .nil pass0 (pa_cons (pv 0) (pa_cons (pv 1) (pa_cons (pv 2) pa_nil)))) pa_nil)) (pe_ci rfl LG.modes) (nomark _)) (pss_one (ps_ret (pe_ci rfl LG.modes))) pss_nil)
      (pss_cons (ps_if (pt_cmpR op_gt (pe_callB call_len_seq (by rfl) T1.len PySem.boot_len (pa_cons (pe_call GK hr2 rfl Z.gK.g Z.gK.k Z.bK .nil pass0 (pa_cons (pv 2) pa_nil)) pa_nil)) (pe_ci rfl LG.keys) (nomark _)) (pss_one (ps_ret (pe_ci rfl LG.keys))) pss_nil)
      (pss_one (ps_ret pe_non))), ?_⟩
    refine ⟨_, rfl, _, rfl, _, rfl, f, r, d, rs, kvs, bs, rfl, hL.r, hL.d, hL.b, hL.n, hL.w, hL.l, ⟨dd (mlist f rs bs), hL.m, fun x m => (dd_mem _ x).mpr m⟩, fun t ys H1 e1 ht h1 h2 h3 h4 => ?_⟩
    refine ⟨t, _, rfl, .inr (SqT.of h1), _, _, rfl, rfl, _, rfl, ?_⟩
    rw [List.length_map, dd_len h2 h4]
    by_cases m6 : 6 < (dd (mlist f rs bs)).length
    · rw [show decide ((((dd (mlist f rs bs)).length : Nat) : Int) > 6) = true from decide_eq_true (by omega)]
      have := k H1 e1
      unfold over at this
      rw [decide_eq_true m6] at this
      exact iteT this
    · rw [show decide ((((dd (mlist f rs bs)).length : Nat) : Int) > 6) = false from decide_eq_false (by omega)]
      refine iteF ?_
      have hL1 := hL.ext e1
      refine ⟨_, rfl, d, kvs, bs.map (·.1), rfl, hL1.d, hL1.b.keys, by rw [hL1.b.len]; exact hL.z, fun t2 ys2 H2 e2 ht2 g1 g2 g3 g4 => ?_⟩
      refine ⟨t2, _, rfl, .inr (SqT.of g1), _, _, rfl, rfl, _, rfl, ?_⟩
      rw [List.map_map] at g4
      rw [List.length_map, dd_len g2 g4]
      have kk := k H2 (e1.trans e2)
      unfold over at kk
      rw [decide_eq_false m6, Bool.false_or] at kk
      by_cases k6 : 6 < (dd (bs.map (·.1.2))).length
      · rw [show decide ((((dd (bs.map ((·.2) ∘ (·.1)))).length : Nat) : Int) > 6) = true from decide_eq_true (by show ((dd (bs.map (·.1.2))).length : Int) > 6; omega)]
        rw [decide_eq_true k6] at kk
        exact iteT kk
      · rw [show decide ((((dd (bs.map ((·.2) ∘ (·.1)))).length : Nat) : Int) > 6) = false from decide_eq_false (by show ¬ ((dd (bs.map (·.1.2))).length : Int) > 6; omega)]
        rw [decide_eq_false k6] at kk
        exact iteF kk
theorem scChkLim : FnScope ["first", "rest", "bodies", "limit"] ["first", "rest", "bodies"] (defScope sChkLim) := ⟨rfl, rfl, rfl, by decide +kernel, rfl, by decide +kernel, by decide +kernel⟩
theorem ok_chkLim {f fX : Addr} {fd fdX : FuncData} (F : Fun K "check_limits" "check_limits" sChkLim f fd) (FX : Fun K "excess" "excess" sExcess fX fdX) (bX : Binds K fdX ["first", "rest", "bodies"] []) (gX : Fn K mg "excess" fX) (Z : LimF K mg c fM fG fA fK pE fE dM dG dA dK dE) (T1 : Blt mg) (TG : BltG mg) (B : BodT K mg c) (A' : Ap K c) (LG : LimG mg) :
    FnOk P w K mg base CX0 6 f fd ["first", "rest", "bodies"] (spChkLim K c) := by
  have GX : FnOk P w K mg base CX0 5 fX fdX ["first", "rest", "bodies"] (spExcess K c) := ok_excess FX Z T1 TG B A' LG
  refine F.ok scChkLim (fun vs H Q E h => ?_) (fun cdv A outer s H vs Q E hr h => ?_)
  · obtain ⟨f, r, d, rs, kvs, bs, rfl, _⟩ := h
    rfl
  · obtain ⟨f, r, d, rs, kvs, bs, rfl, hL, ov, k⟩ := h
    have hr5 : Room 5 _ := hr
    refine ⟨_, pss_cons (ps_set (i := 3) scChkLim.nd rfl (Or.inl rfl) (pe_call GX hr5 rfl gX.g gX.k bX .nil pass0 (pa_cons (pv 0) (pa_cons (pv 1) (pa_cons (pv 2) pa_nil)))))
      (pss_one (ps_if (pt_cmpR op_notN (pv 3) pe_non (nomark _)) (pss_one ps_never) pss_nil)), ?_⟩
    refine ⟨_, rfl, _, rfl, _, rfl, f, r, d, rs, kvs, bs, rfl, hL, fun H1 e1 => ?_⟩
    rw [ov]
    exact ⟨_, rfl, rfl, _, rfl, iteF (k H1 e1)⟩
end
end KP
end

section
set_option Elab.async false
set_option linter.all false
set_option maxRecDepth 100000
set_option maxHeartbeats 2000000
/-! x in o, x not in o by an own __contains__ that says True or False. -/
namespace L2
open PySem PySem.Spec PyProof.Rows
def rInO (neg : Bool) (C : Addr) (sp : Sp) (E : XK) : R2 := fun x y H Q => ∃ a dx fs, y = .ref a ∧ H a = some (.ins C dx fs) ∧ sp [.ref a, x] H (fun v H2 => ∃ b : Bool, v = .bl b ∧ Q (.bl (if neg then !b else b)) H2) E
section
variable {X : Cx} {CX : CXT} {k : Nat} {C f : Addr} {fd : FuncData} {ps : List Str} {sp : Sp} {E : XK}
theorem run_inO {pins : List (Addr × Obj)} {s : Shared} {σ : St} {H : Hp} {a : Addr} {x : V} {v : Value} {S : VK} (F : FnOk X.prog X.w X.K X.mg X.base CX k f fd ps sp) (hr : Room k X.A) (hb : Binds X.K fd ps []) (hx : Passes CX X E)
    (I : Inv X pins σ H s) (rx : RelV x v) (hp : sp [.ref a, x] H S E) : wpAny (model X.prog X.w) X.A (call (.ref f) [.ref a, v]) (EP X pins σ S) X.xe s := by
  have hl := F.len _ _ _ _ hp
  refine wpAny_call (codeAny_mono (F.run X.A X.stack s H ⟨[.ref a, v], []⟩ [.ref a, v] [.ref a, x] _ E hr I.env0 (by
    have := hb s [.ref a, v] I.kIn (by simpa using hl)
    simpa using this) (.cons rfl (.cons rx .nil)) hp) fun r s' hq => ?_)
  cases r with
  | error e => exact hx pins σ H s e s' I hq
  | ok fl =>
    cases fl with
    | ret w =>
      obtain ⟨z, H', I', rz, q⟩ := I.after hq
      exact ⟨z, H', I', rz, q⟩
    | next => exact False.elim hq
    | brk => exact False.elim hq
    | cont => exact False.elim hq
theorem op_inO (hs : PySem.W.findIn X.K (.ref C) "__contains__" = some (some (.ref f))) (hf : PySem.W.isFn X.K (.ref f) = true) (F : FnOk X.prog X.w X.K X.mg X.base CX k f fd ps sp) (hr : Room k X.A) (hb : Binds X.K fd ps []) (hx : Passes CX X E) : OpR X (compareOp .In) (rInO false C sp E) := by
  intro pins s σ H x y v u Q I rx ry h
  obtain ⟨a, dx, fs, rfl, ha, hp⟩ := h
  obtain rfl : u = Value.ref a := ry
  obtain ⟨m, hF⟩ := I.fr
  obtain ⟨mA, O, _, _, _, _⟩ := ins_get I.hok ha
  obtain ⟨od, J, _⟩ := O.look
  refine PySem.W.in_K hF I.ok.mod.kin J hs hf (wpAny_mono (run_inO F hr hb hx I rx hp) (fun r s' z => ?_) fun _ _ z => z)
  obtain ⟨z, H', I', rz, b, rfl, q⟩ := z
  have rz' : r = Value.bool b := rz
  subst rz'
  exact wpAny_truthy_bool ⟨.bl b, H', I', rfl, q⟩
theorem op_notInO (hs : PySem.W.findIn X.K (.ref C) "__contains__" = some (some (.ref f))) (hf : PySem.W.isFn X.K (.ref f) = true) (F : FnOk X.prog X.w X.K X.mg X.base CX k f fd ps sp) (hr : Room k X.A) (hb : Binds X.K fd ps []) (hx : Passes CX X E) : OpR X (compareOp .NotIn) (rInO true C sp E) := by
  intro pins s σ H x y v u Q I rx ry h
  obtain ⟨a, dx, fs, rfl, ha, hp⟩ := h
  obtain rfl : u = Value.ref a := ry
  obtain ⟨m, hF⟩ := I.fr
  obtain ⟨mA, O, _, _, _, _⟩ := ins_get I.hok ha
  obtain ⟨od, J, _⟩ := O.look
  refine PySem.W.notIn_K hF I.ok.mod.kin J hs hf (wpAny_mono (run_inO F hr hb hx I rx hp) (fun r s' z => ?_) fun _ _ z => z)
  obtain ⟨z, H', I', rz, b, rfl, q⟩ := z
  have rz' : r = Value.bool b := rz
  subst rz'
  exact wpAny_truthy_bool ⟨.bl (!b), H', I', rfl, q⟩
end
end L2
end

section
set_option Elab.async false
set_option linter.all false
set_option maxRecDepth 100000
set_option maxHeartbeats 2000000
/-! Dicts with tuples as keys: clear, displays, sorted. -/
namespace L2
open PySem PySem.Spec PyProof.Rows
section
variable {X : Cx}
/-- d.clear() -/
def rClearT : V → List V → Hp → VK → Prop := fun x vs H Q => ∃ (a : Addr) (kvs : List (List Key × V)), x = .ref a ∧ vs = [] ∧ H a = some (.dT kvs) ∧ Q .non (upd H a (.dT []))
theorem mt_clearT : MtR X "dict.clear" rClearT := by
  intro pins s σ H x vs v us Q I rx rv h
  obtain ⟨a, kvs, rfl, rfl, e, q⟩ := h
  obtain rfl : v = Value.ref a := rx
  have hus := rv.zero
  subst hus
  obtain ⟨z, nd, xs, rel, dd⟩ := dt_of I.hok e
  obtain ⟨o, es, ep, g1, g2, g3, g4, g5⟩ := dd
  have hz : es.size ≤ sizeLine := by
    have l1 : es.size = xs.length := size_of_entries g4
    have l2 := Paired.length rel
    omega
  refine call_meetsIn PySem.F.slot_dict_clear ⟨o, g1, g2.1⟩ PySem.F.entry_dict_clear (PySem.F.args_dict_clear_1 _) (meets_dict_clear_raw a) ⟨es, ep, ⟨o, g1, g2, g3⟩, hz, fun h' dd' hs => ⟨.non, upd H a (.dT []), ?_, rfl, q⟩⟩
  obtain ⟨o', q1, q2, q3⟩ := dd'
  exact d_write (t' := s.toks) I (by rw [e]; exact True.intro) hs ⟨o', q1⟩ ⟨Nat.zero_le _, nd, [], .nil, o', #[], ep + 1, q1, q2, q3, rfl, List.nodup_nil⟩
section
variable {o : Expr} {to : TE} {apos cpos : Pos}
theorem pe_clearT (ho : PE X o to) (hbase : attributeBase o "clear" X.env (eval o X.env) = eval o X.env := by rfl) (hline : (apos.endLine == cpos.line) = true := by rfl) : PE X (.Call (.Attribute o "clear" apos) [] [] cpos) (tBM0 X.K "dict" rClearT to) :=
  pe_bm0 PySem.F.plainAttrs_dict PySem.F.slot_dict_clear PySem.F.type_dict_clear mt_clearT ho hbase hline
end
/-- sorted(d) -/
def rSortDT : List V → Hp → VK → Prop := fun vs H Q => ∃ (a : Addr) (kvs : List (List Key × V)) (ds : List PyData), vs = [V.ref a] ∧ Rd H a (.dT kvs) ∧ PySem.W.AllAlike ds ∧ PySem.W.Sortable ds ∧ (∀ d ∈ ds, d.depth ≤ 10) ∧ kvs.length ≤ 1000 ∧
  (∀ (K : PySem.W.Frag) bs, IsKeys H kvs bs → DpAll K H (bs.map V.ref) ds) ∧
  ∀ p bs, H p = none → IsKeys H kvs bs → Q (.ref p) (upd H p (.lst ((((bs.map V.ref).zip ds).mergeSort (PySem.W.dataLe false (·.2))).map (·.1))))
theorem cr_sortDT (hc : X.calm = true) (hu : X.A.units + 64 < cLine) : CallR X (.builtin "sorted") rSortDT := by
  intro pins s σ H xs us Q I r h
  obtain ⟨a, kvs, ds, rfl, hd, al, so, dp, hz, hds, q⟩ := h
  obtain ⟨u, rfl, rx⟩ := r.one
  cases rx
  obtain ⟨z, hs, ks, pr, o, es, ep, ho, hx, hdt, he, hn⟩ := (show ObjOk X.prog X.w H s.heap a (.dT kvs) from hd.ok I.hok)
  have l1 : es.size = ks.length := size_of_entries he
  have l2 : kvs.length = ks.length := Paired.length pr
  have ik := isKeys_of pr
  have hdp := hds X.K _ ik
  have ln := dpAll_len hdp
  have lb : ((ks.map fun x => x.2.1).map V.ref).length = ks.length := by rw [List.length_map, List.length_map]
  have zs := zip_snd ln
  have zl : (((ks.map fun x => x.2.1).map V.ref).zip ds).length = ks.length := by rw [List.length_zip, ← ln, Nat.min_self, lb]
  refine Calls.call_function_entry PyProof.Rows.kind_sorted PyProof.Rows.plain_sorted PyProof.Rows.entry_sorted (PyProof.Rows.args_sorted1 _) ?_
  unfold Builtin.«sorted»
  refine wpAny_bind (m := checkCount "sorted" 1 1 _) (wpAny_pure ?_)
  refine wpAny_bind (PySem.W.kdu_collect (A := X.A.in1) (kdl_raw hs hx hdt) (I.ok.hd hc) ho (by omega) fun h' tk acc hk it => ?_)
  have ea : acc.toList = ks.map fun x => Value.ref x.2.1 := by
    have hl : acc.toList.length = ks.length := by rw [Array.length_toList, it.1]; exact l1
    apply List.ext_getElem?
    intro j
    rw [List.getElem?_map]
    cases hj : acc.toList[j]? with
    | none =>
      have h1 := List.getElem?_eq_none_iff.mp hj
      rw [List.getElem?_eq_none (by omega)]
      rfl
    | some v =>
      obtain ⟨en, hen, hv⟩ := it.2 j v (by rw [← Array.getElem?_toList]; exact hj)
      have qe := entry_at he j
      rw [hen] at qe
      cases hb : ks[j]? with
      | none =>
        rw [hb] at qe
        exact nomatch (show some en = none from qe)
      | some b =>
        rw [hb] at qe
        have e2 : en = entryOfKey (tupleKind (mixKind X.prog X.w)) b := Option.some.inj qe
        rw [hv, e2]
        rfl
  have eb : acc.toList = (ks.map fun x => x.2.1).map Value.ref := by rw [ea, List.map_map]; rfl
  have rv : Vals ((ks.map fun x => x.2.1).map V.ref) acc.toList := by rw [eb]; exact vals_refs _
  have I1 : Inv X pins σ H { s with heap := h', toks := tk } := I.kept hk
  obtain ⟨as, rd⟩ := Dp.readsAll I1 ds _ acc.toList hdp rv
  have al' : acc.toList.length = ks.length := by rw [ea, List.length_map]
  refine wpAny_bind (wpAny_newList ?_ (by rw [al', sizeLine_eq]; omega))
  have hoL : (h'.push (seqObj "list" acc.toList.toArray 0)).get? h'.objs.size = some (seqObj "list" acc.toList.toArray 0) := Heap.get?_push_size _ rfl
  have er : PySem.W.EachIs (fun v (b : V × PyData) => ∃ as, Reads (PySem.W.sortingHeap (h'.push (seqObj "list" acc.toList.toArray 0)) h'.objs.size acc.toList) v b.2 as) acc.toList (((ks.map fun x => x.2.1).map V.ref).zip ds) :=
    (PySem.W.readsAll_each (fun b : V × PyData => b.2) (by rw [zs]; exact rd)).mono fun v b ⟨as, r⟩ => ⟨as, PyProof.Rows.Reads.keeps (fun c u e => PySem.W.sortingHeap_old (Nat.ne_of_lt (Heap.lt_size e)) (Heap.get?_push_of_some _ e)) r⟩
  have S := PySem.W.SortsAt.data (prog := X.prog) (w := X.w) (A := X.A.in1.in1) (s := { s with heap := PySem.W.sortingHeap (h'.push (seqObj "list" acc.toList.toArray 0)) h'.objs.size acc.toList, toks := tk }) (PySem.W.each_map (R := fun v d => ∃ as, Reads (PySem.W.sortingHeap (h'.push (seqObj "list" acc.toList.toArray 0)) h'.objs.size acc.toList) v d as) (fun b : V × PyData => b.2) er)
    (by rw [zs]; exact al) (by rw [zs]; exact so) (fun d m => by
      have m' : d ∈ ds := by rw [← zs]; exact m
      have := dp d m'
      show X.A.units + 1 + 1 + d.depth < cLine
      omega)
  refine wpAny_bind (wpAny_holding (wpAny_call_entry PyProof.Rows.slot_list_sort ⟨_, hoL, rfl⟩ PyProof.Rows.entry_list_sort
    (PySem.W.list_sort_vals (s := { s with heap := h'.push (seqObj "list" acc.toList.toArray 0), toks := tk }) hoL S (by rw [al', sizeLine_eq]; omega) ⟨_, rfl, ?_⟩)
    (PyProof.Rows.args_list_sort _)))
  have ev : PySem.W.EachIs (fun v (b : V × PyData) => RelV b.1 v) (PySem.W.sortVals (PySem.W.dataKind (PySem.W.sortingHeap (h'.push (seqObj "list" acc.toList.toArray 0)) h'.objs.size acc.toList) ((((ks.map fun x => x.2.1).map V.ref).zip ds).map (fun b => b.2))) false acc.toList acc.toList) _ :=
    PySem.W.sortVals_data (enc := fun b : V × PyData => b.2) false (each_zip rv ln) er (by rw [zs]; exact al)
  have hv := vals_each ev
  obtain ⟨e', he'⟩ := PyProof.Rows.sortedHeap_at (vs := acc.toList) (out := (PySem.W.sortVals (PySem.W.dataKind (PySem.W.sortingHeap (h'.push (seqObj "list" acc.toList.toArray 0)) h'.objs.size acc.toList) ((((ks.map fun x => x.2.1).map V.ref).zip ds).map (fun b => b.2))) false acc.toList acc.toList).toArray) hoL
  have lz : (((((ks.map fun x => x.2.1).map V.ref).zip ds).mergeSort (PySem.W.dataLe false (·.2))).map (·.1)).length ≤ sizeLine := by rw [List.length_map, List.length_mergeSort, zl, sizeLine_eq]; omega
  refine wpAny_pure ⟨_, rfl, .ref h'.objs.size, upd H h'.objs.size (.lst (((((ks.map fun x => x.2.1).map V.ref).zip ds).mergeSort (PySem.W.dataLe false (·.2))).map (·.1))), I1.laid (t' := tk) (fun b u e => ?_) (Nat.le_refl _) ⟨lz, _, e', hv, he'⟩, rfl, q _ _ (I1.hok.fresh (Nat.le_refl _)) ik⟩
  have hb : b < h'.objs.size := Heap.lt_size e
  rw [PyProof.Rows.sortedHeap_old (Nat.ne_of_lt hb) (by rw [size_push']; exact Nat.lt_succ_of_lt hb)]
  exact Heap.get?_push_of_some _ e
end
end L2
end

section
set_option Elab.async false
set_option linter.all false
set_option maxRecDepth 100000
set_option maxHeartbeats 2000000
/-! {t: v, ..} with tuples as keys. -/
namespace L2
open PySem PySem.Spec PyProof.Rows
structure Kq where
  (q : Addr) (k : List Key) (v : V)
def tDispT (trs : List (TE × TE)) : TE := fun σ H Q => ∀ p, H p = none → tPairs trs σ (upd H p (.dT [])) fun ps H2 => H2 p = some (.dT []) ∧ ∃ es : List Kq, ps = es.map (fun e => (V.ref e.q, e.v)) ∧ (∀ e ∈ es, H2 e.q = some (.tup (e.k.map kV))) ∧ es.length ≤ 15 ∧
  Q (.ref p) (upd H2 p (.dT (mergeT [] (es.map fun e => (e.k, e.v)))))
section
variable {X : Cx} {pins : List (Addr × Obj)} {σ : St}
theorem storeT {E : Value → Shared → Prop} (hu : X.A.units < cLine) {D : Addr} : ∀ (es : List Kq) (ws : List (Value × Value)) (kvs : List (List Key × V)) (H : Hp) (s : Shared) (Q : PUnit → Shared → Prop), Inv X pins σ H s → H D = some (.dT kvs) → VV (es.map fun e => (V.ref e.q, e.v)) ws → (∀ e ∈ es, H e.q = some (.tup (e.k.map kV))) → kvs.length + es.length < sizeLine →
    (∀ s', Inv X pins σ (upd H D (.dT (mergeT kvs (es.map fun e => (e.k, e.v))))) s' → Q PUnit.unit s') →
    wpAny (model X.prog X.w) X.A (forIn ws PUnit.unit fun (x : Value × Value) (_ : PUnit) => (do dictSet D x.1 x.2; pure (ForInStep.yield PUnit.unit) : Sem (ForInStep PUnit))) Q E s
  | [], ws, kvs, H, s, Q, I, hD, rel, _, _, hQ => by
    cases rel
    rw [List.forIn_nil]
    refine wpAny_pure (hQ s ?_)
    have e : upd H D (.dT kvs) = H := by
      funext c
      by_cases z : c = D
      · rw [z, upd_same, hD]
      · rw [upd_ne z]
    show Inv X pins σ (upd H D (.dT kvs)) s
    rw [e]
    exact I
  | e :: es, ws, kvs, H, s, Q, I, hD, rel, hk, hz, hQ => by
    cases rel with
    | @cons a b as bs h t =>
      obtain ⟨b1, b2⟩ := b
      obtain ⟨h1, h2⟩ := h
      have h1' : b1 = Value.ref e.q := h1
      subst h1'
      rw [List.length_cons] at hz
      rw [List.forIn_cons]
      refine wpAny_bind (wpAny_bind (d_dictSetT hu I hD (by omega) (hk e List.mem_cons_self) h2 fun s' I' => wpAny_pure ?_))
      have lp := length_putK kvs e.k e.v
      refine storeT hu es bs (putK kvs e.k e.v) _ s' _ I' upd_same t (fun e2 m => ?_) (by omega) fun s2 I2 => hQ s2 ?_
      · rw [upd_ne (ne_of (hk e2 (List.mem_cons_of_mem _ m)) hD (fun z => nomatch z))]
        exact hk e2 (List.mem_cons_of_mem _ m)
      · rw [upd_upd] at I2
        exact I2
theorem pe_dispT {pos : Pos} {keys : List (Option Expr)} {values : List Expr} {trs : List (TE × TE)} (hu : X.A.units < cLine) (h : PPs X pos keys values trs) (hall : keys.all (·.isSome) = true) (hl : keys.length = values.length) (h0 : keys ≠ [])
    (h15 : keys.length ≤ 15) : PE X (.Dict keys values pos) (tDispT trs) := by
  refine ⟨fun pins s σ H Q I q => ?_⟩
  have hn := I.hok.fresh (Nat.le_refl s.heap.objs.size)
  have I1 := I.laid (a := s.heap.objs.size) (o := .dT []) (h' := s.heap.push { cls := .type "dict", data := .dict #[] }) (t' := s.toks) (fun _ _ q => Heap.get?_push_of_some _ q) (Nat.le_refl _) (dt_empty s.heap I.big)
  have hn2 := pairTrees_length keys values X.env pos hall hl
  rw [arm_eval_Dict, zip_pairTrees keys values X.env pos hall hl, dictDisplay_pairs (pairTrees keys values X.env pos) (fun he => h0 (by rw [he] at hn2; exact List.length_eq_zero_iff.mp hn2.symm)) (by omega)]
  refine wpAny_bind (wpAny_standAt (wpAny_bind ?_))
  unfold subDict
  refine wpAny_bind (wpAny_alloc ?_)
  refine wpAny_bind (wpAny_holding ?_)
  rw [if_pos (by omega)]
  refine wpAny_bind (thn (h.run pins _ σ _ _ I1 (q _ hn)) fun ws s2 ⟨ps, H2, I2, rel, e, es, ep, hk, lk, q2⟩ => ?_)
  subst ep
  refine wpAny_holding ?_
  refine wpAny_bind (storeT hu es ws [] H2 s2 _ I2 e rel hk (by rw [List.length_nil]; show 0 + es.length < 16777216; omega) fun s3 I3 => wpAny_pure (wpAny_pure (wpAny_pure ⟨.ref s.heap.objs.size, _, I3, rfl, q2⟩)))
end
end L2
end

section
set_option Elab.async false
set_option linter.all false
set_option maxRecDepth 100000
set_option maxHeartbeats 2000000
/-! o.m(k = e, ..), C(k = e, ..): keywords alone. -/
namespace L2
open PySem PySem.Spec PyProof.Rows
section
variable {X : Cx} {CX : CXT} {k : Nat} {f C : Addr} {fd : FuncData} {ps ks : List Str} {sp : Sp} {E : XK} {x m : Str} {o : Expr} {ta : TE} {p apos pos : Pos} {kws : List Keyword} {tk : TA} {g : List Value → List Value → List Value} {gV : List V → List V → List V}
def tMakeK0 (C : Addr) (m : Nat) (sp : Sp) (gV : List V → List V → List V) (E : XK) (tk : TA) : TE := fun σ H Q => tk σ H fun zs H2 => zs.length = m ∧
  ∀ x dx, H2 x = none → H2 dx = none → dx ≠ x → sp (gV [.ref x] zs) (upd (upd H2 dx (.own x)) x (.ins C dx [])) (fun v H3 => v = .non ∧ Q (.ref x) H3) E
theorem pe_makeK0 (M : Mk X.K C f) (F : FnOk X.prog X.w X.K X.mg X.base CX k f fd ps sp) (hr : Room (k + 1) X.A) (hg : Gl X x) (hm : X.mg x = some (.ref C)) (hb : KBn X.K fd ps 1 ks g gV) (hx : Passes CX X E)
    (hkw : PK X kws tk) (hall : (backToKw pos (keywordEach kws X.env)).all (·.1.isSome) = true := by rfl) (hks : (backToKw pos (keywordEach kws X.env)).filterMap (·.1) = ks := by rfl)
    (hdb : (x == ("__debug__" : Str)) = false := by decide) (hpl : ((backTo pos (starEach [] X.env)).any (·.1) || (backToKw pos (keywordEach kws X.env)).any (·.1.isNone)) = false := by rfl) :
    PE X (.Call (.Name x p) [] kws pos) (tMakeK0 C ks.length sp gV E tk) := by
  refine ⟨fun pins s σ H Q I h => ?_⟩
  refine wpAny_Call_Name_kw (ld_glob I hg hm ?_ hdb)
  refine PySem.W.callWith_KW0 (h₀ := X.base) I.ok.mod.kin M.kp hall ?_ hpl
  refine thn (hkw.run pos pins s σ H _ I h) fun ws s2 ⟨zs, H2, I2, rz, l2, q2⟩ => ⟨I2.kIn, ?_⟩
  rw [hks]
  exact run_makeN (n := 0) (us := []) (vs := []) M F hr hb hx I2 .nil rz rfl l2 q2
def tMethK0 (C : Addr) (m : Str) (n : Nat) (sp : Sp) (gV : List V → List V → List V) (E : XK) (ta : TE) (tk : TA) : TE := fun σ H Q => ta σ H fun x H1 => ∃ a dx fs, x = .ref a ∧ H1 a = some (.ins C dx fs) ∧ fs.lookup m = none ∧ tk σ H1 fun zs H2 => zs.length = n ∧ sp (gV [.ref a] zs) H2 Q E
theorem run_fnK {pins : List (Addr × Obj)} {s : Shared} {σ : St} {H : Hp} {Q : VK} {us ws : List Value} {vs zs : List V} {n : Nat} (F : FnOk X.prog X.w X.K X.mg X.base CX k f fd ps sp) (hr : Room k X.A) (hb : KBn X.K fd ps n ks g gV) (hx : Passes CX X E) (I : Inv X pins σ H s) (r : Vals vs us) (rz : Vals zs ws) (l1 : vs.length = n) (l2 : zs.length = ks.length)
    (h : sp (gV vs zs) H Q E) : wpAny (model X.prog X.w) X.A (call (.ref f) us (ks.zip ws)) (EP X pins σ Q) X.xe s := by
  refine wpAny_call (codeAny_mono (F.run X.A X.stack s H ⟨us, ks.zip ws⟩ (g us ws) (gV vs zs) _ E hr I.env0 (hb.to s us ws I.kIn (r.length.symm.trans l1) (rz.length.symm.trans l2)) (hb.rel r rz) h) fun r s' hq => ?_)
  cases r with
  | error e => exact hx pins σ H s e s' I hq
  | ok fl =>
    cases fl with
    | ret w =>
      obtain ⟨z, H', I', rz, q⟩ := I.after hq
      exact ⟨z, H', I', rz, q⟩
    | next => exact False.elim hq
    | brk => exact False.elim hq
    | cont => exact False.elim hq
theorem pe_methK0 {pl : Sem Bool} (he : PE X o ta) (c : Cls X.K C) (hm : Meth X.K C m f) (F : FnOk X.prog X.w X.K X.mg X.base CX k f fd ps sp) (hr : Room k X.A) (hb : KBn X.K fd ps 1 ks g gV) (hx : Passes CX X E) (hkw : PK X kws tk)
    (hall : (backToKw pos (keywordEach kws X.env)).all (·.1.isSome) = true := by rfl) (hks : (backToKw pos (keywordEach kws X.env)).filterMap (·.1) = ks := by rfl)
    (hpl : ((backTo pos (starEach [] X.env)).any (·.1) || (backToKw pos (keywordEach kws X.env)).any (·.1.isNone)) = false := by rfl)
    (ht : eval (.Call (.Attribute o m apos) [] kws pos) X.env = (do
      let ov ← eval o X.env
      standAt apos.atName
      let (f, first) ← holding [ov] (getMethod ov m pl)
      callWith pos f first (backTo pos (starEach [] X.env)) (backToKw pos (keywordEach kws X.env))) := by rfl) :
    PE X (.Call (.Attribute o m apos) [] kws pos) (tMethK0 C m ks.length sp gV E ta tk) := by
  refine ⟨fun pins s σ H Q I h => ?_⟩
  refine PySem.W.methodCall_KW (pl := pl) (thn (he.run pins s σ H _ I h) fun u s1 ⟨x, H1, I1, rx, a, dx, fs, ex, ea, l, q⟩ => ?_) ht
  subst ex
  obtain rfl : u = Value.ref a := rx
  refine getmeth_ok I1 ea c hm l ?_
  refine PySem.W.callWith_KW0 (first := [.ref a]) (h₀ := X.base) I1.ok.mod.kin hm.kp hall ?_ hpl
  refine thn (hkw.run pos pins s1 σ H1 _ I1 q) fun ws s2 ⟨zs, H2, I2, rz, l2, q2⟩ => ⟨I2.kIn, ?_⟩
  rw [hks]
  exact run_fnK (us := [.ref a]) (vs := [.ref a]) (n := 1) F hr hb hx I2 (.cons rfl .nil) rz rfl l2 q2
end
end L2
end

section
set_option Elab.async false
set_option linter.all false
set_option maxRecDepth 100000
set_option maxHeartbeats 2000000
/-! == of texts among other things; what stays of ==. -/
namespace L2
open PySem PySem.Spec PyProof.Rows
section
variable {X : Cx} {n m : Nat} {D D' : EqvB}
theorem EqB.or (h : EqB X n D) (h' : EqB X n D') : EqB X n (fun x y H b => D x y H b ∨ D' x y H b) := fun A pins s σ H x y u v b sb I rx ry d => by
  rcases d with d | d
  · exact h A pins s σ H x y u v b sb I rx ry d
  · exact h' A pins s σ H x y u v b sb I rx ry d
theorem monB_or (h : MonB D) (h' : MonB D') : MonB (fun x y H b => D x y H b ∨ D' x y H b) := fun x y b H H' e d => d.imp (h x y b H H' e) (h' x y b H H' e)
def DTx : EqvB := fun x y _ b => ∃ z y', x = .str z ∧ y = .str y' ∧ b = decide (z = y')
theorem monB_tx : MonB DTx := fun x y b H H' e d => d
theorem eqB_tx : EqB X n DTx := by
  intro A pins s σ H x y u v b sb I rx ry d
  obtain ⟨z, z', rfl, rfl, rfl⟩ := d
  obtain ⟨t, rfl⟩ := rx
  obtain ⟨t', rfl⟩ := ry
  exact wpAny_eqBool_str ⟨rfl, H, I, Ext.rfl'⟩
/-- tuples of texts -/
def DTxs (K : PySem.W.Frag) : EqvB := fun x y H b => ∃ (a a' : Addr) (xs ys : List Str), x = .ref a ∧ y = .ref a' ∧ SqT K H a (xs.map V.str) ∧ SqT K H a' (ys.map V.str) ∧ b = decide (xs = ys) ∧ (a = a' → xs = ys)
theorem monB_txs {K : PySem.W.Frag} : MonB (DTxs K) := fun x y b H H' e ⟨a, a', xs, ys, e1, e2, h1, h2, h3⟩ => ⟨a, a', xs, ys, e1, e2, h1.ext e, h2.ext e, h3⟩
theorem all_eq {xs ys : List Str} : decide (xs = ys) = (decide (xs.length = ys.length) && (List.range xs.length).all fun i => decide (xs[i]? = ys[i]?)) := by
  rw [Bool.eq_iff_iff, decide_eq_true_iff, Bool.and_eq_true, decide_eq_true_iff, List.all_eq_true]
  refine ⟨fun e => ⟨by rw [e], fun i _ => by rw [e]; simp⟩, fun ⟨h1, h2⟩ => List.ext_getElem? fun i => ?_⟩
  by_cases hi : i < xs.length
  · exact of_decide_eq_true (h2 i (List.mem_range.mpr hi))
  · rw [List.getElem?_eq_none (by omega), List.getElem?_eq_none (by omega)]
theorem eqB_txs : EqB X (n + 1) (DTxs X.K) := by
  have r : RcB X (n + 1) (DTxs X.K) := by
    refine (rcB_tup (n := n) monB_tx eqB_tx).imp fun x y H b d => ?_
    obtain ⟨a, a', xs, ys, rfl, rfl, h1, h2, rfl, _⟩ := d
    refine ⟨a, a', xs.map V.str, ys.map V.str, fun i => decide (xs[i]? = ys[i]?), rfl, rfl, h1, h2, fun i u v eu ev => ?_, by rw [List.length_map, List.length_map]; exact all_eq⟩
    rw [List.getElem?_map] at eu ev
    cases e1 : xs[i]? with
    | none => rw [e1] at eu; cases eu
    | some z =>
      cases e2 : ys[i]? with
      | none => rw [e2] at ev; cases ev
      | some z' =>
        rw [e1] at eu
        rw [e2] at ev
        cases eu
        cases ev
        refine ⟨z, z', rfl, rfl, ?_⟩
        by_cases q : z = z'
        · show decide (xs[i]? = ys[i]?) = _
          rw [e1, e2, q]; simp
        · show decide (xs[i]? = ys[i]?) = _
          rw [e1, e2]; simp [q]
  refine r.eqB (fun x y H b d => ?_) (fun x H b d => ?_)
  · obtain ⟨a, a', _, _, e1, e2, _⟩ := d
    exact ⟨a, a', e1, e2⟩
  · obtain ⟨a, a', xs, ys, e1, e2, _, _, rfl, h⟩ := d
    rw [e1] at e2
    injection e2 with e2
    exact decide_eq_true (h e2)
end
end L2
end

section
set_option Elab.async false
set_option linter.all false
set_option maxRecDepth 100000
set_option maxHeartbeats 4000000
/-! Book.__init__ -/
namespace L2
open PySem PySem.Spec PyProof.Rows
theorem FunD.ok0 {P : Program} {w : World} {K : PySem.W.Frag} {mg : Str → Option Value} {base : Heap} {x qual : Str} {params : Arguments} {body : List Stmt} {scope : Scope} {dvs : List V} {kws : List (Str × V)} {f : Addr} {fd : FuncData} {N ps : List Str} {k : Nat} {sp : Sp} (F : FunD K x qual params body scope dvs kws f fd) (S : FnScope N ps scope) (len : ∀ vs H Q E, sp vs H Q E → vs.length = ps.length)
    (hbody : ∀ (cdv : Value) (A : Around) (outer : List Env) (s : Shared) (H : Hp) (vs : List V) (Q : VK) (E : XK), Room k (A.deeper (envOfC qual scope s.heap.objs.size f cdv)) → sp vs H Q E →
      ∃ t, PSs (cxOf CX0 P w K mg base N qual scope f cdv A outer s H E).nox body t ∧ t { nx := fun _ H' => Q .non H', rt := Q } (start N vs) H) : FnOk P w K mg base CX0 (k + 1) f fd ps sp :=
  F.ok S len fun cdv A outer s H vs Q E hr h => let ⟨t, h, q⟩ := hbody cdv A outer s H vs Q E hr h; ⟨t, h.nox, q⟩
end L2
namespace KP
open PySem PySem.Spec PyProof.Rows L2 Pn StX
abbrev sBookI : Stmt := inClass (top 57) 0
def fBook (f : PySem.Str) (r d : Addr) : List (PySem.Str × V) := [("_first", .str f), ("_rest", .ref r), ("_bodies", .ref d)]
/-- the rest of a book, ascending -/
structure Asc (ys xs : List PySem.Str) : Prop where
  n : ys.Nodup
  s : sortedS ys = true
  m : ∀ x, x ∈ ys ↔ x ∈ xs
theorem Asc.uniq {ys zs xs : List PySem.Str} (a : Asc ys xs) (b : Asc zs xs) : ys = zs := sorted_unique a.s b.s a.n b.n fun x => (a.m x).trans (b.m x).symm
/-- a book's object: its first mode, its rest modes, its bodies -/
structure BkD where
  (f : PySem.Str) (rs : List PySem.Str) (bs : List PB)
/-- where its parts are -/
structure Bk (c : Cs) (cb : Addr) (H : Hp) (x dx r d : Addr) (kvs : List (List Key × V)) (D : BkD) : Prop where
  i : H x = some (.ins cb dx (fBook D.f r d))
  r : H r = some (.tup (D.rs.map V.str))
  d : H d = some (.dT kvs)
  b : Bods c H kvs D.bs
  n : (kvs.map (·.1)).Nodup
theorem Bk.ext {c : Cs} {cb : Addr} {H H' : Hp} {x dx r d : Addr} {kvs : List (List Key × V)} {D : BkD} (h : Bk c cb H x dx r d kvs D) (e : Ext H H') : Bk c cb H' x dx r d kvs D := ⟨e _ _ h.i, e _ _ h.r, e _ _ h.d, h.b.keep (.ext' e), h.n⟩
theorem Bk.but {c : Cs} {cb p : Addr} {H H' : Hp} {x dx r d : Addr} {kvs : List (List Key × V)} {D : BkD} {ks : List (Key × V)} (h : Bk c cb H x dx r d kvs D) (B : But p H H') (hp : H p = some (.dK ks)) : Bk c cb H' x dx r d kvs D :=
  ⟨B _ _ (ne_of h.i hp (by intro z; cases z)) h.i, B _ _ (ne_of h.r hp (by intro z; cases z)) h.r, B _ _ (ne_of h.d hp (by intro z; cases z)) h.d, h.b.keep (.but B hp), h.n⟩
/-- the numbers of a book are within its limits -/
structure BkW (D : BkD) : Prop where
  w : BsW D.bs
  f : Wd D.f
  rw : ∀ z ∈ D.rs, Wd z
  l : (mlist D.f D.rs D.bs).length ≤ 1000
  m : (dd (mlist D.f D.rs D.bs)).length < 64
  z : D.bs.length < 64
  o : over D.f D.rs D.bs = false
theorem mergeT_self : ∀ (ks acc : List (List Key × V)), (ks.map (·.1)).Nodup → (∀ k ∈ ks, k.1 ∉ acc.map (·.1)) → mergeT acc ks = acc ++ ks
  | [], acc, _, _ => by unfold mergeT; simp
  | (k, v) :: ks, acc, n, h => by
    rw [List.map_cons, List.nodup_cons] at n
    have nk := h _ List.mem_cons_self
    have e : putK acc k v = acc ++ [(k, v)] := putK_new v (valT_not fun j u z => nk (List.mem_map.mpr ⟨_, List.mem_of_getElem? z, rfl⟩))
    show mergeT (putK acc k v) ks = _
    rw [e, mergeT_self ks _ n.2 (fun k2 m2 => ?_), List.append_assoc]
    · rfl
    · rw [List.map_append, List.mem_append]
      rintro (z | z)
      · exact h _ (List.mem_cons_of_mem _ m2) z
      · have : k2.1 = k := by simpa using z
        exact n.1 (List.mem_map.mpr ⟨k2, m2, this⟩)
theorem mergeT_one {ks : List (List Key × V)} (n : (ks.map (·.1)).Nodup) : mergeT [] ks = ks := by
  rw [mergeT_self ks [] n (fun k _ z => by cases z), List.nil_append]
/-- the facts of the class -/
structure BkT (K : PySem.W.Frag) (mg : PySem.Str → Option Value) (cb : Addr) : Prop where
  ty : TyC K cb
  g : mg "Book" = some (.ref cb)
  nF : NoAttr K cb "_first"
  nR : NoAttr K cb "_rest"
  nB : NoAttr K cb "_bodies"
def spBookI (K : PySem.W.Frag) (c : Cs) (cb : Addr) : Sp := fun vs H Q _ => ∃ (H0 : Hp) (x dx : Addr) (r : Addr) (bv : V) (D : BkD) (kvs : List (List Key × V)), vs = [.ref x, .str D.f, .ref r, bv] ∧ Ext H0 H ∧ H0 x = none ∧ H x = some (.ins cb dx []) ∧
  (bv = .non ∧ kvs = [] ∧ D.bs = [] ∨ ∃ d, bv = .ref d ∧ H0 d = some (.dT kvs)) ∧ (SqL K H0 r (D.rs.map V.str) ∨ SqT K H0 r (D.rs.map V.str)) ∧ Bods c H0 kvs D.bs ∧ (kvs.map (·.1)).Nodup ∧ BkW D ∧
  ∀ ys dx' r' d' H', Ext H0 H' → Asc ys D.rs → Bk c cb H' x dx' r' d' kvs ⟨D.f, ys, D.bs⟩ → (H0 r' = none ∧ H0 d' = none ∧ r' ≠ x ∧ d' ≠ x) → Q .non H'
section
variable {P : Program} {w : World} {K : PySem.W.Frag} {mg : Str → Option Value} {base : Heap} {c : Cs} {cb : Addr}
theorem scBookI : FnScope ["self", "first", "rest", "bodies", "told"] ["self", "first", "rest", "bodies"] (defScope sBookI) := ⟨rfl, rfl, rfl, by decide +kernel, rfl, by decide +kernel, by decide +kernel⟩
/-- the defs that books call -/
structure BkF (K : PySem.W.Frag) (mg : PySem.Str → Option Value) (c : Cs) (fW fA fP fCm fCs fCb fX fL fWb : Addr) (dW dA dP dCm dCs dCb dX dL dWb : FuncData) : Prop where
  FW : Fun K "is_word" "is_word" sIsWordV fW dW
  bW : Binds K dW ["value"] []
  gW : Fn K mg "is_word" fW
  FA : Fun K "are_all_words" "are_all_words" sAllW fA dA
  bA : Binds K dA ["value"] []
  gA : Fn K mg "are_all_words" fA
  FP : Fun K "is_pair_of_words" "is_pair_of_words" sPairW fP dP
  bP : Binds K dP ["value"] []
  gP : Fn K mg "is_pair_of_words" fP
  FCm : Fun K "check_mode" "check_mode" sChkMode fCm dCm
  bCm : Binds K dCm ["mode"] []
  gCm : Fn K mg "check_mode" fCm
  FCs : Fun K "check_modes" "check_modes" sChkModes fCs dCs
  bCs : Binds K dCs ["modes"] []
  gCs : Fn K mg "check_modes" fCs
  FCb : Fun K "check_bodies" "check_bodies" sChkBods fCb dCb
  bCb : Binds K dCb ["bodies"] []
  gCb : Fn K mg "check_bodies" fCb
  FX : Fun K "excess" "excess" sExcess fX dX
  bX : Binds K dX ["first", "rest", "bodies"] []
  gX : Fn K mg "excess" fX
  FL : Fun K "check_limits" "check_limits" sChkLim fL dL
  bL : Binds K dL ["first", "rest", "bodies"] []
  gL : Fn K mg "check_limits" fL
  FWb : Fun K "with_bodies" "with_bodies" sWith fWb dWb
  bWb : Binds K dWb ["bodies", "others"] []
  gWb : Fn K mg "with_bodies" fWb
/-- the names and the classes -/
structure BkN (K : PySem.W.Frag) (mg : PySem.Str → Option Value) (c : Cs) : Prop where
  T1 : Blt mg
  U : Blt2 mg
  V3 : BltW mg
  TG : BltG mg
  LG : LimG mg
  B : BodT K mg c
  A' : Ap K c
variable {fM fG fAs fK pE fE fW fA fP fCm fCs fCb fX fL fWb : Addr} {dM dG dAs dK dE dW dA dP dCm dCs dCb dX dL dWb : FuncData}
theorem fresh_ne {H Hk : Hp} {x a : Addr} {o : HO} (h : Hk a = some o) (n : Hk x = none) : a ≠ x := ne_of_none h n
theorem ok_bookI {f : Addr} {fd : FuncData} {dvs : List V} {kws : List (Str × V)} (F : FunD K "__init__" "Book.__init__" (defArgs sBookI) (defBody sBookI) (defScope sBookI) dvs kws f fd) (N : BkN K mg c) (Y : BkF K mg c fW fA fP fCm fCs fCb fX fL fWb dW dA dP dCm dCs dCb dX dL dWb) (Z : LimF K mg c fM fG fAs fK pE fE dM dG dAs dK dE) (BT : BkT K mg cb) :
    FnOk P w K mg base CX0 7 f fd ["self", "first", "rest", "bodies"] (spBookI K c cb) := by
  have GCm : FnOk P w K mg base CX0 2 fCm dCm ["mode"] spChkMode := ok_chkMode Y.FCm N.T1 N.U Y.FW Y.bW Y.gW
  have GCs : FnOk P w K mg base CX0 3 fCs dCs ["modes"] (spChkModes K) := ok_chkModes Y.FCs N.T1 N.U N.V3 Y.FW Y.bW Y.gW Y.FA Y.bA Y.gA
  have GCb : FnOk P w K mg base CX0 4 fCb dCb ["bodies"] (spChkBods c) := ok_chkBods Y.FCb N.T1 N.U N.V3 N.B N.A' Y.FW Y.bW Y.gW Y.FA Y.bA Y.gA Y.FP Y.bP Y.gP
  have GL : FnOk P w K mg base CX0 6 fL dL ["first", "rest", "bodies"] (spChkLim K c) := ok_chkLim Y.FL Y.FX Y.bX Y.gX Z N.T1 N.TG N.B N.A' N.LG
  have GWb : FnOk P w K mg base CX0 1 fWb dWb ["bodies", "others"] spWith := ok_with Y.FWb
  have GA : FnOk P w K mg base CX0 1 fAs dAs ["words"] (spAsc K) := ok_asc Z.FA N.TG
  refine F.ok0 scBookI (fun vs H Q E h => ?_) (fun cdv A outer s H vs Q E hr h => ?_)
  · obtain ⟨H0, x, dx, r, bv, D, kvs, rfl, _⟩ := h
    rfl
  · obtain ⟨H0, x, dx, r, bv, D, kvs, rfl, e0, n0, hx, hbv, hr0, hB, nd, hw, k⟩ := h
    have hr6 : Room 6 _ := hr
    have hr4 : Room 4 _ := hr.mono (by omega)
    have hr3 : Room 3 _ := hr.mono (by omega)
    have hr2 : Room 2 _ := hr.mono (by omega)
    have hr1 : Room 1 _ := hr.mono (by omega)
    have lr : D.rs.length ≤ 1000 := by
      have := hw.l
      unfold mlist at this
      simp only [List.length_append] at this
      omega
    refine ⟨_, pss_cons (ps_expr (pe_call GCm hr2 rfl Y.gCm.g Y.gCm.k Y.bCm .nil pass0 (pa_cons (pv 1) pa_nil)))
      (pss_cons (ps_expr (pe_call GCs hr3 rfl Y.gCs.g Y.gCs.k Y.bCs .nil pass0 (pa_cons (pv 2) pa_nil)))
      (C8.pss_cut (ps_if (pt_cmpR op_notN (pv 3) pe_non (nomark _)) (pss_one (ps_expr (pe_call GCb hr4 rfl Y.gCb.g Y.gCb.k Y.bCb .nil pass0 (pa_cons (pv 3) pa_nil)))) pss_nil)
      (C8.pss_cut (ps_set (i := 4) scBookI.nd rfl (Or.inl rfl) (pe_ifExp (pt_cmpR op_isN (pv 3) pe_non (nomark _)) pe_dnewT (pe_call GWb hr1 rfl Y.gWb.g Y.gWb.k Y.bWb .nil pass0 (pa_cons pe_dnewT (pa_cons (pv 3) pa_nil)))))
      (pss_cons (ps_expr (pe_call GL hr6 rfl Y.gL.g Y.gL.k Y.bL .nil pass0 (pa_cons (pv 1) (pa_cons (pv 2) (pa_cons (pv 4) pa_nil)))))
      (pss_cons (ps_fld (pv 0) (pv 1) rfl)
      (pss_cons (ps_fld (pv 0) (pe_call GA hr1 rfl Z.gA.g Z.gA.k Z.bA .nil pass0 (pa_cons (pv 2) pa_nil)) rfl)
      (pss_one (ps_fld (pv 0) (pv 4) rfl)))))))), ?_⟩
    have seqE : ∀ {Ha Hb : Hp}, Ext Ha Hb → (SqL K Ha r (D.rs.map V.str) ∨ SqT K Ha r (D.rs.map V.str)) → (SqL K Hb r (D.rs.map V.str) ∨ SqT K Hb r (D.rs.map V.str)) := fun e h => h.imp (fun h => h.ext e) (fun h => h.ext e)
    refine ⟨_, rfl, D.f, rfl, hw.f, ?_⟩
    refine ⟨_, rfl, r, D.rs, rfl, seqE e0 hr0, hw.rw, lr, fun H1 e1 => ?_⟩
    have e01 := e0.trans e1
    have free : ∀ {Hk : Hp} {a : Addr}, Ext H0 Hk → Hk a = none → H0 a = none := fun {Hk a} e n => by
      cases e3 : H0 a with
      | none => rfl
      | some o => rw [e _ _ e3] at n; cases n
    refine ⟨fun σ' H' => σ' = [some (.ref x), some (.str D.f), some (.ref r), some bv, none] ∧ Ext H1 H', ?chk, ?rest⟩
    case chk =>
      rcases hbv with ⟨rfl, rfl, _⟩ | ⟨d, rfl, hd⟩
      · exact ⟨_, rfl, rfl, _, rfl, iteF ⟨rfl, Ext.rfl'⟩⟩
      · refine ⟨_, rfl, rfl, _, rfl, iteT ?_⟩
        have lz := hw.z
        exact ⟨_, rfl, d, kvs, D.bs, rfl, e01 _ _ hd, hB.keep (.ext' e01), nd, hw.w, by omega, fun H' e => ⟨rfl, e⟩⟩
    case rest =>
      rintro σ' H2 ⟨rfl, e2⟩
      have e02 := e01.trans e2
      refine ⟨fun σ' H' => ∃ t, σ' = [some (.ref x), some (.str D.f), some (.ref r), some bv, some (.ref t)] ∧ Ext H2 H' ∧ H2 t = none ∧ H' t = some (.dT kvs), ?told, ?rest2⟩
      case told =>
        rcases hbv with ⟨rfl, rfl, _⟩ | ⟨d, rfl, hd⟩
        · refine ⟨_, rfl, rfl, _, rfl, iteT ?_⟩
          exact fun t ht => ⟨t, rfl, Ext.upd ht, ht, upd_same⟩
        · refine ⟨_, rfl, rfl, _, rfl, iteF ?_⟩
          intro t0 ht0
          have e3 : Ext H2 (upd H2 t0 (.dT [])) := Ext.upd ht0
          refine ⟨_, rfl, t0, d, [], kvs, rfl, upd_same, e3 _ _ (e02 _ _ hd), List.nodup_nil, nd, ?_, fun t ht => ⟨t, rfl, e3.trans (Ext.upd ht), (by cases e9 : H2 t with | none => rfl | some o => rw [e3 _ _ e9] at ht; cases ht), ?_⟩⟩
          · have := hB.len
            have := hw.z
            show 0 + _ ≤ _
            omega
          · rw [upd_same]
            show some (HO.dT (mergeT (mergeT [] []) kvs)) = _
            rw [show mergeT [] [] = [] from rfl, mergeT_one nd]
      case rest2 =>
        rintro σ' H3 ⟨t, rfl, e3, ht0, ht⟩
        have e03 := e02.trans e3
        have hB3 := hB.keep (.ext' e03)
        refine ⟨_, rfl, _, rfl, _, rfl, D.f, r, t, D.rs, kvs, D.bs, rfl, ⟨seqE e03 hr0, ht, hB3, nd, hw.w, hw.l, hw.m, hw.z⟩, hw.o, fun H4 e4 => ?_⟩
        have e04 := e03.trans e4
        have hx4 := ((e1.trans e2).trans (e3.trans e4)) _ _ hx
        refine ⟨_, rfl, _, rfl, x, cb, dx, [], rfl, hx4, BT.ty.cl, BT.nF, (by show 0 < 1000; decide), ?_⟩
        have hx5 : ∀ fs, upd H4 x (.ins cb dx fs) x = some (.ins cb dx fs) := fun fs => upd_same
        have e05 : ∀ o, Ext H0 (upd H4 x o) := fun o => ext_two e04 n0
        have tx : t ≠ x := ne_of (e4 _ _ ht) hx4 (by intro z; cases z)
        have ht4 := e4 _ _ ht
        refine ⟨_, rfl, r, D.rs, rfl, seqE (e05 _) hr0, lr, ⟨dd D.rs, ?_, fun z m => (dd_mem _ z).mpr m⟩, fun ta ys H6 e6 hta h1 h2 h3 h4 => ?_⟩
        · have := hw.m
          have l2 : (dd D.rs).length ≤ (dd (mlist D.f D.rs D.bs)).length := dd_le fun z m => (dd_mem _ z).mpr (by
            unfold mlist
            exact List.mem_append_left _ (List.mem_append_right _ m))
          omega
        · have hx6 := e6 _ _ (hx5 (putF "_first" (.str D.f) []))
          have tax : ta ≠ x := fun z => by rw [z, upd_same] at hta; cases hta
          refine ⟨_, rfl, x, cb, dx, _, rfl, hx6, BT.ty.cl, BT.nR, (by show 1 < 1000; decide), ?_⟩
          refine ⟨_, rfl, _, rfl, x, cb, dx, _, rfl, upd_same, BT.ty.cl, BT.nB, (by show 2 < 1000; decide), ?_⟩
          rw [upd_upd]
          have e07 : Ext H0 (upd H6 x (.ins cb dx (putF "_bodies" (.ref t) (putF "_rest" (.ref ta) (putF "_first" (.str D.f) []))))) := ext_two ((e05 _).trans e6) n0
          have ht6 : H6 t = some (.dT kvs) := e6 _ _ (by rw [upd_ne tx]; exact ht4)
          refine k ys dx ta t _ e07 ⟨h2, h3, h4⟩ ⟨upd_same, by rw [upd_ne tax]; exact h1, by rw [upd_ne tx]; exact ht6, hB.keep (.ext' e07), nd⟩ ⟨free (e05 _) hta, free e02 ht0, tax, tx⟩
end
end KP
end

section
set_option Elab.async false
set_option linter.all false
set_option maxRecDepth 100000
set_option maxHeartbeats 4000000
/-! Pairs of texts in order. -/
namespace Pn
open PySem PySem.Spec PyProof.Rows L2
def encP (p : PySem.Str × PySem.Str) : PyData := .tuple [.str p.1, .str p.2]
def leP (p q : PySem.Str × PySem.Str) : Bool := PySem.W.dataLe false encP p q
def sortP (ps : List (PySem.Str × PySem.Str)) : List (PySem.Str × PySem.Str) := ps.mergeSort leP
theorem leP_iff (p q : PySem.Str × PySem.Str) : leP p q = true ↔ leT p.1 q.1 ∧ (q.1 = p.1 → leT p.2 q.2) := by
  have e : leP p q = !PySem.W.dataLt (.tuple [.str q.1, .str q.2]) (.tuple [.str p.1, .str p.2]) := rfl
  rw [e, PySem.W.dataLt_pair (by simp [PySem.W.alike]) (by simp [PySem.W.alike]), PySem.W.dataLt_str, PySem.W.dataLt_str]
  simp only [PyData.eqv]
  unfold leT
  by_cases h1 : q.1 = p.1
  · by_cases h2 : q.2 = p.2
    · have i1 : ¬ p.1.cps.toList < p.1.cps.toList := List.lt_irrefl _
      have i2 : ¬ p.2.cps.toList < p.2.cps.toList := List.lt_irrefl _
      rw [h1, h2]
      simp [i1, i2]
    · have i1 : ¬ p.1.cps.toList < p.1.cps.toList := List.lt_irrefl _
      rw [h1]
      simp [i1, h2]
  · simp [h1]
theorem leP_trans (a b c : PySem.Str × PySem.Str) (h : leP a b = true) (g : leP b c = true) : leP a c = true := by
  rw [leP_iff] at *
  refine ⟨leT_trans h.1 g.1, fun e => ?_⟩
  have e1 : a.1 = b.1 := leT_anti h.1 (by rw [← e]; exact g.1)
  exact leT_trans (h.2 e1.symm) (g.2 (by rw [e, e1]))
theorem leT_total (x y : PySem.Str) : leT x y ∨ leT y x := by
  unfold leT
  by_cases h : y.cps.toList < x.cps.toList
  · exact .inr fun g => absurd (List.lt_trans h g) (List.lt_irrefl _)
  · exact .inl h
theorem leP_total (a b : PySem.Str × PySem.Str) : (leP a b || leP b a) = true := by
  rw [Bool.or_eq_true, leP_iff, leP_iff]
  by_cases e : a.1 = b.1
  · have i : leT a.1 b.1 := by rw [e]; exact List.lt_irrefl _
    have j : leT b.1 a.1 := by rw [e]; exact List.lt_irrefl _
    rcases leT_total a.2 b.2 with h | h
    · exact .inl ⟨i, fun _ => h⟩
    · exact .inr ⟨j, fun _ => h⟩
  · rcases leT_total a.1 b.1 with h | h
    · exact .inl ⟨h, fun z => absurd z.symm e⟩
    · exact .inr ⟨h, fun z => absurd z e⟩
theorem leP_anti (a b : PySem.Str × PySem.Str) (h : leP a b = true) (g : leP b a = true) : a = b := by
  rw [leP_iff] at *
  have e := leT_anti h.1 g.1
  exact Prod.ext e (leT_anti (h.2 e.symm) (g.2 e))
theorem sortP_perm (ps : List (PySem.Str × PySem.Str)) : (sortP ps).Perm ps := List.mergeSort_perm ps leP
theorem sortP_eq {ps qs : List (PySem.Str × PySem.Str)} (h : ps.Perm qs) : sortP ps = sortP qs :=
  List.Perm.eq_of_pairwise (le := fun a b => leP a b = true) (fun a b _ _ x y => leP_anti a b x y) (List.pairwise_mergeSort leP_trans leP_total ps) (List.pairwise_mergeSort leP_trans leP_total qs) (((sortP_perm ps).trans h).trans (sortP_perm qs).symm)
/-- tuples of two texts -/
def PrsAt (H : Hp) (vs : List V) (ps : List (PySem.Str × PySem.Str)) : Prop := vs.length = ps.length ∧ ∀ z ∈ vs.zip ps, ∃ q, z.1 = V.ref q ∧ H q = some (.tup [.str z.2.1, .str z.2.2])
theorem zip_fs {α β : Type} : ∀ l : List (α × β), (l.map (·.1)).zip (l.map (·.2)) = l
  | [] => rfl
  | x :: l => by rw [List.map_cons, List.map_cons, List.zip_cons_cons, zip_fs l]
theorem zip_s {α β : Type} : ∀ {l : List α} {m : List β}, l.length = m.length → (l.zip m).map (·.2) = m
  | [], [], _ => rfl
  | x :: l, y :: m, h => by rw [List.zip_cons_cons, List.map_cons, zip_s (by simpa using h)]
theorem zip_m {α β γ : Type} (f : β → γ) : ∀ (l : List α) (m : List β), l.zip (m.map f) = (l.zip m).map fun z => (z.1, f z.2)
  | [], m => by simp
  | x :: l, [] => by simp
  | x :: l, y :: m => by rw [List.map_cons, List.zip_cons_cons, List.zip_cons_cons, zip_m f l m, List.map_cons]
theorem PrsAt.sort {H : Hp} {vs : List V} {ps : List (PySem.Str × PySem.Str)} (h : PrsAt H vs ps) : PrsAt H (((vs.zip (ps.map encP)).mergeSort (PySem.W.dataLe false (·.2))).map (·.1)) (sortP ps) := by
  have e1 : ((vs.zip ps).mergeSort (PySem.W.dataLe false fun z : V × (PySem.Str × PySem.Str) => encP z.2)).map (fun z => (z.1, encP z.2)) = (vs.zip (ps.map encP)).mergeSort (PySem.W.dataLe false fun z : V × PyData => z.2) := by
    rw [zip_m]
    exact List.map_mergeSort fun a _ b _ => rfl
  have e2 : ((vs.zip ps).mergeSort (PySem.W.dataLe false fun z : V × (PySem.Str × PySem.Str) => encP z.2)).map (·.2) = sortP ps := by
    have : ((vs.zip ps).mergeSort (PySem.W.dataLe false fun z : V × (PySem.Str × PySem.Str) => encP z.2)).map (·.2) = ((vs.zip ps).map (·.2)).mergeSort leP := List.map_mergeSort fun a _ b _ => rfl
    rw [this, zip_s h.1]
    rfl
  rw [← e1, List.map_map, ← e2]
  refine ⟨by rw [List.length_map, List.length_map], fun z m => ?_⟩
  have e3 : ((·.1) ∘ fun z : V × (PySem.Str × PySem.Str) => (z.1, encP z.2)) = (·.1) := rfl
  rw [e3, zip_fs] at m
  exact h.2 z ((List.mergeSort_perm _ _).mem_iff.mp m)
theorem PrsAt.mono {H H' : Hp} {vs : List V} {ps : List (PySem.Str × PySem.Str)} (h : PrsAt H vs ps) (e : ∀ q xs, H q = some (.tup xs) → H' q = some (.tup xs)) : PrsAt H' vs ps := ⟨h.1, fun z m => let ⟨q, e1, e2⟩ := h.2 z m; ⟨q, e1, e q _ e2⟩⟩
theorem PrsAt.get {H : Hp} {vs : List V} {ps : List (PySem.Str × PySem.Str)} {i : Nat} {v : V} (h : PrsAt H vs ps) (e : vs[i]? = some v) : ∃ p q, ps[i]? = some p ∧ v = .ref q ∧ H q = some (.tup [.str p.1, .str p.2]) := by
  have hi : i < vs.length := (List.getElem?_eq_some_iff.mp e).1
  have hj : i < ps.length := by rw [← h.1]; exact hi
  have m : (v, ps[i]) ∈ vs.zip ps := List.mem_of_getElem? (i := i) (by rw [List.getElem?_zip_eq_some]; exact ⟨e, List.getElem?_eq_getElem hj⟩)
  obtain ⟨q, e1, e2⟩ := h.2 _ m
  exact ⟨ps[i], q, List.getElem?_eq_getElem hj, e1, e2⟩
theorem prs_dp {K : PySem.W.Frag} {H : Hp} : ∀ {vs : List V} {ps : List (PySem.Str × PySem.Str)}, PrsAt H vs ps → DpAll K H vs (ps.map encP)
  | [], [], _ => .nil
  | v :: vs, [], h => by cases h.1
  | [], p :: ps, h => by cases h.1
  | v :: vs, p :: ps, h => by
    obtain ⟨q, e1, e2⟩ := h.2 (v, p) (by rw [List.zip_cons_cons]; exact List.mem_cons_self)
    have e1' : v = .ref q := e1
    subst e1'
    exact .cons (.tup (SqT.of e2) (.cons (.str _) (.cons (.str _) .nil))) (prs_dp ⟨by have := h.1; simpa using this, fun z m => h.2 z (by rw [List.zip_cons_cons]; exact List.mem_cons_of_mem _ m)⟩)
theorem encP_alike (ps : List (PySem.Str × PySem.Str)) : PySem.W.AllAlike (ps.map encP) := .of fun b b' => by simp [encP, PySem.W.alike, PySem.W.alikeAll]
theorem encP_sort (ps : List (PySem.Str × PySem.Str)) : PySem.W.Sortable (ps.map encP) := .tuples fun b => ⟨_, _, rfl⟩
theorem encP_depth (ps : List (PySem.Str × PySem.Str)) : ∀ d ∈ ps.map encP, d.depth ≤ 10 := fun d m => by
  obtain ⟨p, _, rfl⟩ := List.mem_map.mp m
  simp [encP, PyData.depth, PyData.depthAll]
end Pn
end

section
set_option Elab.async false
set_option linter.all false
set_option maxRecDepth 100000
set_option maxHeartbeats 4000000
/-! Book's attributes -/
namespace KP
open PySem PySem.Spec PyProof.Rows L2 Pn StX
abbrev sFst : Stmt := inClass (top 57) 2
abbrev sRst : Stmt := inClass (top 57) 3
abbrev sMds : Stmt := inClass (top 57) 4
abbrev sBnd : Stmt := inClass (top 57) 5
abbrev sStr : Stmt := inClass (top 57) 6
abbrev sCon : Stmt := inClass (top 57) 9
abbrev sLenB : Stmt := inClass (top 57) 10
abbrev sToldBy : Stmt := top 61
abbrev sBookE : Stmt := inClass (top 57) 12
def spFst (c : Cs) (cb : Addr) : Sp := fun vs H Q _ => ∃ x dx r d kvs D, vs = [.ref x] ∧ Bk c cb H x dx r d kvs D ∧ Q (.str D.f) H
def spRst (c : Cs) (cb : Addr) : Sp := fun vs H Q _ => ∃ x dx r d kvs D, vs = [.ref x] ∧ Bk c cb H x dx r d kvs D ∧ Q (.ref r) H
def spMds (c : Cs) (cb : Addr) : Sp := fun vs H Q _ => ∃ x dx r d kvs D, vs = [.ref x] ∧ Bk c cb H x dx r d kvs D ∧ BkW D ∧
  ∀ t ys H', Ext H H' → H t = none → H' t = some (.tup (ys.map V.str)) → Asc ys (mlist D.f D.rs D.bs) → Q (.ref t) H'
def spBnd (c : Cs) (cb : Addr) : Sp := fun vs H Q _ => ∃ x dx r d kvs D, vs = [.ref x] ∧ Bk c cb H x dx r d kvs D ∧ BkW D ∧
  ∀ t ys H', Ext H H' → H t = none → H' t = some (.tup (ys.map V.str)) → Asc ys (D.bs.map (·.1.2)) → Q (.ref t) H'
def spStr (c : Cs) (cb : Addr) : Sp := fun vs H Q _ => ∃ x dx r d kvs D, vs = [.ref x] ∧ Bk c cb H x dx r d kvs D ∧ BkW D ∧
  ∀ t us H', Ext H H' → H t = none → H' t = some (.tup us) → PrsAt H' us (sortP (D.bs.map (·.1))) → Q (.ref t) H'
def spLenB (c : Cs) (cb : Addr) : Sp := fun vs H Q _ => ∃ x dx r d kvs D, vs = [.ref x] ∧ Bk c cb H x dx r d kvs D ∧ Q (.int ((D.bs.length : Nat) : Int)) H
/-- whether a value is one of the pairs -/
def inB (ps : List (PySem.Str × PySem.Str)) : PyData → Bool
  | .tuple [.str a, .str b] => decide ((a, b) ∈ ps)
  | _ => false
/-- a value and what it is -/
structure Val (K : PySem.W.Frag) (H : Hp) (y : V) (d : PyData) : Prop where
  q : Dq K H y d
  t : TrX K H y d
def spCon (K : PySem.W.Frag) (c : Cs) (cb : Addr) : Sp := fun vs H Q _ => ∃ x dx r d kvs D y e, vs = [.ref x, y] ∧ Bk c cb H x dx r d kvs D ∧ BsW D.bs ∧ Val K H y e ∧ ∀ H', Ext H H' → Q (.bl (inB (D.bs.map (·.1)) e)) H'
theorem dpAll_get {K : PySem.W.Frag} {H : Hp} : ∀ {xs : List V} {ds : List PyData} {i : Nat} {x : V}, DpAll K H xs ds → xs[i]? = some x → ∃ d, ds[i]? = some d ∧ Dp K H x d
  | _, _, i, x, .nil, e => by cases e
  | _, _, 0, x, .cons h _, e => by cases e; exact ⟨_, rfl, h⟩
  | _, _, i + 1, x, .cons _ r, e => dpAll_get (i := i) r e
theorem Val.prv {K : PySem.W.Frag} {H : Hp} {y : V} {d : PyData} (h : Val K H y d) : PrV K H y d := by
  refine ⟨Dq.ty h.q, fun ds e => ?_⟩
  obtain ⟨sm, tr⟩ := h.t
  obtain ⟨a, xs, rfl, ha, hd, lx⟩ := tr ds e
  have ln := dpAll_len hd
  refine ⟨a, xs, rfl, SqT.of ha, ln, lx, fun l2 => ⟨ln, fun i x ex => ?_⟩⟩
  obtain ⟨d', ed, hp⟩ := dpAll_get hd ex
  refine ⟨d', ed, Kd.dp hp, fun z ez => ?_⟩
  subst e
  match ds, l2 with
  | [p, q], _ =>
    have sm' : (sm1 p && sm1 q) = true := sm
    rw [Bool.and_eq_true] at sm'
    have mm : d' = p ∨ d' = q := by
      have := List.mem_of_getElem? ed
      simpa using this
    rcases mm with rfl | rfl
    · subst ez; exact of_decide_eq_true sm'.1
    · subst ez; exact of_decide_eq_true sm'.2
/-- a pair that is at hand -/
theorem Val.key {K : PySem.W.Frag} {H : Hp} {y : V} {a b : PySem.Str} (h : Val K H y (.tuple [.str a, .str b])) : ∃ q, y = .ref q ∧ H q = some (.tup [.str a, .str b]) := by
  obtain ⟨q, xs, rfl, hq, hd, _⟩ := h.t.2 _ rfl
  refine ⟨q, rfl, ?_⟩
  cases hd with
  | cons h1 h2 => cases h2 with
    | cons h3 h4 => cases h4; cases h1; cases h3; exact hq
theorem Val.ext {K : PySem.W.Frag} {H H' : Hp} {y : V} {d : PyData} (h : Val K H y d) (e : Ext H H') : Val K H' y d := ⟨h.q.same e, h.t.same e⟩
theorem inB_words {bs : List PB} (h : BsW bs) {e : PyData} (p : pairD e = false) : inB (bs.map (·.1)) e = false := by
  unfold inB
  split
  · rename_i a b
    refine decide_eq_false fun m => ?_
    obtain ⟨x, mx, ex⟩ := List.mem_map.mp m
    have w := h x mx
    rw [ex] at w
    have : (wdB a && wdB b) = false := p
    rw [(wdB_iff a).mpr w.2.2.1, (wdB_iff b).mpr w.2.2.2] at this
    cases this
  · rfl
theorem pairD_str {e : PyData} (h : pairD e = true) : ∃ a b, e = .tuple [.str a, .str b] ∧ wdB a = true ∧ wdB b = true := by
  match e, h with
  | .tuple [x, y], h =>
    have h' : (wordD x && wordD y) = true := h
    rw [Bool.and_eq_true] at h'
    cases x <;> first | (exact absurd h'.1 Bool.false_ne_true) | skip
    cases y <;> first | (exact absurd h'.2 Bool.false_ne_true) | skip
    exact ⟨_, _, rfl, h'.1, h'.2⟩
section
variable {P : Program} {w : World} {K : PySem.W.Frag} {mg : Str → Option Value} {base : Heap} {c : Cs} {cb : Addr}
theorem Bods.val {H : Hp} : ∀ {kvs : List (List Key × V)} {bs : List PB} {p : PySem.Str × PySem.Str}, Bods c H kvs bs → (valV kvs (keyP p)).isSome = decide (p ∈ bs.map (·.1))
  | _, _, p, .nil => rfl
  | _, _, p, .cons (p := p0) (b := b) (its := its) (kvs := kvs) (bs := bs) hb r => by
    have ih := r.val (p := p)
    by_cases e : p0 = p
    · subst e
      rw [valV_pos rfl, List.map_cons, decide_eq_true List.mem_cons_self]
      rfl
    · have ne : keyP p0 ≠ keyP p := fun z => e (by
        unfold keyP at z
        injection z with z1 z2
        injection z2 with z2 _
        injection z1 with z1
        injection z2 with z2
        exact Prod.ext z1 z2)
      rw [valV_neg ne, ih, List.map_cons]
      have : p ≠ p0 := fun z => e z.symm
      simp [this]
theorem scFst : FnScope ["self"] ["self"] (defScope sFst) := ⟨rfl, rfl, rfl, by decide +kernel, rfl, by decide +kernel, by decide +kernel⟩
theorem ok_fst {f : Addr} {fd : FuncData} (F : Fun K "first" "Book.first" sFst f fd) (BT : BkT K mg cb) : FnOk P w K mg base CX0 1 f fd ["self"] (spFst c cb) := by
  refine F.ok scFst (fun vs H Q E h => ?_) (fun cdv A outer s H vs Q E hr h => ?_)
  · obtain ⟨x, dx, r, d, kvs, D, rfl, _⟩ := h
    rfl
  · obtain ⟨x, dx, r, d, kvs, D, rfl, hb, q⟩ := h
    refine ⟨_, pss_one (ps_ret (pe_fld (pv 0) rfl)), ?_⟩
    exact ⟨_, rfl, x, cb, dx, _, _, rfl, hb.i, BT.ty.cl, BT.nF, rfl, q⟩
theorem scRst : FnScope ["self"] ["self"] (defScope sRst) := ⟨rfl, rfl, rfl, by decide +kernel, rfl, by decide +kernel, by decide +kernel⟩
theorem ok_rst {f : Addr} {fd : FuncData} (F : Fun K "rest" "Book.rest" sRst f fd) (BT : BkT K mg cb) : FnOk P w K mg base CX0 1 f fd ["self"] (spRst c cb) := by
  refine F.ok scRst (fun vs H Q E h => ?_) (fun cdv A outer s H vs Q E hr h => ?_)
  · obtain ⟨x, dx, r, d, kvs, D, rfl, _⟩ := h
    rfl
  · obtain ⟨x, dx, r, d, kvs, D, rfl, hb, q⟩ := h
    refine ⟨_, pss_one (ps_ret (pe_fld (pv 0) rfl)), ?_⟩
    exact ⟨_, rfl, x, cb, dx, _, _, rfl, hb.i, BT.ty.cl, BT.nR, rfl, q⟩
variable {fM fG fAs fK pE fE fW fA fP fCm fCs fCb fX fL fWb : Addr} {dM dG dAs dK dE dW dA dP dCm dCs dCb dX dL dWb : FuncData}
theorem scMds : FnScope ["self"] ["self"] (defScope sMds) := ⟨rfl, rfl, rfl, by decide +kernel, rfl, by decide +kernel, by decide +kernel⟩
theorem ok_mds {f : Addr} {fd : FuncData} (F : Fun K "modes" "Book.modes" sMds f fd) (N : BkN K mg c) (Z : LimF K mg c fM fG fAs fK pE fE dM dG dAs dK dE) (BT : BkT K mg cb) : FnOk P w K mg base CX0 5 f fd ["self"] (spMds c cb) := by
  have GM : FnOk P w K mg base CX0 4 fM dM ["first", "rest", "bodies"] (spModes K c) := Z.M N.T1 N.TG N.B N.A'
  refine F.ok scMds (fun vs H Q E h => ?_) (fun cdv A outer s H vs Q E hr h => ?_)
  · obtain ⟨x, dx, r, d, kvs, D, rfl, _⟩ := h
    rfl
  · obtain ⟨x, dx, r, d, kvs, D, rfl, hb, hw, q⟩ := h
    have hr4 : Room 4 _ := hr
    refine ⟨_, pss_one (ps_ret (pe_call GM hr4 rfl Z.gM.g Z.gM.k Z.bM .nil pass0 (pa_cons (pe_fld (pv 0) rfl) (pa_cons (pe_fld (pv 0) rfl) (pa_cons (pe_fld (pv 0) rfl) pa_nil))))), ?_⟩
    exact ⟨_, rfl, x, cb, dx, _, _, rfl, hb.i, BT.ty.cl, BT.nF, rfl, _, rfl, x, cb, dx, _, _, rfl, hb.i, BT.ty.cl, BT.nR, rfl, _, rfl, x, cb, dx, _, _, rfl, hb.i, BT.ty.cl, BT.nB, rfl,
      D.f, r, d, D.rs, kvs, D.bs, rfl, .inr (SqT.of hb.r), hb.d, hb.b, hb.n, hw.w, hw.l, ⟨dd (mlist D.f D.rs D.bs), hw.m, fun z m => (dd_mem _ z).mpr m⟩, fun t ys H' e ht h1 h2 h3 h4 => q t ys H' e ht h1 ⟨h2, h3, h4⟩⟩
theorem scBnd : FnScope ["self"] ["self"] (defScope sBnd) := ⟨rfl, rfl, rfl, by decide +kernel, rfl, by decide +kernel, by decide +kernel⟩
theorem ok_bnd {f : Addr} {fd : FuncData} (F : Fun K "bound" "Book.bound" sBnd f fd) (N : BkN K mg c) (Z : LimF K mg c fM fG fAs fK pE fE dM dG dAs dK dE) (BT : BkT K mg cb) : FnOk P w K mg base CX0 3 f fd ["self"] (spBnd c cb) := by
  have GK : FnOk P w K mg base CX0 2 fK dK ["bodies"] spKeysOf := Z.Ky N.TG
  refine F.ok scBnd (fun vs H Q E h => ?_) (fun cdv A outer s H vs Q E hr h => ?_)
  · obtain ⟨x, dx, r, d, kvs, D, rfl, _⟩ := h
    rfl
  · obtain ⟨x, dx, r, d, kvs, D, rfl, hb, hw, q⟩ := h
    have hr2 : Room 2 _ := hr
    refine ⟨_, pss_one (ps_ret (pe_call GK hr2 rfl Z.gK.g Z.gK.k Z.bK .nil pass0 (pa_cons (pe_fld (pv 0) rfl) pa_nil))), ?_⟩
    refine ⟨_, rfl, x, cb, dx, _, _, rfl, hb.i, BT.ty.cl, BT.nB, rfl, d, kvs, D.bs.map (·.1), rfl, hb.d, hb.b.keys, by rw [hb.b.len]; exact hw.z, fun t ys H' e ht h1 h2 h3 h4 => q t ys H' e ht h1 ⟨h2, h3, fun z => (h4 z).trans ?_⟩⟩
    rw [List.map_map]
    exact Iff.rfl
theorem scStr : FnScope ["self"] ["self"] (defScope sStr) := ⟨rfl, rfl, rfl, by decide +kernel, rfl, by decide +kernel, by decide +kernel⟩
theorem prs_keys {H : Hp} {kvs : List (List Key × V)} {ps : List (PySem.Str × PySem.Str)} {bs : List Addr} (h : IsKeys H kvs bs) (k : PairKeys kvs ps) : PrsAt H (bs.map V.ref) ps := by
  unfold IsKeys at h
  unfold PairKeys at k
  induction h generalizing ps with
  | nil =>
    cases ps with
    | nil => exact ⟨rfl, fun z m => by cases m⟩
    | cons p ps => cases k
  | @cons a b as bs' h t ih =>
    cases ps with
    | nil => cases k
    | cons p ps =>
      rw [List.map_cons, List.map_cons] at k
      injection k with k1 k2
      obtain ⟨i1, i2⟩ := ih k2
      refine ⟨by rw [List.map_cons, List.length_cons, List.length_cons, i1], fun z m => ?_⟩
      rw [List.map_cons, List.zip_cons_cons] at m
      rcases List.mem_cons.mp m with rfl | m
      · exact ⟨b, rfl, by rw [k1] at h; exact h⟩
      · exact i2 z m
theorem ok_str {f : Addr} {fd : FuncData} (F : Fun K "strokes" "Book.strokes" sStr f fd) (N : BkN K mg c) (BT : BkT K mg cb) : FnOk P w K mg base CX0 1 f fd ["self"] (spStr c cb) := by
  refine F.ok scStr (fun vs H Q E h => ?_) (fun cdv A outer s H vs Q E hr h => ?_)
  · obtain ⟨x, dx, r, d, kvs, D, rfl, _⟩ := h
    rfl
  · obtain ⟨x, dx, r, d, kvs, D, rfl, hb, hw, q⟩ := h
    refine ⟨_, pss_one (ps_ret (pe_callTy (T := "tuple") call_tuple_of (by rfl) N.TG.tuple (by decide +kernel) (pa_cons (pe_callB (r := rSortD K) (cr_sortedD hr.units) (by rfl) N.TG.sorted (by decide +kernel) (pa_cons (pe_callTy (T := "list") (call_list_dT rfl) (by rfl) N.T1.list (by decide +kernel) (pa_cons (pe_fld (pv 0) rfl) pa_nil)) pa_nil)) pa_nil))), ?_⟩
    refine ⟨_, rfl, x, cb, dx, _, _, rfl, hb.i, BT.ty.cl, BT.nB, rfl, d, kvs, rfl, .inl hb.d, fun p bs hp ik => ?_⟩
    have pa := prs_keys ik hb.b.keys
    have e1 : Ext H (upd H p (.lst (bs.map V.ref))) := Ext.upd hp
    have pa1 := pa.mono (fun q xs z => e1 q _ z)
    have lb : (bs.map V.ref).length ≤ 1000 := by
      have := hw.z
      rw [pa.1, List.length_map]; omega
    refine ⟨p, bs.map V.ref, (D.bs.map (·.1)).map encP, rfl, SqL.of upd_same, prs_dp pa1, encP_alike _, encP_sort _, encP_depth _, lb, fun p2 hp2 => ?_⟩
    refine ⟨p2, _, rfl, .inl ⟨SqL.of upd_same, fun t ht => ?_⟩⟩
    have e2 : Ext H (upd (upd (upd H p (.lst (bs.map V.ref))) p2 (.lst ((((bs.map V.ref).zip ((D.bs.map (·.1)).map encP)).mergeSort (PySem.W.dataLe false (·.2))).map (·.1)))) t (.tup ((((bs.map V.ref).zip ((D.bs.map (·.1)).map encP)).mergeSort (PySem.W.dataLe false (·.2))).map (·.1)))) := (e1.trans (Ext.upd hp2)).trans (Ext.upd ht)
    refine q t _ _ e2 ?_ upd_same (pa.sort.mono (fun q xs z => e2 q _ z))
    cases e : H t with
    | none => rfl
    | some o =>
      have z := (e1.trans (Ext.upd (o := .lst ((((bs.map V.ref).zip ((D.bs.map (·.1)).map encP)).mergeSort (PySem.W.dataLe false (·.2))).map (·.1))) hp2)) t o e
      rw [z] at ht
      cases ht
theorem scLenB : FnScope ["self"] ["self"] (defScope sLenB) := ⟨rfl, rfl, rfl, by decide +kernel, rfl, by decide +kernel, by decide +kernel⟩
theorem ok_lenB {f : Addr} {fd : FuncData} (F : Fun K "__len__" "Book.__len__" sLenB f fd) (N : BkN K mg c) (BT : BkT K mg cb) : FnOk P w K mg base CX0 1 f fd ["self"] (spLenB c cb) := by
  refine F.ok scLenB (fun vs H Q E h => ?_) (fun cdv A outer s H vs Q E hr h => ?_)
  · obtain ⟨x, dx, r, d, kvs, D, rfl, _⟩ := h
    rfl
  · obtain ⟨x, dx, r, d, kvs, D, rfl, hb, q⟩ := h
    refine ⟨_, pss_one (ps_ret (pe_callB call_len_dT (by rfl) N.T1.len PySem.boot_len (pa_cons (pe_fld (pv 0) rfl) pa_nil))), ?_⟩
    refine ⟨_, rfl, x, cb, dx, _, _, rfl, hb.i, BT.ty.cl, BT.nB, rfl, d, kvs, rfl, hb.d, ?_⟩
    rw [hb.b.len]
    exact q
theorem scCon : FnScope ["self", "pair"] ["self", "pair"] (defScope sCon) := ⟨rfl, rfl, rfl, by decide +kernel, rfl, by decide +kernel, by decide +kernel⟩
theorem ok_con {f : Addr} {fd : FuncData} (F : Fun K "__contains__" "Book.__contains__" sCon f fd) (N : BkN K mg c) (Y : BkF K mg c fW fA fP fCm fCs fCb fX fL fWb dW dA dP dCm dCs dCb dX dL dWb) (BT : BkT K mg cb) : FnOk P w K mg base CX0 4 f fd ["self", "pair"] (spCon K c cb) := by
  have GP : FnOk P w K mg base CX0 3 fP dP ["value"] (spPairW K) := ok_pairW Y.FP N.T1 N.U N.V3 Y.FW Y.bW Y.gW Y.FA Y.bA Y.gA
  refine F.ok scCon (fun vs H Q E h => ?_) (fun cdv A outer s H vs Q E hr h => ?_)
  · obtain ⟨x, dx, r, d, kvs, D, y, e, rfl, _⟩ := h
    rfl
  · obtain ⟨x, dx, r, d, kvs, D, y, e, rfl, hb, hw, hv, q⟩ := h
    have hr3 : Room 3 _ := hr
    have hu := hu_of hr
    refine ⟨_, pss_one (ps_ret (pe_and (pe_call GP hr3 rfl Y.gP.g Y.gP.k Y.bP .nil pass0 (pa_cons (pv 1) pa_nil)) (pe_one (pe_cmp (pc_din hu (pv 1) (pe_fld (pv 0) rfl)) rfl)))), ?_⟩
    refine ⟨_, rfl, y, e, rfl, hv.prv, fun H1 e1 => ⟨pairD e, rfl, ?_⟩⟩
    cases hp : pairD e with
    | false =>
      rw [inB_words hw hp] at q
      exact q H1 e1
    | true =>
      obtain ⟨a, b, rfl, wa, wb⟩ := pairD_str hp
      obtain ⟨k, rfl, hk⟩ := hv.key
      have hb1 := hb.ext e1
      have vv := hb.b.val (p := (a, b))
      refine ⟨_, rfl, _, rfl, x, cb, dx, _, _, rfl, hb1.i, BT.ty.cl, BT.nB, rfl, d, _, rfl, DGet.t (k := keyP (a, b)) hb1.d (e1 _ _ hk), ?_⟩
      rw [vv]
      exact q H1 e1
end
end KP
end

section
set_option Elab.async false
set_option linter.all false
set_option maxRecDepth 100000
set_option maxHeartbeats 4000000
/-! == of books -/
namespace KP
open PySem PySem.Spec PyProof.Rows L2 Pn StX
def spToldBy (c : Cs) (cb : Addr) : Sp := fun vs H Q _ => ∃ x dx r d kvs D, vs = [.ref x] ∧ Bk c cb H x dx r d kvs D ∧ ∀ t, H t = none → Q (.ref t) (upd H t (.tup [.str D.f, .ref r, .ref d]))
/-- bodies, by == -/
def DBo (c : Cs) : EqvB := fun x y H b => ∃ a a' is js, x = .ref a ∧ y = .ref a' ∧ Bo c H a is ∧ ItsW 2 is ∧ Bo c H a' js ∧ b = eqs is js
theorem monB_bo {c : Cs} : MonB (DBo c) := fun x y b H H' e ⟨a, a', is, js, e1, e2, h1, h2, h3, h4⟩ => ⟨a, a', is, js, e1, e2, h1.keep (.ext' e), h2, h3.keep (.ext' e), h4⟩
def bval (cs : List PB) (p : PySem.Str × PySem.Str) : Option (List Itm) := (cs.find? fun x => decide (x.1 = p)).map (·.2)
/-- one body and that of another book under its pair -/
def fbAt (bs cs : List PB) (i : Nat) : Bool := match bs[i]? with
  | some (p, its) => match bval cs p with
    | some js => eqs its js
    | none => false
  | none => false
def eqBs (bs cs : List PB) : Bool := decide (bs.length = cs.length) && (List.range bs.length).all (fbAt bs cs)
def eqBk (D D' : BkD) : Bool := decide (D.f = D'.f) && (decide (D.rs = D'.rs) && eqBs D.bs D'.bs)
theorem Bods.bval {c : Cs} {H : Hp} : ∀ {kvs : List (List Key × V)} {bs : List PB} (p : PySem.Str × PySem.Str), Bods c H kvs bs → (valV kvs (keyP p) = none ∧ KP.bval bs p = none) ∨ ∃ b js, valV kvs (keyP p) = some (.ref b) ∧ KP.bval bs p = some js ∧ Bo c H b js
  | _, _, p, .nil => .inl ⟨rfl, rfl⟩
  | _, _, p, .cons (p := p0) (b := b) (its := its) (kvs := kvs) (bs := bs) hb r => by
    have ih := r.bval p
    by_cases e : p0 = p
    · subst e
      exact .inr ⟨b, its, valV_pos rfl, by unfold KP.bval; rw [List.find?_cons, show decide (((p0, its) : PB).1 = p0) = true from decide_eq_true rfl]; rfl, hb⟩
    · have ne : keyP p0 ≠ keyP p := fun z => e (by
        unfold keyP at z
        injection z with z1 z2
        injection z2 with z2 _
        injection z1 with z1
        injection z2 with z2
        exact Prod.ext z1 z2)
      have e2 : KP.bval ((p0, its) :: bs) p = KP.bval bs p := by unfold KP.bval; rw [List.find?_cons, show decide (((p0, its) : PB).1 = p) = false from decide_eq_false e]
      rw [valV_neg ne, e2]
      exact ih
/-- a dict of bodies and another one -/
theorem bods_dct {c : Cs} {H : Hp} {d d' : Addr} {kvs kvs' : List (List Key × V)} {bs cs : List PB} (ne : d ≠ d') (hd : H d = some (.dT kvs)) (hd' : H d' = some (.dT kvs')) (hB : Bods c H kvs bs) (hw : BsW bs) (hC : Bods c H kvs' cs) : DDctB (DBo c) (.ref d) (.ref d') H (eqBs bs cs) := by
  refine ⟨d, d', kvs, kvs', fbAt bs cs, rfl, rfl, ne, hd, hd', fun oa ob i k u eu => ?_, by rw [hB.len, hC.len]; rfl⟩
  obtain ⟨p, its, b, ep, rfl, rfl, hb⟩ := hB.get eu
  have wp := hw _ (List.mem_of_getElem? ep)
  have kp : Kept H (upd (upd H d (.frz oa (.dT kvs))) d' (.frz ob (.dT kvs'))) :=
    ⟨fun a C dx fs _ h => by rw [upd_ne (ne_of h hd' (by intro z; cases z)), upd_ne (ne_of h hd (by intro z; cases z))]; exact h,
     fun a xs h => by rw [upd_ne (ne_of h hd' (by intro z; cases z)), upd_ne (ne_of h hd (by intro z; cases z))]; exact h⟩
  have fe : fbAt bs cs i = match bval cs p with | some js => eqs its js | none => false := by unfold fbAt; rw [ep]
  rw [fe]
  rcases hC.bval p with ⟨h1, h2⟩ | ⟨b', js, h1, h2, h3⟩
  · rw [h1, h2]
    exact ⟨(fun v ev => by cases ev), fun _ => rfl⟩
  · rw [h1, h2]
    refine ⟨fun v ev => ?_, fun z => by cases z⟩
    cases ev
    exact ⟨b, b', its, js, rfl, rfl, hb.keep kp, wp.1, h3.keep kp, rfl⟩
theorem bval_self : ∀ {bs : List PB} {p : PySem.Str × PySem.Str} {its : List Itm}, (bs.map (·.1)).Nodup → (p, its) ∈ bs → bval bs p = some its
  | (p0, i0) :: bs, p, its, n, m => by
    rw [List.map_cons, List.nodup_cons] at n
    rcases List.mem_cons.mp m with e | m
    · have e1 : p0 = p := (congrArg Prod.fst e).symm
      have e2 : i0 = its := (congrArg Prod.snd e).symm
      unfold bval
      rw [List.find?_cons, show decide (((p0, i0) : PB).1 = p) = true from decide_eq_true e1, e2]
      rfl
    · have ne : p0 ≠ p := fun z => n.1 (by rw [z]; exact List.mem_map.mpr ⟨_, m, rfl⟩)
      have := bval_self n.2 m
      unfold bval at this ⊢
      rw [List.find?_cons, show decide (((p0, i0) : PB).1 = p) = false from decide_eq_false ne]
      exact this
/-- bodies in another order are equal -/
theorem eqBs_perm {bs cs : List PB} (n : (cs.map (·.1)).Nodup) (h : bs.Perm cs) : eqBs bs cs = true := by
  unfold eqBs
  rw [Bool.and_eq_true, decide_eq_true_iff, List.all_eq_true]
  refine ⟨h.length_eq, fun i hi => ?_⟩
  have hi' := List.mem_range.mp hi
  unfold fbAt
  rw [List.getElem?_eq_getElem hi']
  have m : bs[i] ∈ cs := h.mem_iff.mp (List.getElem_mem hi')
  have e := bval_self (p := bs[i].1) (its := bs[i].2) n m
  show (match bval cs bs[i].1 with | some js => eqs bs[i].2 js | none => false) = true
  rw [e]
  exact (eqs_iff _ _).mpr rfl
theorem keyP_inj {p q : PySem.Str × PySem.Str} (z : keyP p = keyP q) : p = q := by
  unfold keyP at z
  injection z with z1 z2
  injection z2 with z2 _
  injection z1 with z1
  injection z2 with z2
  exact Prod.ext z1 z2
theorem Bods.nodup {c : Cs} {H : Hp} {kvs : List (List Key × V)} {bs : List PB} (h : Bods c H kvs bs) (n : (kvs.map (·.1)).Nodup) : (bs.map (·.1)).Nodup := by
  rw [show kvs.map (·.1) = (bs.map (·.1)).map keyP from h.keys] at n
  exact List.Pairwise.of_map keyP (fun a b h e => h (congrArg keyP e)) n
section
variable {P : Program} {w : World} {K : PySem.W.Frag} {mg : Str → Option Value} {base : Heap} {c : Cs} {cb : Addr}
theorem Bods.det {H : Hp} (B : BodT K mg c) (A' : Ap K c) : ∀ {kvs : List (List Key × V)} {bs cs : List PB}, Bods c H kvs bs → Bods c H kvs cs → bs = cs
  | _, _, _, .nil, g => by cases g; rfl
  | _, _, _, .cons (p := p) (b := b) (kvs := kvs) h r, g => by
    generalize e1 : (keyP p, V.ref b) = kv at g
    cases g with
    | @cons p' b' its' _ cs' h' r' =>
      injection e1 with e1 e2
      injection e2 with e2
      have e3 := keyP_inj e1
      subst e3
      subst e2
      rw [bo_det B A' h h', r.det B A' r']
theorem scToldBy : FnScope ["book"] ["book"] (defScope sToldBy) := ⟨rfl, rfl, rfl, by decide +kernel, rfl, by decide +kernel, by decide +kernel⟩
theorem ok_toldBy {f : Addr} {fd : FuncData} (F : Fun K "told_by" "told_by" sToldBy f fd) (BT : BkT K mg cb) : FnOk P w K mg base CX0 1 f fd ["book"] (spToldBy c cb) := by
  refine F.ok scToldBy (fun vs H Q E h => ?_) (fun cdv A outer s H vs Q E hr h => ?_)
  · obtain ⟨x, dx, r, d, kvs, D, rfl, _⟩ := h
    rfl
  · obtain ⟨x, dx, r, d, kvs, D, rfl, hb, q⟩ := h
    refine ⟨_, pss_one (ps_ret (pe_tup (pa_cons (pe_fld (pv 0) rfl) (pa_cons (pe_fld (pv 0) rfl) (pa_cons (pe_fld (pv 0) rfl) pa_nil))))), ?_⟩
    exact ⟨_, rfl, x, cb, dx, _, _, rfl, hb.i, BT.ty.cl, BT.nF, rfl, _, rfl, x, cb, dx, _, _, rfl, hb.i, BT.ty.cl, BT.nR, rfl, _, rfl, x, cb, dx, _, _, rfl, hb.i, BT.ty.cl, BT.nB, rfl, (by show 3 ≤ sizeLine; decide), fun t ht => q t ht⟩
/-- a book and a book -/
def RBk (c : Cs) (cb : Addr) : Addr → V → Hp → Bool → Prop := fun x y H b => ∃ dx r d kvs D x' dx' r' d' kvs' D', Bk c cb H x dx r d kvs D ∧ BsW D.bs ∧ y = .ref x' ∧ Bk c cb H x' dx' r' d' kvs' D' ∧ b = eqBk D D'
/-- a book and what is none -/
def RNk (K : PySem.W.Frag) (c : Cs) (cb : Addr) : Addr → V → Hp → Bool → Prop := fun x y H b => ∃ dx r d kvs D t, Bk c cb H x dx r d kvs D ∧ TyX K H y t ∧ PySem.W.kitOne K t (.ref cb) = some false ∧ b = false
/-- the facts of == -/
structure BkE (K : PySem.W.Frag) (cb fE : Addr) : Prop where
  kb : PySem.W.kitOne K (.ref cb) (.ref cb) = some true
  nf : PySem.W.notFirst K cb (.ref cb) = true
  m : EqM K cb fE
theorem map_str_inj : ∀ {xs ys : List PySem.Str}, xs.map V.str = ys.map V.str → xs = ys
  | [], [], _ => rfl
  | [], y :: ys, h => by cases h
  | x :: xs, [], h => by cases h
  | x :: xs, y :: ys, h => by
    rw [List.map_cons, List.map_cons] at h
    injection h with h1 h2
    injection h1 with h1
    rw [h1, map_str_inj h2]
variable {fBE fTb : Addr} {dBE dTb : FuncData}
theorem rcB_bo {X : Cx} (GBE : FnOk X.prog X.w X.K X.mg X.base CX0 9 fBE dBE ["self", "other"] (spEqB fun a y H b => RB c 2 a y H b ∨ RN X.K c a y H b)) (bBE : Binds X.K dBE ["self", "other"] []) (M : EqM X.K c.body fBE) (B : BodT X.K mg c) (A' : Ap X.K c) : RcB X 9 (DBo c) :=
  (rcB_ins (E := fun _ _ _ => False) GBE M.at_ M.fn bBE pass0).imp fun x y H b ⟨a, a', is, js, e1, e2, h1, h2, h3, h4⟩ => by
    cases h1 with
    | mk g1 g2 g3 =>
      have h1' : Bo c H a is := .mk g1 g2 g3
      cases h3 with
      | mk k1 k2 k3 =>
        exact ⟨a, _, _, .ref c.body, e1, g1, by rw [e2]; exact B.body.tyx k1, A'.nf _ (.inr (.inr (.inr (.inr rfl)))) _ (.inr (.inr (.inr (.inr rfl)))), .inl ⟨is, js, a', h1', h2, e2, .mk k1 k2 k3, h4⟩⟩
theorem eqB_bo {X : Cx} (GBE : FnOk X.prog X.w X.K X.mg X.base CX0 9 fBE dBE ["self", "other"] (spEqB fun a y H b => RB c 2 a y H b ∨ RN X.K c a y H b)) (bBE : Binds X.K dBE ["self", "other"] []) (M : EqM X.K c.body fBE) (B : BodT X.K mg c) (A' : Ap X.K c) : EqB X 9 (DBo c) :=
  (rcB_bo GBE bBE M B A').eqB (fun x y H b ⟨a, a', is, js, e1, e2, _⟩ => ⟨a, a', e1, e2⟩) fun x H b ⟨a, a', is, js, e1, e2, h1, _, h3, h4⟩ => by
    rw [e1] at e2
    injection e2 with e2
    subst e2
    rw [h4, bo_det B A' h1 h3]
    exact (eqs_iff _ _).mpr rfl
theorem range3 {p : Nat → Bool} : (List.range 3).all p = (p 0 && (p 1 && p 2)) := by
  show (List.all [0, 1, 2] p) = _
  simp
theorem scBookE : FnScope ["self", "other"] ["self", "other"] (defScope sBookE) := ⟨rfl, rfl, rfl, by decide +kernel, rfl, by decide +kernel, by decide +kernel⟩
theorem ok_bookE {f : Addr} {fd : FuncData} (F : Fun K "__eq__" "Book.__eq__" sBookE f fd) (N : BkN K mg c) (BT : BkT K mg cb) (kb : PySem.W.kitOne K (.ref cb) (.ref cb) = some true) (FT : Fun K "told_by" "told_by" sToldBy fTb dTb) (bT : Binds K dTb ["book"] []) (gT : Fn K mg "told_by" fTb)
    (GBE : FnOk P w K mg base CX0 9 fBE dBE ["self", "other"] (spEqB fun a y H b => RB c 2 a y H b ∨ RN K c a y H b)) (bBE : Binds K dBE ["self", "other"] []) (M : EqM K c.body fBE) :
    FnOk P w K mg base CX0 12 f fd ["self", "other"] (spEqB fun a y H b => RBk c cb a y H b ∨ RNk K c cb a y H b) := by
  have GT : FnOk P w K mg base CX0 1 fTb dTb ["book"] (spToldBy c cb) := ok_toldBy FT BT
  refine F.ok scBookE (fun vs H Q E h => ?_) (fun cdv A outer s H vs Q E hr h => ?_)
  · obtain ⟨a, y, b, rfl, _⟩ := h
    rfl
  · obtain ⟨a, y, b, rfl, hR, q⟩ := h
    have hr11 : Room 11 _ := hr
    have hr1 : Room 1 _ := hr.mono (by omega)
    refine ⟨_, pss_one (ps_ret (pe_and (pe_callB call_isi (by rfl) N.T1.isi bIsi (pa_cons (pv 1) (pa_cons (pe_glob (v := .ref cb) rfl BT.g rfl) pa_nil))) (pe_one (pe_cmpR (op_eqB (rcB_tup (monB_or monB_tx (monB_or (monB_txs (K := K)) (monB_dctE monB_bo))) (EqB.or (eqB_tx (n := 10)) (EqB.or ((eqB_txs (n := 0)).mono (by omega)) (eqB_dT monB_bo (eqB_bo GBE bBE M N.B N.A'))))) hr11)
      (pe_call GT hr1 rfl gT.g gT.k bT .nil pass0 (pa_cons (pv 0) pa_nil)) (pe_call GT hr1 rfl gT.g gT.k bT .nil pass0 (pa_cons (pv 1) pa_nil)) (nomark _))))), ?_⟩
    rcases hR with ⟨dx, r, d, kvs, D, x', dx', r', d', kvs', D', h, hw, rfl, g, rfl⟩ | ⟨dx, r, d, kvs, D, t, h, ty, kt, rfl⟩
    · refine ⟨_, rfl, _, .ref cb, _, _, true, rfl, .own _, BT.ty.tyx g.i, kb, true, rfl, ?_⟩
      refine ⟨_, rfl, a, dx, r, d, kvs, D, rfl, h, fun t1 ht1 => ?_⟩
      have e1 : Ext H (upd H t1 (.tup [.str D.f, .ref r, .ref d])) := Ext.upd ht1
      have g1 := g.ext e1
      refine ⟨_, rfl, x', dx', r', d', kvs', D', rfl, g1, fun t2 ht2 => ?_⟩
      have e2 : Ext H (upd (upd H t1 (.tup [.str D.f, .ref r, .ref d])) t2 (.tup [.str D'.f, .ref r', .ref d'])) := e1.trans (Ext.upd ht2)
      have h2 := h.ext e2
      have g2 := g.ext e2
      have t12 : t1 ≠ t2 := fun z => by rw [← z, upd_same] at ht2; cases ht2
      refine ⟨eqBk D D', ⟨t1, t2, _, _, fun i => match i with | 0 => decide (D.f = D'.f) | 1 => decide (D.rs = D'.rs) | _ => eqBs D.bs D'.bs, rfl, rfl, SqT.of (by rw [upd_ne t12]; exact upd_same), SqT.of upd_same, fun i u v eu ev => ?_, ?_⟩, fun H' e => q H' (e2.trans e)⟩
      · match i, eu, ev with
        | 0, eu, ev =>
          cases eu
          cases ev
          exact .inl ⟨_, _, rfl, rfl, rfl⟩
        | 1, eu, ev =>
          cases eu
          cases ev
          refine .inr (.inl ⟨r, r', D.rs, D'.rs, rfl, rfl, SqT.of h2.r, SqT.of g2.r, rfl, fun z => ?_⟩)
          have this := h2.r.symm.trans ((congrArg _ z).trans g2.r)
          injection this with this
          injection this with this
          exact map_str_inj this
        | 2, eu, ev =>
          cases eu
          cases ev
          refine .inr (.inr ?_)
          by_cases z : d = d'
          · subst z
            have e3 := h2.d
            rw [g2.d] at e3
            injection e3 with e3
            injection e3 with e3
            have hb2 := h2.b
            rw [← e3] at hb2
            have e4 := Bods.det N.B N.A' hb2 g2.b
            refine .inl ⟨d, rfl, rfl, ?_⟩
            show eqBs D.bs D'.bs = true
            rw [e4]
            exact eqBs_perm (g2.b.nodup g2.n) (.refl _)
          · exact .inr (bods_dct z h2.d g2.d h2.b hw g2.b)
        | i + 3, eu, ev => cases eu
      · show eqBk D D' = (decide (3 = 3) && (List.range 3).all _)
        rw [range3]
        rfl
    · exact ⟨_, rfl, _, .ref cb, _, _, false, rfl, .own _, ty, kt, false, rfl, q H Ext.rfl'⟩
end
end KP
end

section
set_option Elab.async false
set_option linter.all false
set_option maxRecDepth 100000
set_option maxHeartbeats 4000000
/-! book[pair], copies, other rest modes -/
namespace KP
open PySem PySem.Spec PyProof.Rows L2 Pn StX
abbrev sGetB : Stmt := inClass (top 57) 7
abbrev sCopied : Stmt := inClass (top 57) 20
abbrev sSetRest : Stmt := inClass (top 57) 19
def bmL : List Value := [.type "LookupError", .type "Exception", .type "BaseException", .type "object"]
theorem basL : Bas "LookupError" "LookupError.__new__" "LookupError.__init__" bmL := ⟨F.excBase_LookupError, F.store_LookupError⟩
structure UnkT (K : PySem.W.Frag) (mg : PySem.Str → Option Value) (CO : Addr) : Prop where
  g : mg "UnknownStroke" = some (.ref CO)
  one : One K CO bmL "LookupError.__new__" "value"
  ty : PySem.W.typeIn K (.ref CO) = some (.type "type")
  ex : ∃ bmB newId, Exk K CO bmB newId
  no : PySem.W.findIn K (.ref CO) "value" = some none
  kit : PySem.W.kitOne K (.ref CO) (.type "LookupError") = some true
  em : PySem.W.exmOne K (.ref CO) (.ref CO) = some true
  b : mg "LookupError" = none
theorem UnkT.xf {K : PySem.W.Frag} {mg : PySem.Str → Option Value} {CO : Addr} (T : UnkT K mg CO) : XfC K CO := by
  obtain ⟨bmB, newId, e⟩ := T.ex
  exact ⟨e.ga, e.gg, e.sub, e.sto.hd⟩
def spGetB (K : PySem.W.Frag) (c : Cs) (cb CO : Addr) : Sp := fun vs H Q E => ∃ x dx r d kvs D y e, vs = [.ref x, y] ∧ Bk c cb H x dx r d kvs D ∧ BsW D.bs ∧ Val K H y e ∧
  (inB (D.bs.map (·.1)) e = false → ∀ H' dd, Ext H H' → H' dd = none → E (.ref CO) (some dd) (upd H' dd (.xd [("value", y)]))) ∧
  (∀ a b its v H', e = .tuple [.str a, .str b] → bval D.bs (a, b) = some its → Ext H H' → Bo c H' v its → Q (.ref v) H')
def spCopied (c : Cs) (cb : Addr) : Sp := fun vs H Q _ => ∃ x dx r d kvs D, vs = [.ref x] ∧ Bk c cb H x dx r d kvs D ∧ BkW D ∧
  ∀ x' dx' r' d' ys H', Ext H H' → H x' = none → H r' = none → H d' = none → Asc ys D.rs → Bk c cb H' x' dx' r' d' kvs ⟨D.f, ys, D.bs⟩ → Q (.ref x') H'
def spSetRest (K : PySem.W.Frag) (c : Cs) (cb : Addr) : Sp := fun vs H Q _ => ∃ x dx r d kvs D l zs, vs = [.ref x, .ref l] ∧ Bk c cb H x dx r d kvs D ∧ BkW ⟨D.f, zs, D.bs⟩ ∧ (SqL K H l (zs.map V.str) ∨ SqT K H l (zs.map V.str)) ∧
  ∀ t ys H1, Ext H H1 → H t = none → H1 t = some (.tup (ys.map V.str)) → Asc ys zs → Q .non (upd H1 x (.ins cb dx (fBook D.f t d)))
section
variable {P : Program} {w : World} {K : PySem.W.Frag} {mg : Str → Option Value} {base : Heap} {c : Cs} {cb CO : Addr}
variable {fM fG fAs fK pE fE fW fA fP fCm fCs fCb fX fL fWb fC fI : Addr} {dM dG dAs dK dE dW dA dP dCm dCs dCb dX dL dWb dC dI : FuncData}
theorem inB_some {ps : List (PySem.Str × PySem.Str)} {e : PyData} (h : inB ps e = true) : ∃ a b, e = .tuple [.str a, .str b] ∧ (a, b) ∈ ps := by
  unfold inB at h
  split at h
  · exact ⟨_, _, rfl, of_decide_eq_true h⟩
  · cases h
theorem bval_mem : ∀ {bs : List PB} {p : PySem.Str × PySem.Str}, p ∈ bs.map (·.1) → bval bs p ≠ none
  | (p0, i0) :: bs, p, m => by
    unfold bval
    rw [List.find?_cons]
    by_cases e : p0 = p
    · rw [show decide (((p0, i0) : PB).1 = p) = true from decide_eq_true e]
      exact Option.some_ne_none _
    · rw [show decide (((p0, i0) : PB).1 = p) = false from decide_eq_false e]
      rcases List.mem_cons.mp m with z | m
      · exact absurd z.symm e
      · exact bval_mem m
theorem scGetB : FnScope ["self", "pair"] ["self", "pair"] (defScope sGetB) := ⟨rfl, rfl, rfl, by decide +kernel, rfl, by decide +kernel, by decide +kernel⟩
/-- the class's __contains__ -/
structure ConT (K : PySem.W.Frag) (cb fC : Addr) (dC : FuncData) : Prop where
  F : Fun K "__contains__" "Book.__contains__" sCon fC dC
  b : Binds K dC ["self", "pair"] []
  i : PySem.W.findIn K (.ref cb) "__contains__" = some (some (.ref fC))
  f : PySem.W.isFn K (.ref fC) = true
theorem ok_getB {f : Addr} {fd : FuncData} (F : Fun K "__getitem__" "Book.__getitem__" sGetB f fd) (N : BkN K mg c) (Y : BkF K mg c fW fA fP fCm fCs fCb fX fL fWb dW dA dP dCm dCs dCb dX dL dWb) (BT : BkT K mg cb) (CT : ConT K cb fC dC) (O : UnkT K mg CO) :
    FnOk P w K mg base (L2.CX P w) 5 f fd ["self", "pair"] (spGetB K c cb CO) := by
  have GC : FnOk P w K mg base CX0 4 fC dC ["self", "pair"] (spCon K c cb) := ok_con CT.F N Y BT
  refine F.okX scGetB (fun vs H Q E h => ?_) (fun cdv A outer s H vs Q E hr h => ?_)
  · obtain ⟨x, dx, r, d, kvs, D, y, e, rfl, _⟩ := h
    rfl
  · obtain ⟨x, dx, r, d, kvs, D, y, e, rfl, hb, hw, hv, kE, q⟩ := h
    have hr4 : Room 4 _ := hr
    have hr1 : Room 1 _ := hr.mono (by omega)
    have hu := hu_of hr
    refine ⟨_, pss_cons (ps_if (pt_cmpR (op_notInO (E := fun _ _ _ => False) CT.i CT.f GC hr4 CT.b pass0) (pv 1) (pv 0) rfl) (pss_one (ps_raise rfl (takes_of rfl rfl rfl rfl) (pmk_one basL O.one O.ty hr1 O.g (pa_cons (pv 1) pa_nil)))) pss_nil)
      (pss_one (ps_ret (pe_dget hu (pe_fld (pv 0) rfl) (pv 1) (fun _ _ => rfl)))), ?_⟩
    refine ⟨_, rfl, _, rfl, x, dx, _, rfl, hb.i, x, dx, r, d, kvs, D, y, e, rfl, hb, hw, hv, fun H1 e1 => ⟨_, rfl, _, rfl, ?_⟩⟩
    cases hi : inB (D.bs.map (·.1)) e with
    | false => exact ⟨_, rfl, _, rfl, fun dd hdd => kE hi H1 dd e1 hdd⟩
    | true =>
      obtain ⟨a, b, rfl, m⟩ := inB_some hi
      obtain ⟨k, rfl, hk⟩ := hv.key
      have hb1 := hb.ext e1
      rcases hb1.b.bval (a, b) with ⟨_, h2⟩ | ⟨v, js, h1, h2, h3⟩
      · exact absurd h2 (bval_mem m)
      · refine ⟨_, rfl, x, cb, dx, _, _, rfl, hb1.i, BT.ty.cl, BT.nB, rfl, _, rfl, d, .ref v, rfl, ?_, q a b js v H1 rfl h2 e1 h3⟩
        rw [← h1]
        exact DGet.t (k := keyP (a, b)) hb1.d (e1 _ _ hk)
/-- how books are made -/
structure MkBk (K : PySem.W.Frag) (mg : PySem.Str → Option Value) (cb fI : Addr) (dI : FuncData) (dvs : List V) (kws : List (PySem.Str × V)) : Prop where
  F : FunD K "__init__" "Book.__init__" (defArgs sBookI) (defBody sBookI) (defScope sBookI) dvs kws fI dI
  m : Mk K cb fI
  b : Binds K dI ["self", "first", "rest", "bodies"] []
variable {dvs : List V} {kws : List (PySem.Str × V)}
theorem scCopied : FnScope ["self"] ["self"] (defScope sCopied) := ⟨rfl, rfl, rfl, by decide +kernel, rfl, by decide +kernel, by decide +kernel⟩
theorem ext_mk {H : Hp} {x dx cb : Addr} (n : H x = none) (m : H dx = none) : Ext H (upd (upd H dx (.own x)) x (.ins cb dx [])) := fun a o e => by
  rw [upd_ne (ne_of_none e n), upd_ne (ne_of_none e m)]
  exact e
theorem ok_copied {f : Addr} {fd : FuncData} (F : Fun K "copied" "Book.copied" sCopied f fd) (N : BkN K mg c) (Y : BkF K mg c fW fA fP fCm fCs fCb fX fL fWb dW dA dP dCm dCs dCb dX dL dWb) (Z : LimF K mg c fM fG fAs fK pE fE dM dG dAs dK dE) (BT : BkT K mg cb) (MB : MkBk K mg cb fI dI dvs kws) :
    FnOk P w K mg base CX0 9 f fd ["self"] (spCopied c cb) := by
  have GI : FnOk P w K mg base CX0 7 fI dI ["self", "first", "rest", "bodies"] (spBookI K c cb) := ok_bookI MB.F N Y Z BT
  refine F.ok scCopied (fun vs H Q E h => ?_) (fun cdv A outer s H vs Q E hr h => ?_)
  · obtain ⟨x, dx, r, d, kvs, D, rfl, _⟩ := h
    rfl
  · obtain ⟨x, dx, r, d, kvs, D, rfl, hb, hw, q⟩ := h
    have hr8 : Room 8 _ := hr
    refine ⟨_, pss_one (ps_ret (pe_make MB.m GI hr8 rfl BT.g MB.b .nil pass0 (pa_cons (pe_fld (pv 0) rfl) (pa_cons (pe_fld (pv 0) rfl) (pa_cons (pe_fld (pv 0) rfl) pa_nil))))), ?_⟩
    refine ⟨_, rfl, x, cb, dx, _, _, rfl, hb.i, BT.ty.cl, BT.nF, rfl, _, rfl, x, cb, dx, _, _, rfl, hb.i, BT.ty.cl, BT.nR, rfl, _, rfl, x, cb, dx, _, _, rfl, hb.i, BT.ty.cl, BT.nB, rfl, fun x2 dx2 n1 n2 ne => ?_⟩
    exact ⟨H, x2, dx2, r, .ref d, D, kvs, rfl, ext_mk n1 n2, n1, upd_same, .inr ⟨d, rfl, hb.d⟩, .inr (SqT.of hb.r), hb.b, hb.n, hw, fun ys dx' r' d' H' e as hk ⟨m1, m2, _, _⟩ => ⟨rfl, q x2 dx' r' d' ys H' e n1 m1 m2 as hk⟩⟩
theorem scSetRest : FnScope ["self", "modes"] ["self", "modes"] (defScope sSetRest) := ⟨rfl, rfl, rfl, by decide +kernel, rfl, by decide +kernel, by decide +kernel⟩
theorem ok_setRest {f : Addr} {fd : FuncData} (F : Fun K "set_rest" "Book.set_rest" sSetRest f fd) (N : BkN K mg c) (Y : BkF K mg c fW fA fP fCm fCs fCb fX fL fWb dW dA dP dCm dCs dCb dX dL dWb) (Z : LimF K mg c fM fG fAs fK pE fE dM dG dAs dK dE) (BT : BkT K mg cb) :
    FnOk P w K mg base CX0 7 f fd ["self", "modes"] (spSetRest K c cb) := by
  have GCs : FnOk P w K mg base CX0 3 fCs dCs ["modes"] (spChkModes K) := ok_chkModes Y.FCs N.T1 N.U N.V3 Y.FW Y.bW Y.gW Y.FA Y.bA Y.gA
  have GL : FnOk P w K mg base CX0 6 fL dL ["first", "rest", "bodies"] (spChkLim K c) := ok_chkLim Y.FL Y.FX Y.bX Y.gX Z N.T1 N.TG N.B N.A' N.LG
  have GA : FnOk P w K mg base CX0 1 fAs dAs ["words"] (spAsc K) := ok_asc Z.FA N.TG
  refine F.ok scSetRest (fun vs H Q E h => ?_) (fun cdv A outer s H vs Q E hr h => ?_)
  · obtain ⟨x, dx, r, d, kvs, D, l, zs, rfl, _⟩ := h
    rfl
  · obtain ⟨x, dx, r, d, kvs, D, l, zs, rfl, hb, hw, hl, q⟩ := h
    have hr6 : Room 6 _ := hr
    have hr3 : Room 3 _ := hr.mono (by omega)
    have hr1 : Room 1 _ := hr.mono (by omega)
    have lz : zs.length ≤ 1000 := by
      have h : (mlist D.f zs D.bs).length ≤ 1000 := hw.l
      unfold mlist at h
      simp only [List.length_append] at h
      omega
    have seqE : ∀ {Hb : Hp}, Ext H Hb → (SqL K Hb l (zs.map V.str) ∨ SqT K Hb l (zs.map V.str)) := fun e => hl.imp (fun h => h.ext e) (fun h => h.ext e)
    refine ⟨_, pss_cons (ps_expr (pe_call GCs hr3 rfl Y.gCs.g Y.gCs.k Y.bCs .nil pass0 (pa_cons (pv 1) pa_nil)))
      (pss_cons (ps_expr (pe_call GL hr6 rfl Y.gL.g Y.gL.k Y.bL .nil pass0 (pa_cons (pe_fld (pv 0) rfl) (pa_cons (pv 1) (pa_cons (pe_fld (pv 0) rfl) pa_nil)))))
      (pss_one (ps_fld (pv 0) (pe_call GA hr1 rfl Z.gA.g Z.gA.k Z.bA .nil pass0 (pa_cons (pv 1) pa_nil)) rfl))), ?_⟩
    refine ⟨_, rfl, l, zs, rfl, hl, hw.rw, lz, fun H1 e1 => ?_⟩
    have hb1 := hb.ext e1
    refine ⟨_, rfl, x, cb, dx, _, _, rfl, hb1.i, BT.ty.cl, BT.nF, rfl, _, rfl, _, rfl, x, cb, dx, _, _, rfl, hb1.i, BT.ty.cl, BT.nB, rfl, D.f, l, d, zs, kvs, D.bs, rfl, ⟨seqE e1, hb1.d, hb1.b, hb1.n, hw.w, hw.l, hw.m, hw.z⟩, hw.o, fun H2 e2 => ?_⟩
    have e02 := e1.trans e2
    have hm : (dd (mlist D.f zs D.bs)).length < 64 := hw.m
    have l2 : (dd zs).length ≤ (dd (mlist D.f zs D.bs)).length := dd_le fun z m => (dd_mem _ z).mpr (by
      unfold mlist
      exact List.mem_append_left _ (List.mem_append_right _ m))
    refine ⟨_, rfl, l, zs, rfl, seqE e02, lz, ⟨dd zs, by omega, fun z m => (dd_mem _ z).mpr m⟩, fun t ys H3 e3 ht h1 h2 h3 h4 => ?_⟩
    have e03 := e02.trans e3
    have hb3 := hb.ext e03
    refine ⟨_, rfl, x, cb, dx, _, rfl, hb3.i, BT.ty.cl, BT.nR, (by show 3 < 1000; decide), ?_⟩
    refine q t ys H3 e03 ?_ h1 ⟨h2, h3, h4⟩
    cases e9 : H t with
    | none => rfl
    | some o => rw [e02 _ _ e9] at ht; cases ht
end
end KP
end

section
set_option Elab.async false
set_option linter.all false
set_option maxRecDepth 100000
set_option maxHeartbeats 4000000
/-! Items over names, with the modes that they change to. -/
namespace KP
open PySem PySem.Spec PyProof.Rows L2 Pn
/-- commands, and these keys and modes -/
def NamesG (W2 W3 : List PySem.Str) (H : Hp) (a : Addr) : Prop := ∃ (l1 l2 l3 : Addr) (w1 : List PySem.Str), H a = some (.tup [.ref l1, .ref l2, .ref l3]) ∧
  (H l1 = some (.lst (w1.map V.str)) ∧ w1.length = 3 ∧ ∀ z ∈ w1, Wd z) ∧ (H l2 = some (.lst (W2.map V.str)) ∧ W2.length = 3 ∧ ∀ z ∈ W2, Wd z) ∧ (H l3 = some (.lst (W3.map V.str)) ∧ W3.length = 3 ∧ ∀ z ∈ W3, Wd z)
theorem NamesG.ext {W2 W3 : List PySem.Str} {H H' : Hp} {a : Addr} (h : NamesG W2 W3 H a) (e : ∀ b xs, H b = some (.tup xs) → H' b = some (.tup xs)) (g : ∀ b xs, H b = some (.lst xs) → H' b = some (.lst xs)) : NamesG W2 W3 H' a := by
  obtain ⟨l1, l2, l3, w1, h0, ⟨a1, b1⟩, ⟨a2, b2⟩, ⟨a3, b3⟩⟩ := h
  exact ⟨l1, l2, l3, w1, e _ _ h0, ⟨g _ _ a1, b1⟩, ⟨g _ _ a2, b2⟩, ⟨g _ _ a3, b3⟩⟩
theorem NamesG.same {W2 W3 : List PySem.Str} {H H' : Hp} {a : Addr} (h : NamesG W2 W3 H a) (e : Same H H') : NamesG W2 W3 H' a := h.ext (fun b xs => e b _) (fun b xs => e b _)
theorem NamesG.but {W2 W3 : List PySem.Str} {H H' : Hp} {a p : Addr} {kvs : List (Key × V)} (h : NamesG W2 W3 H a) (e : But p H H') (hp : H p = some (.dK kvs)) : NamesG W2 W3 H' a :=
  h.ext (fun b xs g => e b _ (ne_of g hp (by intro z; cases z)) g) (fun b xs g => e b _ (ne_of g hp (by intro z; cases z)) g)
theorem NamesAt.g {H : Hp} {a : Addr} (h : NamesAt H a) : ∃ W2 W3, NamesG W2 W3 H a := by
  obtain ⟨l1, l2, l3, w1, w2, w3, h⟩ := h
  exact ⟨w2, w3, l1, l2, l3, w1, h⟩
def spItemG (W2 W3 : List PySem.Str) (D : Nat) : Sp := fun vs H Q _ => ∃ (p c a : Addr) (ns : List Int) (n : Nat), vs = [.ref p, .ref a, .int D] ∧ PenAt H p c ns n ∧ NamesG W2 W3 H a ∧ n + cost D ≤ 1000000000 ∧ ns.length ≤ 63 ∧
  ∀ (v : V) (it : Itm) (H' : Hp), Rp (fun b => H b ≠ none) H' v it → ItOk D it → (∀ z ∈ gosI it, z ∈ W3) → But p H H' → PenAt H' p c ns (n + cost D) → Q v H'
def spItemsG (W2 W3 : List PySem.Str) (D : Nat) : Sp := fun vs H Q _ => ∃ (p c a : Addr) (ns : List Int) (n t : Nat), vs = [.ref p, .ref a, .int D, .int t] ∧ PenAt H p c ns n ∧ NamesG W2 W3 H a ∧ t ≤ 20 ∧ n + 1 + t * cost D ≤ 1000000000 ∧ ns.length ≤ 63 ∧
  ∀ (l : Addr) (vs : List V) (its : List Itm) (H' : Hp), H l = none → H' l = some (.lst vs) → Rps (fun b => b = l ∨ H b ≠ none) H' vs its → ItsOk D its → (∀ z ∈ gosL its, z ∈ W3) → its.length ≤ t → But p H H' → PenAt H' p c ns (n + 1 + t * cost D) → Q (.ref l) H'
def spItemsGP (W2 W3 : List PySem.Str) : Nat → Sp
  | 0 => spNo
  | d + 1 => spItemsG W2 W3 d
section
variable {W2 W3 : List PySem.Str} {P : Program} {w : World} {K : PySem.W.Frag} {mg : Str → Option Value} {base : Heap}
theorem ok_itemG1 (D : Nat) {f fP fD fI : Addr} {fd fdP fdD fdI : FuncData} (F : Fun K "_law_item" "_law_item" sItem f fd) (T : Blt mg) (FD : Fun K "_law_draw" "_law_draw" sDraw fD fdD) (bD : Binds K fdD ["_law_pen_here", "_law_size"] []) (gD : Fn K mg "_law_draw" fD)
    (FP : Fun K "_law_pick" "_law_pick" sPick fP fdP) (bP : Binds K fdP ["_law_pen_here", "_law_items_here"] []) (gP : Fn K mg "_law_pick" fP)
    (GI : FnOk P w K mg base CX0 (2 + 2 * D) fI fdI ["_law_pen_here", "_law_names_here", "_law_deep", "_law_topmost"] (spItemsGP W2 W3 D)) (bI : Binds K fdI ["_law_pen_here", "_law_names_here", "_law_deep", "_law_topmost"] []) (gI : Fn K mg "_law_items" fI) :
    FnOk P w K mg base CX0 (3 + 2 * D) f fd ["_law_pen_here", "_law_names_here", "_law_deep"] (spItemG W2 W3 D) := by
  have GD : FnOk P w K mg base CX0 1 fD fdD ["_law_pen_here", "_law_size"] spDraw := ok_draw FD T
  have GP : FnOk P w K mg base CX0 2 fP fdP ["_law_pen_here", "_law_items_here"] (spPick2 K) := ok_pick FP T FD bD gD
  rw [show 3 + 2 * D = (2 + 2 * D) + 1 by omega]
  refine F.ok scItem (fun vs H Q E h => ?_) (fun cdv A outer s H vs Q E hr h => ?_)
  · obtain ⟨p, c, a, ns, n, rfl, _⟩ := h
    rfl
  · obtain ⟨p, c, a, ns, n, rfl, hP, hN, hn, hl, k⟩ := h
    have hrI : Room (2 + 2 * D) _ := hr
    have hr2 : Room 2 _ := hr.mono (by omega)
    have hr1 : Room 1 _ := hr.mono (by omega)
    refine ⟨_, (pss_cons (ps_set (i := 3) scItem.nd rfl (Or.inl rfl) (pe_call GD hr1 rfl gD.g gD.k bD .nil pass0 (pa_cons (pv 0) (pa_cons (pe_ifExp (pt_cmpR op_gt (pv 2) pe_int (nomark _)) pe_int pe_int) pa_nil))))
      (pss_cons (ps_if (pt_cmpR op_lt (pv 3) pe_int (nomark _)) (pss_one (ps_ret (pe_tup (pa_cons pe_str (pa_cons (pe_call GP hr2 rfl gP.g gP.k bP .nil pass0 (pa_cons (pv 0) (pa_cons (pe_ix ix_tup (pv 1) pe_int (fun _ _ => rfl)) pa_nil))) pa_nil))))) pss_nil)
      (pss_cons (ps_if (pt_cmpR op_lt (pv 3) pe_int (nomark _)) (pss_one (ps_ret (pe_tup (pa_cons pe_str (pa_cons (pe_call GP hr2 rfl gP.g gP.k bP .nil pass0 (pa_cons (pv 0) (pa_cons (pe_ix ix_tup (pv 1) pe_int (fun _ _ => rfl)) pa_nil))) pa_nil))))) pss_nil)
      (pss_cons (ps_if (pt_cmpR op_eq (pv 3) pe_int (nomark _)) (pss_one (ps_ret (pe_tup (pa_cons pe_str (pa_cons (pe_call GP hr2 rfl gP.g gP.k bP .nil pass0 (pa_cons (pv 0) (pa_cons (pe_ix ix_tup (pv 1) pe_int (fun _ _ => rfl)) pa_nil))) pa_nil))))) pss_nil)
      (pss_cons (ps_set (i := 4) scItem.nd rfl (Or.inl rfl) (pe_call GP hr2 rfl gP.g gP.k bP .nil pass0 (pa_cons (pv 0) (pa_cons (pe_lst (pa_cons pe_int (pa_cons pe_int (pa_cons pe_int (pa_cons pe_int (pa_cons pe_int (pa_cons (pe_op op_pow pe_int pe_int) (pa_cons (pe_call GD hr1 rfl gD.g gD.k bD .nil pass0 (pa_cons (pv 0) (pa_cons pe_int pa_nil))) pa_nil)))))))) pa_nil))))
      (pss_one (ps_ret (pe_tup (pa_cons pe_str (pa_cons (pv 4) (pa_cons (pe_call GI hrI rfl gI.g gI.k bI .nil pass0 (pa_cons (pv 0) (pa_cons (pv 1) (pa_cons (pe_op op_sub (pv 2) pe_int) (pa_cons pe_int pa_nil))))) pa_nil))))))))))), ?_⟩
    have cD : 10 ≤ cost D := by cases D <;> unfold cost <;> omega
    have m8 : sizeLine = 16777216 := rfl
    refine ⟨_, rfl, _, rfl, _, 0, rfl, rfl, _, rfl, ?_⟩
    refine ite2 (fun hD => ?a) (fun hD => ?b)
    case' a => refine ⟨p, c, ns, n, 8, rfl, hP, by omega, hl, by decide, by decide, fun lot H1 la lb hB1 hP1 => ?_⟩
    case' b => refine ⟨p, c, ns, n, 6, rfl, hP, by omega, hl, by decide, by decide, fun lot H1 la lb hB1 hP1 => ?_⟩
    all_goals
      obtain ⟨kvs, hp⟩ := hP.at
      obtain ⟨l1, l2, l3, w1, h0, ⟨a1, b1, c1⟩, ⟨a2, b2, c2⟩, ⟨a3, b3, c3⟩⟩ := hN.but hB1 hp
      have hN1 := hN.but hB1 hp
      refine ⟨_, rfl, _, 3, rfl, rfl, _, rfl, ?_⟩
      refine ite2 (fun _ => ?_) (fun h3 => ⟨_, rfl, _, 5, rfl, rfl, _, rfl, ite2 (fun _ => ?_) (fun h5 => ?_)⟩)
      · refine ⟨_, rfl, _, rfl, a, _, 0, _, rfl, rfl, SqT.of h0, atI_nat rfl, p, c, _, ns, _, _, rfl, hP1, by omega, hl, .inl ⟨l1, rfl, SqL.of a1⟩, by rw [List.length_map, b1]; decide, by rw [List.length_map, b1]; decide, fun x H2 hm hB2 hP2 => ?_⟩
        obtain ⟨z, hz, rfl⟩ := List.mem_map.mp hm
        refine ⟨(by show 2 ≤ sizeLine; decide), fun t ht => ?_⟩
        obtain ⟨kvs2, hp2⟩ := hP2.at
        have B2 := hB1.trans hB2
        have ht0 := B2.fresh hp2 ht
        exact k _ (.say z) _ (.say (fun q => q ht0) upd_same) (.say (c1 z hz)) (fun y hy => by rw [gosI] at hy; cases hy) (B2.new ht) ((hP2.same (same_new ht)).mono (by omega))
      · refine ⟨_, rfl, _, rfl, a, _, 1, _, rfl, rfl, SqT.of h0, atI_nat rfl, p, c, _, ns, _, _, rfl, hP1, by omega, hl, .inl ⟨l2, rfl, SqL.of a2⟩, by rw [List.length_map, b2]; decide, by rw [List.length_map, b2]; decide, fun x H2 hm hB2 hP2 => ?_⟩
        obtain ⟨z, hz, rfl⟩ := List.mem_map.mp hm
        refine ⟨(by show 2 ≤ sizeLine; decide), fun t ht => ?_⟩
        obtain ⟨kvs2, hp2⟩ := hP2.at
        have B2 := hB1.trans hB2
        have ht0 := B2.fresh hp2 ht
        exact k _ (.press z) _ (.press (fun q => q ht0) upd_same) (.press (c2 z hz)) (fun y hy => by rw [gosI] at hy; cases hy) (B2.new ht) ((hP2.same (same_new ht)).mono (by omega))
      refine ⟨_, rfl, rfl, _, rfl, ite2 (fun _ => ?_) (fun h6 => ?_)⟩
      · refine ⟨_, rfl, _, rfl, a, _, 2, _, rfl, rfl, SqT.of h0, atI_nat rfl, p, c, _, ns, _, _, rfl, hP1, by omega, hl, .inl ⟨l3, rfl, SqL.of a3⟩, by rw [List.length_map, b3]; decide, by rw [List.length_map, b3]; decide, fun x H2 hm hB2 hP2 => ?_⟩
        obtain ⟨z, hz, rfl⟩ := List.mem_map.mp hm
        refine ⟨(by show 2 ≤ sizeLine; decide), fun t ht => ?_⟩
        obtain ⟨kvs2, hp2⟩ := hP2.at
        have B2 := hB1.trans hB2
        have ht0 := B2.fresh hp2 ht
        exact k _ (.go z) _ (.go (fun q => q ht0) upd_same) (.go (c3 z hz)) (fun y hy => by rw [gosI] at hy; rw [List.mem_singleton.mp hy]; exact hz) (B2.new ht) ((hP2.same (same_new ht)).mono (by omega))
      have big : 5 < lot := by
        have x3 : ¬ lot < 3 := fun z => h3 (decide_eq_true z)
        have x5 : ¬ lot < 5 := fun z => h5 (decide_eq_true z)
        have x6 : ¬ lot = 5 := fun z => h6 (decide_eq_true (by rw [z]))
        omega
      cases D with
      | zero =>
        first
        | exact absurd hD (by decide)
        | (exfalso; omega)
      | succ d =>
        have cd : cost (d + 1) = 10 + 3 * cost d := rfl
        refine ⟨_, rfl, 10, 9, rfl, rfl, ⟨by decide, by decide, by decide⟩, _, rfl, p, c, ns, _, 1000, rfl, hP1, by omega, hl, by decide, by decide, fun q H2 q0 q1 hB2 hP2 => ?_⟩
        refine ⟨(by show 7 ≤ sizeLine; decide), fun l4 hl4 => ?_⟩
        refine ⟨p, c, _, ns, _, _, rfl, hP2.same (same_new hl4), by omega, hl, .inl ⟨_, rfl, SqL.of upd_same⟩, (by show 0 < 7; decide), (by show 7 < 1073741824; decide), fun x H4 hm hB4 hP4 => ?_⟩
        have v4 : ∃ j : Int, x = .int j ∧ 0 ≤ j ∧ j ≤ 1000000000 := by
          simp only [List.mem_cons, List.not_mem_nil, or_false] at hm
          rcases hm with rfl | rfl | rfl | rfl | rfl | rfl | rfl
          iterate 6 exact ⟨_, rfl, by decide, by decide⟩
          exact ⟨_, rfl, q0, by omega⟩
        obtain ⟨j, rfl, j0, j1⟩ := v4
        have B4 := ((hB1.trans hB2).new hl4).trans hB4
        refine ⟨_, rfl, _, rfl, _, rfl, _, rfl, _, 1, rfl, rfl, ?_⟩
        refine ⟨p, c, a, ns, _, 3, by show [V.ref p, V.ref a, V.int (((d + 1 : Nat) : Int) - 1), V.int 3] = _; rw [show ((d + 1 : Nat) : Int) - 1 = (d : Int) by omega]; rfl, hP4, hN.but B4 hp, by decide, by omega, hl, fun l vs its H5 hl0 hL hR hO hG hlen hB5 hP5 => ?_⟩
        obtain ⟨kvs4, hp4⟩ := hP4.at
        obtain ⟨kvs5, hp5⟩ := hP5.at
        refine ⟨(by show 3 ≤ sizeLine; decide), fun t ht => ?_⟩
        have B5 := B4.trans hB5
        have ht0 := B5.fresh hp5 ht
        have hl00 := B4.fresh hp4 hl0
        have S5 : Same H5 (upd H5 t (.tup [.str "times", .int j, .ref l])) := same_new ht
        refine k _ (.times j its) _ (.times (fun q => q ht0) (fun q => q hl00) upd_same (S5 _ _ hL) ?_) (.times j0 j1 hlen hO) (fun y hy => hG y (by rw [gosI] at hy; exact hy)) (B5.new ht) ((hP5.same S5).mono (by omega))
        refine Rps.mono ?_ (fun b o _ h => S5 _ _ h) its vs hR
        exact fun b hb => .inr (fun z => hb (B4.fresh hp4 z))
theorem ok_itemsG1 (D : Nat) {f fD fE : Addr} {fd fdD fdE : FuncData} (F : Fun K "_law_items" "_law_items" sItems f fd) (T : Blt mg) (FD : Fun K "_law_draw" "_law_draw" sDraw fD fdD) (bD : Binds K fdD ["_law_pen_here", "_law_size"] []) (gD : Fn K mg "_law_draw" fD)
    (GE : FnOk P w K mg base CX0 (3 + 2 * D) fE fdE ["_law_pen_here", "_law_names_here", "_law_deep"] (spItemG W2 W3 D)) (bE : Binds K fdE ["_law_pen_here", "_law_names_here", "_law_deep"] []) (gE : Fn K mg "_law_item" fE) :
    FnOk P w K mg base CX0 (4 + 2 * D) f fd ["_law_pen_here", "_law_names_here", "_law_deep", "_law_topmost"] (spItemsG W2 W3 D) := by
  have GD : FnOk P w K mg base CX0 1 fD fdD ["_law_pen_here", "_law_size"] spDraw := ok_draw FD T
  rw [show 4 + 2 * D = (3 + 2 * D) + 1 by omega]
  refine F.ok scItems (fun vs H Q E h => ?_) (fun cdv A outer s H vs Q E hr h => ?_)
  · obtain ⟨p, c, a, ns, n, t, rfl, _⟩ := h
    rfl
  · obtain ⟨p, c, a, ns, n, t, rfl, hP, hN, ht, hn, hl, k⟩ := h
    have hrE : Room (3 + 2 * D) _ := hr
    have hr1 : Room 1 _ := hr.mono (by omega)
    refine ⟨_, (pss_one (ps_ret (pe_lc (own := [("_law_k", 4)]) (g := gName 4) (tt := tYes) rfl scItems.nd (pi_range1 (by rfl) T.range (pa_cons (pe_call GD hr1 rfl gD.g gD.k bD .nil pass0 (pa_cons (pv 0) (pa_cons (pe_op op_add (pv 3) pe_int) pa_nil))) pa_nil)) (blkOk_by (N := ["_law_pen_here", "_law_names_here", "_law_deep", "_law_topmost", "_law_k"]) (sc := defScope sItems) (by decide +kernel)) (fun _ _ _ _ _ => pg_name (i := 4) scItems.nd rfl (Or.inl rfl)) (fun _ _ _ _ _ => pts_nil) (fun _ _ _ _ _ => (pe_call GE hrE rfl gE.g gE.k bE .nil pass0 (pa_cons (pv 0) (pa_cons (pv 1) (pa_cons (pv 2) pa_nil)))))))), ?_⟩
    obtain ⟨kvs, hp⟩ := hP.at
    refine ⟨_, rfl, _, rfl, _, 1, rfl, rfl, p, c, ns, n, (t : Int) + 1, rfl, hP, by omega, hl, by omega, by omega, fun d0 H1 da db hB1 hP1 => ?_⟩
    obtain ⟨kvs1, hp1⟩ := hP1.at
    refine ⟨d0, rfl, by omega, by omega, fun L hL => ?_⟩
    have hL0 : H L = none := hB1.fresh hp1 hL
    have Lp : L ≠ p := (hP1.old hL).1
    have step : ∀ i, i < d0.toNat → n + 1 + i * cost D + cost D ≤ n + 1 + t * cost D := fun i hi => by
      have : (i + 1) * cost D ≤ t * cost D := Nat.mul_le_mul_right _ (by omega)
      rw [Nat.succ_mul] at this
      omega
    refine lc_range (Pv := fun i Hk => But p H Hk ∧ PenAt Hk p c ns (n + 1 + i * cost D) ∧ ∃ (vs : List V) (its : List Itm), Hk L = some (.lst vs) ∧ Rps (fun b => b = L ∨ H b ≠ none) Hk vs its ∧ ItsOk D its ∧ (∀ z ∈ gosL its, z ∈ W3) ∧ its.length = i) ?h0 ?hs ?hd
    case h0 => exact ⟨hB1.new hL, (hP1.same (same_new hL)).mono (by omega), [], [], upd_same, .nil, .nil, (fun y hy => by rw [gosL] at hy; cases hy), rfl⟩
    case hs =>
      rintro i Hk hi ⟨hB, hP', vs, its, hLk, hR, hO, hG, hlen⟩
      obtain ⟨kvsk, hpk⟩ := hP'.at
      have hs1 := step i hi
      refine ⟨rfl, _, rfl, _, rfl, _, rfl, p, c, a, ns, _, rfl, hP', hN.but hB hp, by omega, hl, fun v it H' hR' hO' hG' hB' hP'' => ?_⟩
      have hL' := hB' _ _ Lp hLk
      refine ⟨vs, hL', by rw [hR.len, hlen]; show i < 16777216; omega, ?_⟩
      refine ⟨fun b o nb h => by rw [upd_ne (ne_of_none h hL0)]; exact hB' _ _ nb (hB _ _ nb h), ?_, vs ++ [v], its ++ [it], upd_same, ?_, hO.app (.cons hO' .nil), (fun y hy => by rw [gosL_app] at hy; rcases List.mem_append.mp hy with hy | hy; exact hG y hy; exact hG' y (by rw [gosL, gosL, List.append_nil] at hy; exact hy)), by rw [List.length_append, hlen]; rfl⟩
      · rw [show n + 1 + (i + 1) * cost D = n + 1 + i * cost D + cost D by rw [Nat.succ_mul]; omega]
        exact hP''.upd Lp (hP1.old hL).2
      · refine Rps.app (Rps.mono (fun b h => h) (fun b o nb h => ?_) its vs hR) (.cons (Rp.mono (fun b h => ?_) (fun b o nb h => ?_) it v hR') .nil)
        · have bL : b ≠ L := fun z => nb (.inl z)
          have bp : b ≠ p := fun z => nb (.inr (by rw [z, hp]; exact Option.some_ne_none _))
          rw [upd_ne bL]
          exact hB' _ _ bp h
        · rcases h with rfl | h
          · rw [hLk]; exact Option.some_ne_none _
          · exact fun z => h (hB.fresh hpk z)
        · have bL : b ≠ L := fun z => nb (by rw [z, hLk]; exact Option.some_ne_none _)
          rw [upd_ne bL]
          exact h
    case hd =>
      rintro Hk ⟨hB, hP', vs, its, hLk, hR, hO, hG, hlen⟩
      refine k L vs its Hk hL0 hLk hR hO hG (by omega) hB (hP'.mono ?_)
      have : d0.toNat * cost D ≤ t * cost D := Nat.mul_le_mul_right _ (by omega)
      omega
theorem ok_bothG {f fP fD fI : Addr} {fd fdP fdD fdI : FuncData} (F : Fun K "_law_item" "_law_item" sItem f fd) (T : Blt mg) (FD : Fun K "_law_draw" "_law_draw" sDraw fD fdD) (bD : Binds K fdD ["_law_pen_here", "_law_size"] []) (gD : Fn K mg "_law_draw" fD)
    (FP : Fun K "_law_pick" "_law_pick" sPick fP fdP) (bP : Binds K fdP ["_law_pen_here", "_law_items_here"] []) (gP : Fn K mg "_law_pick" fP)
    (FI : Fun K "_law_items" "_law_items" sItems fI fdI) (bI : Binds K fdI ["_law_pen_here", "_law_names_here", "_law_deep", "_law_topmost"] []) (gI : Fn K mg "_law_items" fI) (bE : Binds K fd ["_law_pen_here", "_law_names_here", "_law_deep"] []) (gE : Fn K mg "_law_item" f) :
    ∀ D : Nat, FnOk P w K mg base CX0 (3 + 2 * D) f fd ["_law_pen_here", "_law_names_here", "_law_deep"] (spItemG W2 W3 D) ∧ FnOk P w K mg base CX0 (4 + 2 * D) fI fdI ["_law_pen_here", "_law_names_here", "_law_deep", "_law_topmost"] (spItemsG W2 W3 D)
  | 0 => by
    have a := ok_itemG1 (W2 := W2) (W3 := W3) (P := P) (w := w) (base := base) 0 F T FD bD gD FP bP gP (GI := ok_no (fd := fdI)) bI gI
    exact ⟨a, ok_itemsG1 0 FI T FD bD gD a bE gE⟩
  | D + 1 => by
    have ih := ok_bothG F T FD bD gD FP bP gP FI bI gI bE gE D
    have a := ok_itemG1 (W2 := W2) (W3 := W3) (P := P) (w := w) (base := base) (D + 1) F T FD bD gD FP bP gP (GI := by rw [show 2 + 2 * (D + 1) = 4 + 2 * D by omega]; exact ih.2) bI gI
    exact ⟨a, ok_itemsG1 (D + 1) FI T FD bD gD a bE gE⟩
end
end KP
end

section
set_option Elab.async false
set_option linter.all false
set_option maxRecDepth 100000
set_option maxHeartbeats 4000000
/-! Things in a drawn order. -/
namespace KP
open PySem PySem.Spec PyProof.Rows L2 Pn
abbrev sShuffled : Stmt := top 81
/-- flat enough data -/
def layD (d : PyData) : Bool := PyData.canLay0 d && decide (d.depth ≤ 10)
theorem layD_all : ∀ {ds : List PyData}, (∀ d ∈ ds, layD d = true) → PyData.canLayAll0 ds = true ∧ PyData.depthAll ds ≤ 10
  | [], _ => ⟨by simp [PyData.canLayAll0], by simp [PyData.depthAll]⟩
  | d :: ds, h => by
    have h1 := h d List.mem_cons_self
    unfold layD at h1
    rw [Bool.and_eq_true, decide_eq_true_iff] at h1
    have ih := layD_all (ds := ds) fun x m => h x (List.mem_cons_of_mem _ m)
    refine ⟨by simp [PyData.canLayAll0, h1.1, ih.1], ?_⟩
    simp only [PyData.depthAll]
    omega
theorem layD_list {ds : List PyData} (h : ∀ d ∈ ds, layD d = true) : SeqAt.shaped (.list ds) = true := by
  have a := layD_all h
  unfold SeqAt.shaped
  rw [Bool.and_eq_true]
  refine ⟨by show PyData.canLay0 (.list ds) = true; simp [PyData.canLay0, a.1], decide_eq_true ?_⟩
  have := a.2
  simp only [PyData.depth]
  omega
theorem list_nilD (ds : List PyData) : (!PyData.eqv (.list ds) (.list [])) = !ds.isEmpty := by cases ds <;> rfl
theorem dpAll_del {K : PySem.W.Frag} {H : Hp} : ∀ {xs : List V} {ds : List PyData} (k : Nat), DpAll K H xs ds → DpAll K H (xs.eraseIdx k) (ds.eraseIdx k)
  | _, _, k, .nil => by simp; exact .nil
  | _, _, 0, .cons h r => r
  | _, _, k + 1, .cons h r => .cons h (dpAll_del k r)
section
variable {P : Program} {w : World} {K : PySem.W.Frag} {mg : Str → Option Value} {base : Heap}
def spShuffled (K : PySem.W.Frag) : Sp := fun vs H Q _ => ∃ (p c l : Addr) (ns : List Int) (n : Nat) (xs : List V) (ds : List PyData), vs = [.ref p, .ref l] ∧ PenAt H p c ns n ∧ H l = some (.lst xs) ∧ DpAll K H xs ds ∧ (∀ d ∈ ds, layD d = true) ∧ xs.length ≤ 20 ∧ n + 20 ≤ 1000000000 ∧ ns.length ≤ 63 ∧
  ∀ (r : Addr) (ys : List V) (H' : Hp), H r = none → H' r = some (.lst ys) → xs.Perm ys → But p H H' → PenAt H' p c ns (n + 20) → Q (.ref r) H'
theorem scShuffled : FnScope ["_law_pen_here", "_law_items_here", "_law_left", "_law_found"] ["_law_pen_here", "_law_items_here"] (defScope sShuffled) := ⟨rfl, rfl, rfl, by decide +kernel, rfl, by decide +kernel, by decide +kernel⟩
theorem ok_shuffled {f fD : Addr} {fd fdD : FuncData} (F : Fun K "_law_shuffled" "_law_shuffled" sShuffled f fd) (T : Blt mg) (FD : Fun K "_law_draw" "_law_draw" sDraw fD fdD) (bD : Binds K fdD ["_law_pen_here", "_law_size"] []) (gD : Fn K mg "_law_draw" fD) : FnOk P w K mg base CX0 2 f fd ["_law_pen_here", "_law_items_here"] (spShuffled K) := by
  have GD : FnOk P w K mg base CX0 1 fD fdD ["_law_pen_here", "_law_size"] spDraw := ok_draw FD T
  refine F.ok scShuffled (fun vs H Q E h => ?_) (fun cdv A outer s H vs Q E hr h => ?_)
  · obtain ⟨p, c, l, ns, n, xs, ds, rfl, _⟩ := h
    rfl
  · obtain ⟨p, c, l, ns, n, xs, ds, rfl, hP, hL, hR, hO, hi, hn, hl, k⟩ := h
    have hr1 : Room 1 _ := hr
    refine ⟨_, (pss_cons (ps_par (i := 2) (j := 3) (by rfl) scShuffled.nd rfl rfl (by decide) rfl rfl (pa_cons (pe_callTy call_list_of (by rfl) T.list (by decide +kernel) (pa_cons (pv 1) pa_nil)) (pa_cons (pe_lst pa_nil) pa_nil)) (by rfl))
      (pss_cons (ps_while PassesOwn.never (pt_cmpR (op_neD hr.units) (pv 2) (pe_lst pa_nil) (nomark _)) (pss_one (ps_expr (pe_bm PySem.F.plainAttrs_list PySem.F.slot_list_append PySem.F.type_list_append mt_append (pv 3) (pa_cons (pe_bm PySem.F.plainAttrs_list PySem.F.slot_list_pop PySem.F.type_list_pop mt_popAt (pv 2) (pa_cons (pe_call GD hr1 rfl gD.g gD.k bD .nil pass0 (pa_cons (pv 0) (pa_cons (pe_callB call_len_seq (by rfl) T.len PySem.boot_len (pa_cons (pv 2) pa_nil)) pa_nil))) pa_nil)) pa_nil)))))
      (pss_one (ps_ret (pv 3))))), ?_⟩
    refine ⟨_, rfl, l, _, rfl, .inl (SqL.of hL), fun a ha => ⟨Nat.zero_le _, fun b hb => ⟨_, _, rfl, ?_⟩⟩⟩
    obtain ⟨kvs, hp⟩ := hP.at
    have Sa : Same H (upd H a (.lst xs)) := same_new ha
    have Sb : Same (upd H a (.lst xs)) (upd (upd H a (.lst xs)) b (.lst [])) := same_new hb
    have ha1 := Sb _ _ (show upd H a (.lst xs) a = some (.lst xs) from upd_same)
    have hb1 : upd (upd H a (.lst xs)) b (.lst []) b = some (.lst []) := upd_same
    have hb0 : H b = none := by
      cases e : H b with
      | none => rfl
      | some o => rw [Sa _ _ e] at hb; cases hb
    have S0 := Sa.trans Sb
    have ab : a ≠ b := fun z => by rw [← z, upd_same] at hb; cases hb
    generalize upd (upd H a (.lst xs)) b (.lst []) = H0 at ha1 hb1 S0 ⊢
    have ap := (hP.old ha).1
    have ac := (hP.old ha).2
    have bp := (hP.old hb0).1
    have bc := (hP.old hb0).2
    refine while_by (fun σ Hk => σ = [some (.ref p), some (.ref l), some (.ref a), some (.ref b)] ∧ But p H Hk ∧ ∃ (left found : List V) (js : List PyData) (m : Nat), Hk a = some (.lst left) ∧ Hk b = some (.lst found) ∧ xs.Perm (found ++ left) ∧ DpAll K H left js ∧ (∀ d ∈ js, layD d = true) ∧ PenAt Hk p c ns (n + m) ∧ m + left.length ≤ xs.length)
      (fun σ Hk => match Hk a with | some (.lst q) => q.length | _ => 0) ⟨rfl, Same.but p S0, xs, [], ds, 0, ha1, hb1, .refl _, hR, hO, hP.same S0, by omega⟩ ?_ ?_
    · rintro σ Hk ⟨rfl, hB, left, found, js, m, hLa, hLb, hpm, hRj, hOj, hPk, hlen⟩
      have hx := dpAll_len hR
      have hf : (found ++ left).length = xs.length := hpm.length_eq.symm
      rw [List.length_append] at hf
      refine ⟨_, rfl, Nat.zero_le _, fun q hq => ?_⟩
      have Sq : Same Hk (upd Hk q (.lst [])) := same_new hq
      have hRk : DpAll K (upd Hk q (.lst [])) left js := dp_mapAll (fun _ _ z => Sq.seq (hB.lst hp z)) (fun _ _ z => SqT.same Sq (hB.tup hp z)) js left hRj
      refine ⟨_, _, .lst (SqL.of (Sq _ _ hLa)) hRk, .lst (SqL.of upd_same) .nil, layD_list hOj, rfl, _, rfl, ?_⟩
      rw [list_nilD]
      have jl := dpAll_len hRj
      have hP2 := hPk.same Sq
      have hLa2 := Sq _ _ hLa
      have hLb2 := Sq _ _ hLb
      have hB2 := hB.trans (Same.but p Sq)
      generalize upd Hk q (.lst []) = H2 at hP2 hLa2 hLb2 hB2 ⊢
      refine ite2 (fun y => ?_) (fun y => ?_)
      · have pos : 0 < left.length := by
          rw [jl]
          cases js with
          | nil => cases y
          | cons => simp
        refine ⟨_, rfl, .inl ⟨rfl, _, SqL.of hLb2⟩, _, rfl, .inl ⟨rfl, _, SqL.of hLa2⟩, _, rfl, _, rfl, _, _, rfl, .inl (SqL.of hLa2), p, c, ns, _, _, rfl, hP2, by omega, hl, by omega, by omega, fun d H3 d0 d1 hB3 hP3 => ?_⟩
        obtain ⟨k1, rfl⟩ := Int.eq_ofNat_of_zero_le d0
        have kl : k1 < left.length := by omega
        have hLa3 := hB3 _ _ ap hLa2
        have hLb3 := hB3 _ _ bp hLb2
        have sx : seqIndex? (k1 : Int) left.length = some k1 := by
          have e1 : (if (k1 : Int) < 0 then (k1 : Int) + (left.length : Int) else (k1 : Int)) = (k1 : Int) := if_neg (by omega)
          have e2 : decide ((0 : Int) ≤ (k1 : Int)) = true := decide_eq_true (by omega)
          have e3 : decide ((k1 : Int) < (left.length : Int)) = true := decide_eq_true (by omega)
          simp only [seqIndex?, e1, e2, e3]
          rfl
        have hy : left[k1]? = some left[k1] := List.getElem?_eq_getElem kl
        refine ⟨a, left, _, k1, left[k1], rfl, rfl, hLa3, by omega, by omega, sx, hy, ?_⟩
        have hLb4 : upd H3 a (.lst (left.eraseIdx k1)) b = some (.lst found) := by rw [upd_ne ab.symm]; exact hLb3
        refine ⟨b, found, _, rfl, rfl, hLb4, (by show found.length < 16777216; omega), ⟨rfl, fun t o nt h => ?_, left.eraseIdx k1, found ++ [left[k1]], js.eraseIdx k1, m + 1, ?_, upd_same, ?_, dpAll_del k1 hRj, (fun d m => hOj d (List.mem_of_mem_eraseIdx m)), ?_, ?_⟩, ?_⟩
        · rw [upd_ne (ne_of_none h hb0), upd_ne (ne_of_none h ha)]
          exact hB3 _ _ nt (hB2 _ _ nt h)
        · rw [upd_ne ab, upd_same]
        · refine hpm.trans ?_
          rw [List.append_assoc]
          exact (del_perm left k1 _ hy).append_left found
        · exact (hP3.upd ap ac).upd bp bc
        · rw [List.length_eraseIdx_of_lt kl]; omega
        · rw [upd_ne ab, upd_same, hLa]
          show (left.eraseIdx k1).length < left.length
          rw [List.length_eraseIdx_of_lt kl]; omega
      · have e : left = [] := by
          cases left with
          | nil => rfl
          | cons v vs =>
            cases js with
            | nil => cases hRj
            | cons => exact absurd rfl y
        subst e
        rw [List.append_nil] at hpm
        exact ⟨_, rfl, k b found H2 hb0 hLb2 hpm hB2 (hP2.mono (by omega))⟩
    · rintro σ Hk Q1 Q2 hm ⟨v, hv, hz, g⟩
      refine ⟨v, hv, hz, fun q hq => ?_⟩
      obtain ⟨d, e, x1, x2, x3, x4, kk, rfl', r⟩ := g q hq
      exact ⟨d, e, x1, x2, x3, x4, kk, rfl', hm _ _ r⟩
end
end KP
end

section
set_option Elab.async false
set_option linter.all false
set_option maxRecDepth 100000
set_option maxHeartbeats 4000000
/-! bodies of plain items; the modes of plain items -/
namespace KP
open PySem PySem.Spec PyProof.Rows L2 Pn StX
abbrev sMadeB : Stmt := top 90
abbrev sGone : Stmt := top 92
def spMadeB (c : Cs) : Sp := fun vs H Q _ => ∃ (l : Addr) (us : List V) (its : List Itm) (Bp : Addr → Prop), vs = [.ref l] ∧ H l = some (.lst us) ∧ Rps Bp H us its ∧ ItsOk 2 its ∧ its.length ≤ 6 ∧ ∀ b H', Ext H H' → H b = none → Bo c H' b its → Q (.ref b) H'
def spGone (D : Nat) : Sp := fun vs H Q _ => ∃ (l : Addr) (us : List V) (its : List Itm) (Bp : Addr → Prop), vs = [.ref l] ∧ H l = some (.lst us) ∧ Rps Bp H us its ∧ ItsOk D its ∧ its.length ≤ 6 ∧
  ∀ (F : Addr) (gs : List PySem.Str) (H' : Hp), Ext H H' → H F = none → H' F = some (.lst (gs.map V.str)) → (∀ x, x ∈ gs ↔ x ∈ gosL its) → gs.length = (gosL its).length → Q (.ref F) H'
def spGoneP : Nat → Sp
  | 0 => spNo
  | d + 1 => spGone d
/-- the modes of the items themselves, and of those within -/
def goT : Itm → List PySem.Str
  | .go z => [z]
  | _ => []
def goD : Itm → List PySem.Str
  | .times _ its => gosL its
  | _ => []
theorem gosI_two (i : Itm) : gosI i = goT i ++ goD i := by cases i <;> rw [gosI] <;> rfl
theorem gos_split : ∀ (is : List Itm), (∀ x, x ∈ gosL is ↔ x ∈ is.flatMap goT ∨ x ∈ is.flatMap goD) ∧ (gosL is).length = (is.flatMap goT).length + (is.flatMap goD).length
  | [] => by rw [gosL]; simp
  | i :: is => by
    obtain ⟨h1, h2⟩ := gos_split is
    rw [gosL, gosI_two]
    refine ⟨fun x => ?_, ?_⟩
    · simp only [List.mem_append, List.flatMap_cons, h1]
      constructor
      · rintro ((h | h) | (h | h))
        · exact .inl (.inl h)
        · exact .inr (.inl h)
        · exact .inl (.inr h)
        · exact .inr (.inr h)
      · rintro ((h | h) | (h | h))
        · exact .inl (.inl h)
        · exact .inr (.inl h)
        · exact .inl (.inr h)
        · exact .inr (.inr h)
    · simp only [List.length_append, List.flatMap_cons, h2]
      omega
theorem map_some_inj : ∀ {a b : List Itm}, a.map some = b.map some → a = b
  | [], [], _ => rfl
  | [], y :: b, h => by cases h
  | x :: a, [], h => by cases h
  | x :: a, y :: b, h => by
    rw [List.map_cons, List.map_cons] at h
    injection h with h1 h2
    injection h1 with h1
    rw [h1, map_some_inj h2]
theorem flat_take {α β : Type} (f : α → List β) {l : List α} {i : Nat} {x : α} (e : l[i]? = some x) : (l.take (i + 1)).flatMap f = (l.take i).flatMap f ++ f x := by
  rw [List.take_add_one, e, List.flatMap_append]
  simp
section
variable {P : Program} {w : World} {K : PySem.W.Frag} {mg : Str → Option Value} {base : Heap} {c : Cs} {C : Nat → Addr}
theorem scMadeB : FnScope ["_law_items_here", "_law_one"] ["_law_items_here"] (defScope sMadeB) := ⟨rfl, rfl, rfl, by decide +kernel, rfl, by decide +kernel, by decide +kernel⟩
theorem ok_madeB {f fMd gB pB : Addr} {fd fdMd fdGB : FuncData} {mcB : Value} (F : Fun K "_law_made_body" "_law_made_body" sMadeB f fd) (B : BodT K mg c) (GM : FnOk P w K mg base CX0 12 fMd fdMd ["_law_one"] (spMade c 2)) (bM : Binds K fdMd ["_law_one"] []) (gM : Fn K mg "_law_made" fMd)
    (GO : FnR P w K mg base (L2.CX P w) 7 gB (spBodyOf K c C)) (CB : ClsT K c.body mcB pB gB fdGB ["cls", "items"]) : FnOk P w K mg base CX0 13 f fd ["_law_items_here"] (spMadeB c) := by
  refine F.ok scMadeB (fun vs H Q E h => ?_) (fun cdv A outer s H vs Q E hr h => ?_)
  · obtain ⟨l, us, its, Bp, rfl, _⟩ := h
    rfl
  · obtain ⟨l, vs2, its, Bp, rfl, hL2, hR, hO, l6, k⟩ := h
    have hr12 : Room 12 _ := hr
    have hr7 : Room 7 _ := hr.mono (by omega)
    have hw : ItsW 2 its := hO.w
    have hx := hR.len
    have hc6 : chk (its.map some) 2 = none := chk_ok l6 (by have := hw.dIs; omega)
    refine ⟨_, pss_one (ps_ret (ClX.pe_cmeth (pe_glob (v := .ref c.body) rfl B.gBody rfl) CB.rd CB.mt GO hr7 passF (pa_cons (pe_lc (own := [("_law_one", 1)]) (g := gName 1) (tt := tYes) rfl scMadeB.nd (pi_list (pv 0)) (blkOk_by (N := ["_law_items_here", "_law_one"]) (sc := defScope sMadeB) (by decide +kernel)) (fun _ _ _ _ _ => pg_name (i := 1) scMadeB.nd rfl (Or.inl rfl)) (fun _ _ _ _ _ => pts_nil) (fun _ _ _ _ _ => (pe_call GM hr12 rfl gM.g gM.k bM .nil pass0 (pa_cons (pv 1) pa_nil)))) pa_nil))), ?_⟩
    refine ⟨rfl, _, rfl, l, rfl, ⟨_, SqL.of hL2⟩, fun g hg => ?_⟩
    refine lc_list (xs := vs2) (fun i Hk => Same H Hk ∧ ∃ us, Hk g = some (.lst us) ∧ us.length = i ∧ Ios c Hk us (its.take i)) ⟨same_new hg, [], upd_same, rfl, by rw [List.take_zero]; exact .nil⟩ (fun i Hk _ h => SqL.of (h.1 _ _ hL2)) ?_ ?_
    · rintro i2 y Hk2 hxi ⟨hSk, us, hLk, hle, hU⟩
      have hRk := hR.same hSk
      obtain ⟨it2, hit, hr0⟩ := hRk.get hxi
      have hok := hO.get hit
      have tk : its.take (i2 + 1) = its.take i2 ++ [it2] := by
        rw [List.take_add_one, hit]; rfl
      have il : i2 < vs2.length := (List.getElem?_eq_some_iff.mp hxi).1
      refine ⟨rfl, _, rfl, y, it2, _, rfl, hr0, hok, fun u H' S' hio => ?_⟩
      refine ⟨us, S' _ _ hLk, by rw [hle]; show i2 < 16777216; omega, fun b o e => ?_, us ++ [u], upd_same, by rw [List.length_append, hle]; rfl, ?_⟩
      · rw [upd_ne (ne_of_none e hg)]
        exact S' _ _ (hSk _ _ e)
      · rw [tk]
        have kp : Kept H' (upd H' g (.lst (us ++ [u]))) := ⟨fun a C2 dx2 fs2 _ e => by rw [upd_ne (ne_of e (S' _ _ hLk) (by intro z; cases z))]; exact e, fun a ys e => by rw [upd_ne (ne_of e (S' _ _ hLk) (by intro z; cases z))]; exact e⟩
        exact ((hU.keep (.same S')).keep kp).app (.cons (hio.keep kp) .nil)
    rintro H11 ⟨S11, us, hg11, hle, hU⟩
    have tl : its.take vs2.length = its := List.take_of_length_le (by omega)
    rw [tl] at hU
    refine ⟨g, us, its.map some, rfl, .inr (SqL.of hg11), Ents.ofIos hU hw, by omega, fun j y ec => (by rw [hc6] at ec; cases ec), fun ec its' H13 b eo hw' h6' S13 nx hB => ?_⟩
    have ei := (map_some_inj eo).symm
    subst ei
    refine k b H13 (S11.trans S13) ?_ hB
    cases e9 : H b with
    | none => rfl
    | some o => rw [S11 _ _ e9] at nx; cases nx
theorem scGone : FnScope ["_law_items_here", "_law_found", "_law_one"] ["_law_items_here"] (defScope sGone) := ⟨rfl, rfl, rfl, by decide +kernel, rfl, by decide +kernel, by decide +kernel⟩
theorem ok_gone1 (D : Nat) {f fZ : Addr} {fd fdZ : FuncData} (F : Fun K "_law_gone" "_law_gone" sGone f fd) (GZ : FnOk P w K mg base CX0 (1 + D) fZ fdZ ["_law_items_here"] (spGoneP D)) (bZ : Binds K fdZ ["_law_items_here"] []) (gZ : Fn K mg "_law_gone" fZ) (hD : D ≤ 2) :
    FnOk P w K mg base CX0 (2 + D) f fd ["_law_items_here"] (spGone D) := by
  rw [show 2 + D = (1 + D) + 1 by omega]
  refine F.ok scGone (fun vs H Q E h => ?_) (fun cdv A outer s H vs Q E hr h => ?_)
  · obtain ⟨l, us, its, Bp, rfl, _⟩ := h
    rfl
  · obtain ⟨l, us, its, Bp, rfl, hL, hR, hO, l6, k⟩ := h
    have hrZ : Room (1 + D) _ := hr
    have hx := hR.len
    have sz : (gosL its).length ≤ 300 := by
      have := szL_2 ((ItsOk.w hO).up hD) l6
      have := gosL_sz its
      omega
    obtain ⟨sp1, sp2⟩ := gos_split its
    refine ⟨_, pss_cons (ps_setLc (i := 1) (own := [("_law_one", 2)]) (g := gName 2) (tt := _) rfl scGone.nd rfl rfl (sw_true rfl rfl rfl rfl) (pi_list (pv 0)) (blkOk_by (N := ["_law_items_here", "_law_found", "_law_one"]) (sc := defScope sGone) (by decide +kernel)) (fun _ _ _ _ _ => pg_name (i := 2) scGone.nd rfl (Or.inl rfl)) (fun _ _ _ _ _ => pts_one (pt_cmpR op_eq (pe_ix (r := rIxT K) ix_tup (pv 2) pe_int (fun _ _ => rfl)) pe_str (nomark _))) (fun _ _ _ _ _ => pe_ix (r := rIxT K) ix_tup (pv 2) pe_int (fun _ _ => rfl)))
      (pss_cons (ps_for PassesOwn.never rfl (pi_list (pv 0)) (pg_name (i := 2) scGone.nd rfl (Or.inl rfl)) (pss_one (ps_if (pt_cmpR op_eq (pe_ix ix_tup (pv 2) pe_int (fun _ _ => rfl)) pe_str (nomark _)) (pss_one (ps_set (i := 1) scGone.nd rfl (Or.inl rfl) (pe_op op_cat (pv 1) (pe_call GZ hrZ rfl gZ.g gZ.k bZ .nil pass0 (pa_cons (pe_ix ix_tup (pv 2) pe_int (fun _ _ => rfl)) pa_nil))))) pss_nil)))
      (pss_one (ps_ret (pv 1)))), ?_⟩
    refine ⟨_, rfl, l, rfl, ⟨_, SqL.of hL⟩, fun g hg => ?_⟩
    refine lc_list (xs := us) (fun i Hk => Hk = upd H g (.lst (((its.take i).flatMap goT).map V.str))) rfl (fun i Hk _ h => SqL.of (by rw [h, upd_ne (ne_of_none hL hg)]; exact hL)) ?_ ?_
    · rintro i x Hk hxi rfl
      have lt : ((its.take i).flatMap goT).length ≤ 300 := by
        have e : its.flatMap goT = (its.take i).flatMap goT ++ (its.drop i).flatMap goT := by rw [← List.flatMap_append, List.take_append_drop]
        have e2 := congrArg List.length e
        rw [List.length_append] at e2
        omega
      obtain ⟨it, hit, hr0⟩ := hR.get hxi
      have tk := flat_take goT hit
      have up : ∀ {t : Addr} {xs : List V}, H t = some (.tup xs) → SqT K (upd H g (.lst (((its.take i).flatMap goT).map V.str))) t xs := fun h => SqT.of (by rw [upd_ne (ne_of_none h hg)]; exact h)
      refine ⟨rfl, ?_⟩
      cases hr0 with
      | @say t z _ h => exact ⟨_, rfl, t, _, 0, _, rfl, rfl, up h, atI_nat rfl, rfl, _, rfl, iteF (by rw [tk, show goT (.say z) = [] from rfl, List.append_nil])⟩
      | @press t z _ h => exact ⟨_, rfl, t, _, 0, _, rfl, rfl, up h, atI_nat rfl, rfl, _, rfl, iteF (by rw [tk, show goT (.press z) = [] from rfl, List.append_nil])⟩
      | @go t z _ h =>
        refine ⟨_, rfl, t, _, 0, _, rfl, rfl, up h, atI_nat rfl, rfl, _, rfl, iteT ?_⟩
        exact ⟨_, rfl, t, _, 1, _, rfl, rfl, up h, atI_nat rfl, _, upd_same, by rw [List.length_map]; show _ < 16777216; omega, by rw [upd_upd, tk, List.map_append]; rfl⟩
      | @times t l2 n vs its2 _ _ h _ _ => exact ⟨_, rfl, t, _, 0, _, rfl, rfl, up h, atI_nat rfl, rfl, _, rfl, iteF (by rw [tk, show goT (.times n its2) = [] from rfl, List.append_nil])⟩
    · rintro Hk rfl
      rw [show its.take us.length = its from List.take_of_length_le (by omega)]
      have e0 : Ext H (upd H g (.lst ((its.flatMap goT).map V.str))) := Ext.upd hg
      have hg1 : upd H g (.lst ((its.flatMap goT).map V.str)) g = some (.lst ((its.flatMap goT).map V.str)) := upd_same
      generalize upd H g (.lst ((its.flatMap goT).map V.str)) = H1 at e0 hg1 ⊢
      refine ⟨_, rfl, l, rfl, ⟨_, SqL.of (e0 _ _ hL)⟩, for_list (xs := us) (fun i σ Hk => ∃ y F gs, σ = [some (.ref l), some (.ref F), y] ∧ Ext H Hk ∧ H F = none ∧ Hk F = some (.lst ((its.flatMap goT ++ gs).map V.str)) ∧ (∀ x, x ∈ gs ↔ x ∈ (its.take i).flatMap goD) ∧ gs.length = ((its.take i).flatMap goD).length) ⟨_, g, [], rfl, e0, hg, by rw [List.append_nil]; exact hg1, fun x => by simp, by simp⟩ (fun i σ Hk _ ⟨_, _, _, _, e, _⟩ => SqL.of (e _ _ hL)) ?hs ?hd⟩
      case hs =>
        rintro i x σ Hk hxi ⟨y, F, gs, rfl, eH, hF, hFk, hm, hl⟩
        obtain ⟨it, hit, hr0⟩ := hR.get hxi
        have tk := flat_take goD hit
        have lt : ((its.take (i + 1)).flatMap goD).length ≤ (its.flatMap goD).length := by
          have e : its.flatMap goD = (its.take (i + 1)).flatMap goD ++ (its.drop (i + 1)).flatMap goD := by rw [← List.flatMap_append, List.take_append_drop]
          rw [e, List.length_append]
          omega
        cases hr0 with
        | @say t z _ h => exact ⟨_, rfl, t, _, 0, _, rfl, rfl, SqT.of (eH _ _ h), atI_nat rfl, rfl, _, rfl, iteF ⟨_, F, gs, rfl, eH, hF, hFk, by rw [tk, show goD (.say z) = [] from rfl, List.append_nil]; exact hm, by rw [tk, show goD (.say z) = [] from rfl, List.append_nil]; exact hl⟩⟩
        | @press t z _ h => exact ⟨_, rfl, t, _, 0, _, rfl, rfl, SqT.of (eH _ _ h), atI_nat rfl, rfl, _, rfl, iteF ⟨_, F, gs, rfl, eH, hF, hFk, by rw [tk, show goD (.press z) = [] from rfl, List.append_nil]; exact hm, by rw [tk, show goD (.press z) = [] from rfl, List.append_nil]; exact hl⟩⟩
        | @go t z _ h => exact ⟨_, rfl, t, _, 0, _, rfl, rfl, SqT.of (eH _ _ h), atI_nat rfl, rfl, _, rfl, iteF ⟨_, F, gs, rfl, eH, hF, hFk, by rw [tk, show goD (.go z) = [] from rfl, List.append_nil]; exact hm, by rw [tk, show goD (.go z) = [] from rfl, List.append_nil]; exact hl⟩⟩
        | @times t l2 n vs its2 _ _ h hg2 hR2 =>
          refine ⟨_, rfl, t, _, 0, _, rfl, rfl, SqT.of (eH _ _ h), atI_nat rfl, rfl, _, rfl, iteT ?_⟩
          have hok := hO.get hit
          cases D with
          | zero => cases hok
          | succ d =>
            cases hok with
            | times n0 n1 n3 hO2 =>
              refine ⟨_, rfl, _, rfl, t, _, 2, _, rfl, rfl, SqT.of (eH _ _ h), atI_nat rfl, l2, vs, its2, _, rfl, eH _ _ hg2, hR2.same eH, hO2, by omega, fun G g2 H5 e5 hG hG5 m5 l5 => ?_⟩
              have tk2 : (its.take (i + 1)).flatMap goD = (its.take i).flatMap goD ++ gosL its2 := tk
              rw [tk2, List.length_append] at lt
              refine ⟨F, G, _, _, rfl, rfl, e5 _ _ hFk, hG5, ?_, fun p hp => ?_⟩
              · rw [List.length_map, List.length_map, List.length_append]
                show _ ≤ 16777216
                omega
              · refine ⟨_, p, gs ++ g2, rfl, (eH.trans e5).trans (Ext.upd hp), ?_, ?_, fun x => ?_, ?_⟩
                · cases e9 : H p with
                  | none => rfl
                  | some o => rw [(eH.trans e5) _ _ e9] at hp; cases hp
                · rw [upd_same, ← List.map_append, List.append_assoc]
                · rw [tk2, List.mem_append, List.mem_append, hm, m5]
                · rw [tk2, List.length_append, List.length_append, hl, l5]
      case hd =>
        rintro σ Hk ⟨y, F, gs, rfl, eH, hF, hFk, hm, hl⟩
        rw [show its.take us.length = its from List.take_of_length_le (by omega)] at hm hl
        exact ⟨_, rfl, k F _ Hk eH hF hFk (fun x => by rw [List.mem_append, hm, sp1]) (by rw [List.length_append, hl, sp2])⟩
theorem ok_gone {f : Addr} {fd : FuncData} (F : Fun K "_law_gone" "_law_gone" sGone f fd) (bZ : Binds K fd ["_law_items_here"] []) (gZ : Fn K mg "_law_gone" f) : FnOk P w K mg base CX0 4 f fd ["_law_items_here"] (spGone 2) :=
  ok_gone1 2 F (ok_gone1 1 F (ok_gone1 0 F ok_no bZ gZ (by omega)) bZ gZ (by omega)) bZ gZ (by omega)
end
end KP
end

section
set_option Elab.async false
set_option linter.all false
set_option maxRecDepth 100000
set_option maxHeartbeats 4000000
/-! plain books; their modes -/
namespace KP
open PySem PySem.Spec PyProof.Rows L2 Pn StX
abbrev sLModes : Stmt := top 93
/-- the bodies of a plain book -/
inductive PlB (Bp : Addr → Prop) (H : Hp) : List (List Key × V) → List PB → Prop
  | nil : PlB Bp H [] []
  | cons {p : PySem.Str × PySem.Str} {L : Addr} {vs : List V} {its : List Itm} {kvs : List (List Key × V)} {bs : List PB} : ¬Bp L → H L = some (.lst vs) → Rps Bp H vs its → PlB Bp H kvs bs → PlB Bp H ((keyP p, .ref L) :: kvs) ((p, its) :: bs)
theorem PlB.len {Bp : Addr → Prop} {H : Hp} : ∀ {kvs : List (List Key × V)} {bs : List PB}, PlB Bp H kvs bs → kvs.length = bs.length
  | _, _, .nil => rfl
  | _, _, .cons _ _ _ r => by rw [List.length_cons, List.length_cons, r.len]
theorem PlB.get {Bp : Addr → Prop} {H : Hp} : ∀ {kvs : List (List Key × V)} {bs : List PB} {i : Nat} {kk : List Key} {v : V}, PlB Bp H kvs bs → kvs[i]? = some (kk, v) → ∃ p its L vs, bs[i]? = some (p, its) ∧ kk = keyP p ∧ v = .ref L ∧ H L = some (.lst vs) ∧ Rps Bp H vs its
  | _, _, i, kk, v, .nil, e => by cases e
  | _, _, 0, kk, v, .cons (p := p) (its := its) (L := L) (vs := vs) _ h r _, e => by cases e; exact ⟨p, its, L, vs, rfl, rfl, rfl, h, r⟩
  | _, _, i + 1, kk, v, .cons _ _ _ r, e => r.get (i := i) e
theorem PlB.keys {Bp : Addr → Prop} {H : Hp} : ∀ {kvs : List (List Key × V)} {bs : List PB}, PlB Bp H kvs bs → PairKeys kvs (bs.map (·.1))
  | _, _, .nil => rfl
  | _, _, .cons _ _ _ r => by
    have := r.keys
    unfold PairKeys at this ⊢
    rw [List.map_cons, List.map_cons, List.map_cons, this]
    rfl
theorem PlB.mono {B B' : Addr → Prop} {H H' : Hp} (b : ∀ a, B' a → B a) (e : ∀ a o, ¬B a → H a = some o → H' a = some o) : ∀ {kvs : List (List Key × V)} {bs : List PB}, PlB B H kvs bs → PlB B' H' kvs bs
  | _, _, .nil => .nil
  | _, _, .cons n h r t => .cons (fun z => n (b _ z)) (e _ _ n h) (Rps.mono b e _ _ r) (t.mono b e)
/-- what is known of plain bodies -/
def PbOk (bs : List PB) : Prop := ∀ x ∈ bs, ItsOk 2 x.2 ∧ x.2.length ≤ 4 ∧ Wd x.1.1 ∧ Wd x.1.2
theorem PbOk.w {bs : List PB} (h : PbOk bs) : BsW bs := fun x m => ⟨(h x m).1.w, by have := (h x m).2.1; omega, (h x m).2.2⟩
/-- a plain book -/
structure PbAt (Bp : Addr → Prop) (H : Hp) (o l d : Addr) (kvs : List (List Key × V)) (D : BkD) : Prop where
  no : ¬Bp o
  nl : ¬Bp l
  nd : ¬Bp d
  i : H o = some (.tup [.str D.f, .ref l, .ref d])
  r : H l = some (.lst (D.rs.map V.str))
  d : H d = some (.dT kvs)
  b : PlB Bp H kvs D.bs
  n : (kvs.map (·.1)).Nodup
theorem PbAt.mono {B B' : Addr → Prop} {H H' : Hp} {o l d : Addr} {kvs : List (List Key × V)} {D : BkD} (h : PbAt B H o l d kvs D) (b : ∀ a, B' a → B a) (e : ∀ a o, ¬B a → H a = some o → H' a = some o) : PbAt B' H' o l d kvs D :=
  ⟨fun z => h.no (b _ z), fun z => h.nl (b _ z), fun z => h.nd (b _ z), e _ _ h.no h.i, e _ _ h.nl h.r, e _ _ h.nd h.d, h.b.mono b e, h.n⟩
theorem PbAt.ext {B : Addr → Prop} {H H' : Hp} {o l d : Addr} {kvs : List (List Key × V)} {D : BkD} (h : PbAt B H o l d kvs D) (e : Ext H H') : PbAt B H' o l d kvs D := h.mono (fun _ z => z) fun a o _ => e a o
def spLModes (K : PySem.W.Frag) : Sp := fun vs H Q _ => ∃ o l d kvs D Bp, vs = [.ref o] ∧ PbAt Bp H o l d kvs D ∧ PbOk D.bs ∧ (mlist D.f D.rs D.bs).length ≤ 1000 ∧ (dd (mlist D.f D.rs D.bs)).length < 64 ∧
  ∀ t ys H', Ext H H' → H t = none → H' t = some (.tup (ys.map V.str)) → Asc ys (mlist D.f D.rs D.bs) → Q (.ref t) H'
section
variable {P : Program} {w : World} {K : PySem.W.Frag} {mg : Str → Option Value} {base : Heap}
theorem or5 {P A B C D : Prop} : ((P ∨ A ∨ B) ∨ C) ∨ D ↔ P ∨ (A ∨ C) ∨ B ∨ D := by
  constructor
  · rintro (((h | h | h) | h) | h)
    · exact .inl h
    · exact .inr (.inl (.inl h))
    · exact .inr (.inr (.inl h))
    · exact .inr (.inl (.inr h))
    · exact .inr (.inr (.inr h))
  · rintro (h | (h | h) | h | h)
    · exact .inl (.inl (.inl h))
    · exact .inl (.inl (.inr (.inl h)))
    · exact .inl (.inr h)
    · exact .inl (.inl (.inr (.inr h)))
    · exact .inr h
/-- what tuple(sorted(set(xs))) asks -/
theorem asc_read {P : Program} {w : World} {K : PySem.W.Frag} {H : Hp} {l : Addr} {xs : List PySem.Str} {Q : VK} (hl : SqL K H l (xs.map V.str) ∨ SqT K H l (xs.map V.str)) (lz : xs.length ≤ 1000) (ld : (dd xs).length < 64)
    (k : ∀ t ys H2, Ext H H2 → H t = none → H2 t = some (.tup (ys.map V.str)) → Asc ys xs → Q (.ref t) H2) : rSetTx K P w [.ref l] H fun v1 H1 => rSortTx P w [v1] H1 fun v2 H2 => ∃ p ys, [v2] = [.ref p] ∧ ((SqL K H2 p ys ∧ ∀ l, H2 l = none → Q (.ref l) (upd H2 l (.tup ys))) ∨ (SqT K H2 p ys ∧ Q (.ref p) H2)) := by
  refine ⟨l, xs, rfl, hl, lz, fun a L ha lL nL mL => ?_⟩
  have l64 : L.length < 64 := by have := sub_len L (dd xs) nL (fun x m => (dd_mem _ x).mpr ((mL x).mp m)); omega
  refine ⟨a, L, rfl, upd_same, l64, fun ys p pm st hp => ?_⟩
  refine ⟨p, ys.map V.str, rfl, .inl ⟨SqL.of upd_same, fun t ht => ?_⟩⟩
  have e1 : Ext H (upd (upd (upd H a (SetTx P w a L)) p (.lst (ys.map V.str))) t (.tup (ys.map V.str))) := ((Ext.upd ha).trans (Ext.upd hp)).trans (Ext.upd ht)
  refine k t ys _ e1 ?_ upd_same ⟨pm.nodup_iff.mpr nL, st, fun x => (pm.mem_iff).trans (mL x)⟩
  cases e : H t with
  | none => rfl
  | some o =>
    have := ((Ext.upd (o := SetTx P w a L) ha).trans (Ext.upd (o := .lst (ys.map V.str)) hp)) t o e
    have z : some o = none := this.symm.trans ht
    exact z
theorem scLModes : FnScope ["_law_one", "_law_found", "_law_pair"] ["_law_one"] (defScope sLModes) := ⟨rfl, rfl, rfl, by decide +kernel, rfl, by decide +kernel, by decide +kernel⟩
theorem ok_lModes {f fG : Addr} {fd fdG : FuncData} (F : Fun K "_law_modes" "_law_modes" sLModes f fd) (T1 : Blt mg) (TG : BltG mg) (FG : Fun K "_law_gone" "_law_gone" sGone fG fdG) (bG : Binds K fdG ["_law_items_here"] []) (gG : Fn K mg "_law_gone" fG) : FnOk P w K mg base CX0 5 f fd ["_law_one"] (spLModes K) := by
  have GG : FnOk P w K mg base CX0 4 fG fdG ["_law_items_here"] (spGone 2) := ok_gone FG bG gG
  refine F.ok scLModes (fun vs H Q E h => ?_) (fun cdv A outer s H vs Q E hr h => ?_)
  · obtain ⟨o, l, d, kvs, D, Bp, rfl, _⟩ := h
    rfl
  · obtain ⟨o, l, d, kvs, D, Bp, rfl, hb, hok, lm, ld, k⟩ := h
    have hr4 : Room 4 _ := hr
    have hu := hu_of hr
    refine ⟨_, pss_cons (ps_set (i := 1) scLModes.nd rfl (Or.inl rfl) (pe_op op_cat (pe_lst (pa_cons (pe_ix ix_tup (pv 0) pe_int (fun _ _ => rfl)) pa_nil)) (pe_callTy call_list_of (by rfl) T1.list (by decide +kernel) (pa_cons (pe_ix ix_tup (pv 0) pe_int (fun _ _ => rfl)) pa_nil))))
      (pss_cons (ps_lock (ps_for PassesOwn.never rfl (pi_keys (pe_ix ix_tup (pv 0) pe_int (fun _ _ => rfl))) (pg_name (i := 2) scLModes.nd rfl (Or.inl rfl)) (pss_one (ps_set (i := 1) scLModes.nd rfl (Or.inl rfl) (pe_op op_cat (pe_op op_cat (pv 1) (pe_lst (pa_cons (pe_ix ix_tup (pv 2) pe_int (fun _ _ => rfl)) pa_nil))) (pe_call GG hr4 rfl gG.g gG.k bG .nil pass0 (pa_cons (pe_dget hu (pe_ix ix_tup (pv 0) pe_int (fun _ _ => rfl)) (pv 2) (fun _ _ => rfl)) pa_nil)))))))
      (pss_one (ps_ret (pe_callTy (T := "tuple") call_tuple_of (by rfl) TG.tuple (by decide +kernel) (pa_cons (pe_callB (cr_sortedTx rfl) (by rfl) TG.sorted (by decide +kernel) (pa_cons (pe_callTy (T := "set") (cr_setTx rfl) (by rfl) TG.set (by decide +kernel) (pa_cons (pv 1) pa_nil)) pa_nil)) pa_nil))))), ?_⟩
    have ln := hb.b.len
    have lM : D.bs.length + 1 + D.rs.length + (D.bs.flatMap fun x => gosL x.2).length ≤ 1000 := by
      unfold mlist at lm
      simp only [List.length_append, List.length_map, List.length_cons, List.length_nil] at lm
      omega
    refine ⟨_, rfl, o, _, 0, _, rfl, rfl, SqT.of hb.i, atI_nat rfl, (by show 1 ≤ 16777216; omega), fun a ha => ?_⟩
    have e1 : Ext H (upd H a (.lst [.str D.f])) := Ext.upd ha
    refine ⟨_, rfl, o, _, 1, _, rfl, rfl, SqT.of (e1 _ _ hb.i), atI_nat rfl, l, _, rfl, .inl (SqL.of (e1 _ _ hb.r)), fun b hbn => ?_⟩
    have e2 := e1.trans (Ext.upd (o := .lst (D.rs.map V.str)) hbn)
    have ab : a ≠ b := fun z => by rw [← z, upd_same] at hbn; cases hbn
    refine ⟨a, b, _, _, rfl, rfl, by rw [upd_ne ab]; exact upd_same, upd_same, by rw [List.length_map]; show 1 + _ ≤ 16777216; omega, fun L0 hL0 => ?_⟩
    have e3 := e2.trans (Ext.upd (o := .lst ([.str D.f] ++ D.rs.map V.str)) hL0)
    have hL1 : upd (upd (upd H a (.lst [.str D.f])) b (.lst (D.rs.map V.str))) L0 (.lst ([.str D.f] ++ D.rs.map V.str)) L0 = some (.lst ((D.f :: D.rs).map V.str)) := by rw [upd_same]; rfl
    generalize upd (upd (upd H a (.lst [.str D.f])) b (.lst (D.rs.map V.str))) L0 (.lst ([.str D.f] ++ D.rs.map V.str)) = H3 at e3 hL1 ⊢
    have hb3 := hb.ext e3
    refine ⟨d, _, hb3.d, trivial, fun od => ?_⟩
    have od1 : o ≠ d := ne_of hb3.i hb3.d (by intro z; cases z)
    refine ⟨_, rfl, o, _, 2, _, rfl, rfl, SqT.of (by rw [upd_ne od1]; exact hb3.i), atI_nat rfl, d, od, rfl, .inr ⟨kvs, upd_same, for_it (walk_keysT (d := d) (o := od)) (fun i σ Hk => ∃ (y : Option V) (L : Addr) (fs : List PySem.Str), σ = [some (.ref o), some (.ref L), y] ∧ But d H3 Hk ∧ Hk d = some (.frz od (.dT kvs)) ∧ L ≠ d ∧ Hk L = some (.lst (fs.map V.str)) ∧ (∀ x, x ∈ fs ↔ x ∈ D.f :: D.rs ∨ x ∈ (D.bs.take i).map (·.1.1) ∨ x ∈ (D.bs.take i).flatMap fun x => gosL x.2) ∧ fs.length = 1 + D.rs.length + i + ((D.bs.take i).flatMap fun x => gosL x.2).length) ?h0 (fun i σ Hk _ ⟨_, _, _, _, _, h, _⟩ => h) ?hs ?hd⟩⟩
    case h0 =>
      refine ⟨_, L0, D.f :: D.rs, rfl, fun a o n e => by rw [upd_ne n]; exact e, upd_same, ne_of hL1 hb3.d (by intro z; cases z), by rw [upd_ne (ne_of hL1 hb3.d (by intro z; cases z))]; exact hL1, fun x => by simp, by simp; omega⟩
    case hs =>
      rintro i x σ Hk H' lt ⟨y, L, fs, rfl, bK, hfd, Ld, hLk, hm, hl⟩ ⟨rfl, kk, v, q, e, rfl, hq⟩
      obtain ⟨p, its, L2, vs2, ep, rfl, rfl, h2, hR⟩ := hb3.b.get e
      have wp := hok _ (List.mem_of_getElem? ep)
      have tk := flat_take (fun x : PB => gosL x.2) ep
      have cut : ((D.bs.take (i + 1)).flatMap fun x => gosL x.2).length ≤ (D.bs.flatMap fun x => gosL x.2).length := by
        have e3 : D.bs.flatMap (fun x => gosL x.2) = (D.bs.take (i + 1)).flatMap (fun x => gosL x.2) ++ (D.bs.drop (i + 1)).flatMap (fun x => gosL x.2) := by
          rw [← List.flatMap_append, List.take_append_drop]
        rw [e3, List.length_append]
        omega
      rw [tk, List.length_append] at cut
      have cut2 : ((D.bs.take i).flatMap fun x => gosL x.2).length + (gosL its).length ≤ (D.bs.flatMap fun x => gosL x.2).length := cut
      have il : i < D.bs.length := (List.getElem?_eq_some_iff.mp ep).1
      refine ⟨_, rfl, _, rfl, q, _, 0, _, rfl, rfl, SqT.of hq, atI_nat rfl, (by show 1 ≤ 16777216; omega), fun a1 ha1 => ?_⟩
      have k1 : Ext H' (upd H' a1 (.lst [.str p.1])) := Ext.upd ha1
      have La1 : L ≠ a1 := ne_of_none hLk ha1
      refine ⟨L, a1, _, _, rfl, rfl, k1 _ _ hLk, upd_same, by rw [List.length_map]; show _ + 1 ≤ 16777216; omega, fun a2 ha2 => ?_⟩
      have k2 := k1.trans (Ext.upd (o := .lst (fs.map V.str ++ [.str p.1])) ha2)
      have ok2 : But d H3 (upd (upd H' a1 (.lst [.str p.1])) a2 (.lst (fs.map V.str ++ [.str p.1]))) := But.ext bK k2
      have hfd2 := k2 _ _ hfd
      have hL2 := ok2 _ _ (ne_of h2 hb3.d (by intro z; cases z)) h2
      have hR2 : Rps Bp (upd (upd H' a1 (.lst [.str p.1])) a2 (.lst (fs.map V.str ++ [.str p.1]))) vs2 its := Rps.mono2 (fun _ z => z) (fun a xs _ => ⟨fun h => ok2 _ _ (ne_of h hb3.d (by intro z; cases z)) h, fun h => ok2 _ _ (ne_of h hb3.d (by intro z; cases z)) h⟩) _ _ hR
      have ho2 := ok2 _ _ od1 hb3.i
      refine ⟨_, rfl, o, _, 2, _, rfl, rfl, SqT.of ho2, atI_nat rfl, _, rfl, d, .ref L2, rfl, .inr ⟨kvs, keyP p, q, .inr ⟨od, hfd2⟩, rfl, k2 _ _ hq, (valT_at hb3.n e).symm⟩, L2, vs2, its, Bp, rfl, hL2, hR2, wp.1, by have := wp.2.1; show its.length ≤ 6; have : its.length ≤ 4 := wp.2.1; omega, fun G g2 H5 e5 hG hG5 m5 l5 => ?_⟩
      refine ⟨a2, G, _, _, rfl, rfl, e5 _ _ upd_same, hG5, ?_, fun a3 ha3 => ?_⟩
      · rw [List.length_append, List.length_map, List.length_map]
        show _ + 1 + _ ≤ 16777216
        omega
      · have ok5 := But.ext ok2 (e5.trans (Ext.upd (o := .lst (fs.map V.str ++ [.str p.1] ++ g2.map V.str)) ha3))
        have hfd5 := (e5.trans (Ext.upd (o := .lst (fs.map V.str ++ [.str p.1] ++ g2.map V.str)) ha3)) _ _ hfd2
        refine ⟨_, a3, fs ++ [p.1] ++ g2, rfl, ok5, hfd5, (fun z => by rw [z, upd_same] at hfd5; cases hfd5), by rw [upd_same, List.map_append, List.map_append]; rfl, fun x => ?_, ?_⟩
        · have t1 : (D.bs.take (i + 1)).map (·.1.1) = (D.bs.take i).map (·.1.1) ++ [p.1] := by rw [List.take_add_one, ep, List.map_append]; rfl
          rw [tk, t1, List.mem_append, List.mem_append, hm, m5, List.mem_append, List.mem_append, List.mem_singleton]
          exact or5
        · have l7 : g2.length = (gosL (p, its).snd).length := l5
          rw [tk, List.length_append, List.length_append, List.length_append, hl, l7]
          show _ + 1 + _ = _
          omega
    case hd =>
      rintro σ Hk ⟨y, L, fs, rfl, bK, hfd, Ld, hLk, hm, hl⟩
      rw [ln, List.take_length] at hm hl
      refine ⟨hfd, ?_⟩
      have hL4 : upd Hk d (.dT kvs) L = some (.lst (fs.map V.str)) := by rw [upd_ne Ld]; exact hLk
      have eZ := but_unlock hb3.d bK
      have mm : ∀ x, x ∈ fs ↔ x ∈ mlist D.f D.rs D.bs := fun x => by
        rw [hm]
        unfold mlist
        simp only [List.mem_append, List.mem_cons, List.mem_singleton, List.not_mem_nil, or_false]
        constructor
        · rintro ((h | h) | h | h)
          · exact .inl (.inl (.inr h))
          · exact .inl (.inr h)
          · exact .inl (.inl (.inl h))
          · exact .inr h
        · rintro (((h | h) | h) | h)
          · exact .inr (.inl h)
          · exact .inl (.inl h)
          · exact .inl (.inr h)
          · exact .inr (.inr h)
      refine ⟨_, rfl, asc_read (.inl (SqL.of hL4)) (by omega) ?_ fun t ys H2 e4 ht h1 has => ?_⟩
      · have := dd_le (xs := fs) (W := dd (mlist D.f D.rs D.bs)) fun x m => (dd_mem _ x).mpr ((mm x).mp m)
        omega
      · have eT := e3.trans (eZ.trans e4)
        refine k t ys H2 eT ?_ h1 ⟨has.n, has.s, fun x => (has.m x).trans (mm x)⟩
        cases e9 : H t with
        | none => rfl
        | some o => rw [(e3.trans eZ) _ _ e9] at ht; cases ht
end
end KP
end

section
set_option Elab.async false
set_option linter.all false
set_option maxRecDepth 100000
set_option maxHeartbeats 4000000
/-! a plain book is drawn -/
namespace KP
open PySem PySem.Spec PyProof.Rows L2 Pn StX
abbrev sLBook : Stmt := top 89
def putB (bs : List PB) (p : PySem.Str × PySem.Str) (its : List Itm) : List PB :=
  if (bs.any fun x => decide (x.1 = p)) = true then bs.map (fun x => if x.1 = p then (x.1, its) else x) else bs ++ [(p, its)]
theorem PlB.keep {B B' : Addr → Prop} {H H' : Hp} (b : ∀ a, B' a → B a) (t : ∀ a xs, ¬B a → (H a = some (.tup xs) → H' a = some (.tup xs)) ∧ (H a = some (.lst xs) → H' a = some (.lst xs))) : ∀ {kvs : List (List Key × V)} {bs : List PB}, PlB B H kvs bs → PlB B' H' kvs bs
  | _, _, .nil => .nil
  | _, _, .cons n h r q => .cons (fun z => n (b _ z)) ((t _ _ n).2 h) (Rps.mono2 b t _ _ r) (q.keep b t)
theorem PlB.any {B : Addr → Prop} {H : Hp} {p : PySem.Str × PySem.Str} : ∀ {kvs : List (List Key × V)} {bs : List PB}, PlB B H kvs bs → (kvs.any fun kv => decide (kv.1 = keyP p)) = bs.any fun x => decide (x.1 = p)
  | _, _, .nil => rfl
  | _, _, .cons (p := p0) _ _ _ r => by
    rw [List.any_cons, List.any_cons, r.any]
    have : decide (keyP p0 = keyP p) = decide (p0 = p) := by
      by_cases e : p0 = p
      · rw [e, decide_eq_true rfl, decide_eq_true rfl]
      · rw [decide_eq_false e, decide_eq_false (fun z => e (keyP_inj z))]
    show (decide (keyP p0 = keyP p) || _) = (decide (p0 = p) || _)
    rw [this]
theorem PlB.maps {B : Addr → Prop} {H : Hp} {p : PySem.Str × PySem.Str} {L : Addr} {vs : List V} {its : List Itm} (nL : ¬B L) (hL : H L = some (.lst vs)) (hR : Rps B H vs its) : ∀ {kvs : List (List Key × V)} {bs : List PB}, PlB B H kvs bs →
    PlB B H (kvs.map fun kv => if kv.1 = keyP p then (kv.1, V.ref L) else kv) (bs.map fun x => if x.1 = p then (x.1, its) else x)
  | _, _, .nil => .nil
  | _, _, .cons (p := p0) (L := L0) (its := i0) n h r q => by
    rw [List.map_cons, List.map_cons]
    by_cases e : p0 = p
    · subst e
      rw [if_pos rfl, if_pos rfl]
      exact .cons nL hL hR (q.maps nL hL hR)
    · rw [if_neg (fun z => e (keyP_inj z)), if_neg (show ¬ ((p0, i0) : PB).1 = p from e)]
      exact .cons n h r (q.maps nL hL hR)
theorem PlB.snoc {B : Addr → Prop} {H : Hp} {p : PySem.Str × PySem.Str} {L : Addr} {vs : List V} {its : List Itm} (nL : ¬B L) (hL : H L = some (.lst vs)) (hR : Rps B H vs its) : ∀ {kvs : List (List Key × V)} {bs : List PB}, PlB B H kvs bs → PlB B H (kvs ++ [(keyP p, V.ref L)]) (bs ++ [(p, its)])
  | _, _, .nil => .cons nL hL hR .nil
  | _, _, .cons n h r q => .cons n h r (q.snoc nL hL hR)
theorem PlB.put {B : Addr → Prop} {H : Hp} {p : PySem.Str × PySem.Str} {L : Addr} {vs : List V} {its : List Itm} {kvs : List (List Key × V)} {bs : List PB} (h : PlB B H kvs bs) (nL : ¬B L) (hL : H L = some (.lst vs)) (hR : Rps B H vs its) : PlB B H (putK kvs (keyP p) (.ref L)) (putB bs p its) := by
  unfold putK putB
  rw [h.any]
  by_cases e : (bs.any fun x => decide (x.1 = p)) = true
  · rw [if_pos e, if_pos e]
    exact h.maps nL hL hR
  · rw [if_neg e, if_neg e]
    exact h.snoc nL hL hR
theorem nodup_putK {κ : Type} [DecidableEq κ] {kvs : List (κ × V)} (k : κ) (v : V) (n : (kvs.map (·.1)).Nodup) : ((putK kvs k v).map (·.1)).Nodup := by
  unfold putK
  by_cases e : (kvs.any fun kv => decide (kv.1 = k)) = true
  · rw [if_pos e, List.map_map]
    have : ((·.1) ∘ fun kv : κ × V => if kv.1 = k then (kv.1, v) else kv) = (·.1) := by
      funext kv
      show (if kv.1 = k then (kv.1, v) else kv).1 = kv.1
      split <;> rfl
    rw [this]
    exact n
  · rw [if_neg e, List.map_append]
    refine List.nodup_append.mpr ⟨n, by simp, fun a ha b hb z => ?_⟩
    rw [List.map_cons, List.map_nil, List.mem_singleton] at hb
    obtain ⟨x, mx, ex⟩ := List.mem_map.mp ha
    exact e (List.any_eq_true.mpr ⟨x, mx, decide_eq_true (by rw [ex, z, hb])⟩)
theorem putB_mem {bs : List PB} {p : PySem.Str × PySem.Str} {its : List Itm} {x : PB} (m : x ∈ putB bs p its) : x ∈ bs ∨ x = (p, its) := by
  unfold putB at m
  split at m
  · obtain ⟨y, my, ey⟩ := List.mem_map.mp m
    by_cases e : y.1 = p
    · rw [if_pos e, e] at ey
      exact .inr ey.symm
    · rw [if_neg e] at ey
      exact .inl (ey ▸ my)
  · rcases List.mem_append.mp m with m | m
    · exact .inl m
    · exact .inr (List.mem_singleton.mp m)
theorem putB_len (bs : List PB) (p : PySem.Str × PySem.Str) (its : List Itm) : (putB bs p its).length ≤ bs.length + 1 := by
  unfold putB
  split
  · rw [List.length_map]; omega
  · rw [List.length_append]; exact Nat.le_refl _
/-- what is known of a drawn book over the modes W3 -/
structure PbD (W3 : List PySem.Str) (D : BkD) : Prop where
  w : ∀ z ∈ W3, Wd z
  l3 : W3.length = 3
  f : D.f ∈ W3
  r : ∀ z ∈ D.rs, z ∈ W3
  rl : D.rs.length ≤ 10
  ok : PbOk D.bs
  m : ∀ x ∈ D.bs, x.1.1 ∈ W3 ∧ ∀ z ∈ gosL x.2, z ∈ W3
  bl : D.bs.length ≤ 5
theorem flat_len {α β : Type} (f : α → List β) (b : Nat) : ∀ l : List α, (∀ x ∈ l, (f x).length ≤ b) → (l.flatMap f).length ≤ l.length * b
  | [], _ => by simp
  | x :: l, h => by
    have := flat_len f b l (fun y m => h y (List.mem_cons_of_mem _ m))
    have := h x (List.mem_cons_self ..)
    rw [List.flatMap_cons, List.length_append, List.length_cons, Nat.succ_mul]
    omega
theorem PbD.len {W3 : List PySem.Str} {D : BkD} (h : PbD W3 D) : (mlist D.f D.rs D.bs).length ≤ 1000 := by
  have g : ∀ x ∈ D.bs, (gosL x.2).length ≤ 172 := fun x m => by
    have a := gosL_sz x.2
    have b := szL_cap (h.ok x m).1.w
    have e : capI 2 = 43 := by decide
    have c := (h.ok x m).2.1
    have d : x.2.length * 43 ≤ 4 * 43 := Nat.mul_le_mul_right _ c
    rw [e] at b
    omega
  have f := flat_len (fun x : PB => gosL x.2) 172 D.bs g
  have k : D.bs.length * 172 ≤ 5 * 172 := Nat.mul_le_mul_right _ h.bl
  have := h.rl
  have := h.bl
  unfold mlist
  simp only [List.length_append, List.length_map, List.length_cons, List.length_nil]
  omega
theorem PbD.in3 {W3 : List PySem.Str} {D : BkD} (h : PbD W3 D) : ∀ x ∈ mlist D.f D.rs D.bs, x ∈ W3 := fun x m => by
  unfold mlist at m
  rcases List.mem_append.mp m with m | m
  · rcases List.mem_append.mp m with m | m
    · rcases List.mem_append.mp m with m | m
      · obtain ⟨y, my, e⟩ := List.mem_map.mp m
        rw [← e]; exact (h.m y my).1
      · rw [List.mem_singleton.mp m]; exact h.f
    · exact h.r x m
  · obtain ⟨y, my, hx⟩ := List.mem_flatMap.mp m
    exact (h.m y my).2 x hx
theorem PbD.dd3 {W3 : List PySem.Str} {D : BkD} (h : PbD W3 D) : (dd (mlist D.f D.rs D.bs)).length ≤ 3 := by
  have := dd_le h.in3
  have := h.l3
  omega
theorem PbD.bk {W3 : List PySem.Str} {D : BkD} (h : PbD W3 D) : BkW D := by
  have d3 := h.dd3
  have bl := h.bl
  have k : (dd (D.bs.map (·.1.2))).length ≤ (D.bs.map (·.1.2)).length := dd_le fun x m => m
  rw [List.length_map] at k
  refine ⟨h.ok.w, h.w _ h.f, fun z m => h.w _ (h.r z m), h.len, by omega, by omega, ?_⟩
  unfold over
  rw [decide_eq_false (by omega), decide_eq_false (by omega)]
  rfl
def spLBook (K : PySem.W.Frag) : Sp := fun vs H Q _ => ∃ (p c a : Addr) (ns : List Int) (n : Nat), vs = [.ref p, .ref a] ∧ PenAt H p c ns n ∧ NamesAt H a ∧ n + 10000 ≤ 1000000000 ∧ ns.length ≤ 63 ∧
  ∀ W3 o l d kvs D H', H o = none → PbAt (fun b => H b ≠ none) H' o l d kvs D → PbD W3 D → But p H H' → PenAt H' p c ns (n + 4000) → Q (.ref o) H'
theorem strs_of : ∀ {ys : List V} {W : List PySem.Str}, (∀ y ∈ ys, y ∈ W.map V.str) → ∃ qs : List PySem.Str, ys = qs.map V.str ∧ ∀ z ∈ qs, z ∈ W
  | [], W, _ => ⟨[], rfl, fun z m => by cases m⟩
  | y :: ys, W, h => by
    obtain ⟨qs, e, g⟩ := strs_of (ys := ys) (W := W) fun x m => h x (List.mem_cons_of_mem _ m)
    obtain ⟨z, mz, ez⟩ := List.mem_map.mp (h y List.mem_cons_self)
    exact ⟨z :: qs, by rw [e, ← ez]; rfl, fun x m => (List.mem_cons.mp m).elim (fun q => q ▸ mz) (g x)⟩
theorem cut_take {ys : List V} {k : Nat} : cutV ys none (some (k : Int)) = ys.take (min k ys.length) := by
  unfold cutV
  rw [HT.sIx_none, List.drop_zero, HT.sIx_nat]
  rfl
section
variable {P : Program} {w : World} {K : PySem.W.Frag} {mg : Str → Option Value} {base : Heap}
theorem scLBook : FnScope ["_law_pen_here", "_law_names_here", "_law_home", "_law_quiet", "_law_found", "_law_k"] ["_law_pen_here", "_law_names_here"] (defScope sLBook) := ⟨rfl, rfl, rfl, by decide +kernel, rfl, by decide +kernel, by decide +kernel⟩
theorem words_dp {K : PySem.W.Frag} {H : Hp} {zs : List PySem.Str} (h : ∀ z ∈ zs, Wd z) : ∀ d ∈ zs.map PyData.str, layD d = true := fun d m => by
  obtain ⟨z, mz, rfl⟩ := List.mem_map.mp m
  unfold layD
  simp [PyData.canLay0, wd_ok (h z mz), PyData.depth]
theorem ok_lBook {f fD fP fS fE fI : Addr} {fd fdD fdP fdS fdE fdI : FuncData} (F : Fun K "_law_book" "_law_book" sLBook f fd) (T : Blt mg) (FD : Fun K "_law_draw" "_law_draw" sDraw fD fdD) (bD : Binds K fdD ["_law_pen_here", "_law_size"] []) (gD : Fn K mg "_law_draw" fD)
    (FP : Fun K "_law_pick" "_law_pick" sPick fP fdP) (bP : Binds K fdP ["_law_pen_here", "_law_items_here"] []) (gP : Fn K mg "_law_pick" fP) (FS : Fun K "_law_shuffled" "_law_shuffled" sShuffled fS fdS) (bS : Binds K fdS ["_law_pen_here", "_law_items_here"] []) (gS : Fn K mg "_law_shuffled" fS)
    (FE : Fun K "_law_item" "_law_item" sItem fE fdE) (bE : Binds K fdE ["_law_pen_here", "_law_names_here", "_law_deep"] []) (gE : Fn K mg "_law_item" fE) (FI : Fun K "_law_items" "_law_items" sItems fI fdI) (bI : Binds K fdI ["_law_pen_here", "_law_names_here", "_law_deep", "_law_topmost"] []) (gI : Fn K mg "_law_items" fI) :
    FnOk P w K mg base CX0 9 f fd ["_law_pen_here", "_law_names_here"] (spLBook K) := by
  have GD : FnOk P w K mg base CX0 1 fD fdD ["_law_pen_here", "_law_size"] spDraw := ok_draw FD T
  have GP : FnOk P w K mg base CX0 2 fP fdP ["_law_pen_here", "_law_items_here"] (spPick2 K) := ok_pick FP T FD bD gD
  have GS : FnOk P w K mg base CX0 2 fS fdS ["_law_pen_here", "_law_items_here"] (spShuffled K) := ok_shuffled FS T FD bD gD
  refine F.ok scLBook (fun vs H Q E h => ?_) (fun cdv A outer s H vs Q E hr h => ?_)
  · obtain ⟨p, c, a, ns, n, rfl, _⟩ := h
    rfl
  · obtain ⟨p, c, a, ns, n, rfl, hP, hN0, hn, hl, k⟩ := h
    obtain ⟨W2, W3, hN⟩ := NamesAt.g hN0
    have GI : FnOk P w K mg base CX0 8 fI fdI ["_law_pen_here", "_law_names_here", "_law_deep", "_law_topmost"] (spItemsG W2 W3 2) := (ok_bothG FE T FD bD gD FP bP gP FI bI gI bE gE 2).2
    have hr8 : Room 8 _ := hr
    have hr2 : Room 2 _ := hr.mono (by omega)
    have hr1 : Room 1 _ := hr.mono (by omega)
    have hu := hu_of hr
    refine ⟨_, pss_cons (ps_par (i := 2) (j := 3) rfl scLBook.nd rfl rfl (by decide) rfl rfl (pa_cons (pe_call GP hr2 rfl gP.g gP.k bP .nil pass0 (pa_cons (pv 0) (pa_cons (pe_ix ix_tup (pv 1) pe_int (fun _ _ => rfl)) pa_nil)))
        (pa_cons (pe_slice sl_list (pe_call GS hr2 rfl gS.g gS.k bS .nil pass0 (pa_cons (pv 0) (pa_cons (pe_ix ix_tup (pv 1) pe_int (fun _ _ => rfl)) pa_nil))) po_none (po_some (pe_call GD hr1 rfl gD.g gD.k bD .nil pass0 (pa_cons (pv 0) (pa_cons pe_int pa_nil))))) pa_nil)) (by rfl))
      (pss_cons (ps_set (i := 4) scLBook.nd rfl (Or.inl rfl) pe_dnewT)
      (pss_cons (ps_for PassesOwn.never rfl (pi_range1 (by rfl) T.range (pa_cons (pe_call GD hr1 rfl gD.g gD.k bD .nil pass0 (pa_cons (pv 0) (pa_cons pe_int pa_nil))) pa_nil)) (pg_name (i := 5) scLBook.nd rfl (Or.inl rfl))
        (pss_one (ps_dput hu (pv 4) (pe_tup (pa_cons (pe_call GP hr2 rfl gP.g gP.k bP .nil pass0 (pa_cons (pv 0) (pa_cons (pe_ix ix_tup (pv 1) pe_int (fun _ _ => rfl)) pa_nil))) (pa_cons (pe_call GP hr2 rfl gP.g gP.k bP .nil pass0 (pa_cons (pv 0) (pa_cons (pe_ix ix_tup (pv 1) pe_int (fun _ _ => rfl)) pa_nil))) pa_nil)))
          (pe_call GI hr8 rfl gI.g gI.k bI .nil pass0 (pa_cons (pv 0) (pa_cons (pv 1) (pa_cons pe_int (pa_cons pe_int pa_nil))))) rfl)))
      (pss_one (ps_ret (pe_tup (pa_cons (pv 2) (pa_cons (pv 3) (pa_cons (pv 4) pa_nil)))))))), ?_⟩
    obtain ⟨ks, hp⟩ := hP.at
    have hNx := hN
    obtain ⟨l1, l2, l3, w1, h0, ⟨a1, b1, c1⟩, ⟨a2, b2, c2⟩, ⟨a3, b3, c3⟩⟩ := hNx
    -- home
    refine ⟨_, rfl, _, rfl, a, _, 2, _, rfl, rfl, SqT.of h0, atI_nat rfl, p, c, _, ns, _, _, rfl, hP, by omega, hl, .inl ⟨l3, rfl, SqL.of a3⟩, by rw [List.length_map, b3]; decide, by rw [List.length_map, b3]; decide, fun x H1 hm hB1 hP1 => ?_⟩
    obtain ⟨home, hh, rfl⟩ := List.mem_map.mp hm
    have hN1 := hN.but hB1 hp
    obtain ⟨ks1, hp1⟩ := hP1.at
    have t1 := hB1 _ _ (ne_of h0 hp (by intro z; cases z)) h0
    have t3 := hB1 _ _ (ne_of a3 hp (by intro z; cases z)) a3
    refine ⟨_, rfl, _, rfl, a, _, 2, _, rfl, rfl, SqT.of t1, atI_nat rfl, p, c, l3, ns, _, _, _, rfl, hP1, t3, strs_dp W3, words_dp (K := K) (H := H) c3, by rw [List.length_map, b3]; decide, by omega, hl, fun rs ys H2 hrs hys pm hB2 hP2 => ?_⟩
    obtain ⟨ks2, hp2⟩ := hP2.at
    refine ⟨_, rfl, p, c, ns, _, 3, rfl, hP2, by omega, hl, by decide, by decide, fun d0 H3 d00 d01 hB3 hP3 => ⟨d0, rfl, rs, ys, rfl, SqL.of (hB3 _ _ (ne_of hys hp2 (by intro z; cases z)) hys), fun ql hql => ⟨_, _, rfl, ?_⟩⟩⟩
    obtain ⟨k0, rfl⟩ := Int.eq_ofNat_of_zero_le d00
    obtain ⟨ks3, hp3⟩ := hP3.at
    obtain ⟨qs, eq, hqs⟩ := strs_of (ys := cutV ys none (some (k0 : Int))) (W := W3) fun y m => by
      rw [cut_take] at m
      exact pm.symm.mem_iff.mp (List.mem_of_mem_take m)
    have qlen : qs.length ≤ 2 := by
      have e := congrArg List.length eq
      rw [cut_take, List.length_take, List.length_map] at e
      omega
    rw [eq]
    have B3 := (hB1.trans hB2).trans hB3
    have ql0 : H ql = none := B3.fresh hp3 hql
    have B3q : But p H (upd H3 ql (.lst (qs.map V.str))) := B3.new hql
    have P3q : PenAt (upd H3 ql (.lst (qs.map V.str))) p c ns (n + 1 + 20 + 1) := hP3.same (same_new hql)
    have hqq : upd H3 ql (.lst (qs.map V.str)) ql = some (.lst (qs.map V.str)) := upd_same
    generalize upd H3 ql (.lst (qs.map V.str)) = H4 at B3q P3q hqq ⊢
    refine fun fd0 hfd0 => ?_
    obtain ⟨ks4, hp4⟩ := P3q.at
    have fd1 : H fd0 = none := B3q.fresh hp4 hfd0
    have B4 : But p H (upd H4 fd0 (.dT [])) := B3q.new hfd0
    have P4 : PenAt (upd H4 fd0 (.dT [])) p c ns (n + 1 + 20 + 1) := P3q.same (same_new hfd0)
    have hq4 := (same_new hfd0 : Same H4 (upd H4 fd0 (.dT []))) _ _ hqq
    have hf4 : upd H4 fd0 (.dT []) fd0 = some (.dT []) := upd_same
    generalize upd H4 fd0 (.dT []) = H5 at B4 P4 hq4 hf4 ⊢
    refine ⟨_, rfl, p, c, ns, _, 6, rfl, P4, by omega, hl, by decide, by decide, fun d1 H6 d10 d11 hB6 hP6 => ⟨d1, rfl, by omega, by omega, ?_⟩⟩
    obtain ⟨ks5, hp5⟩ := P4.at
    have fp : fd0 ≠ p := fun z => by rw [z, hp] at fd1; cases fd1
    have qp : ql ≠ p := fun z => by rw [z, hp] at ql0; cases ql0
    have qf : ql ≠ fd0 := ne_of hq4 hf4 (by intro z; cases z)
    have cp := hP.cp
    have cf : c ≠ fd0 := fun z => by have := hP.1; rw [z, fd1] at this; cases this
    refine for_range (lo := 0) (n := d1.toNat) (fun i σ Hk => ∃ y, σ = [some (.ref p), some (.ref a), some (.str home), some (.ref ql), some (.ref fd0), y] ∧ But p H Hk ∧ PenAt Hk p c ns (n + 23 + i * 600) ∧ Hk ql = some (.lst (qs.map V.str)) ∧ ∃ (kvs : List (List Key × V)) (bs : List PB), Hk fd0 = some (.dT kvs) ∧ PlB (fun b => H b ≠ none) Hk kvs bs ∧ (kvs.map (·.1)).Nodup ∧ PbOk bs ∧ (∀ x ∈ bs, x.1.1 ∈ W3 ∧ ∀ z ∈ gosL x.2, z ∈ W3) ∧ bs.length ≤ i) ?h0 ?hs ?hd
    case h0 => exact ⟨_, rfl, B4.trans hB6, hP6.mono (by omega), hB6 _ _ qp hq4, [], [], hB6 _ _ fp hf4, .nil, List.nodup_nil, (fun x m => by cases m), (fun x m => by cases m), Nat.le_refl _⟩
    case hs =>
      rintro i σ Hk hi ⟨y, rfl, bK, pK, hqk, kvs, bs, hfk, hB, nd, hok, hmm, hlen⟩
      obtain ⟨kk, hpk⟩ := pK.at
      have i6 : i < 6 := by omega
      have cc : cost 2 = 130 := by decide
      refine ⟨_, rfl, _, rfl, p, c, a, ns, _, 4, rfl, pK, hN.but bK hp, by decide, by rw [cc]; omega, hl, fun L vs its HA hL0 hLA hR hO hG h4 hBA hPA => ?_⟩
      obtain ⟨kA, hpA⟩ := hPA.at
      have bA := bK.trans hBA
      have hNA := hN.but bA hp
      obtain ⟨l1', l2', l3', w1', h0', ⟨a1', b1', c1'⟩, ⟨a2', b2', c2'⟩, ⟨a3', b3', c3'⟩⟩ := hNA
      refine ⟨_, rfl, _, rfl, _, rfl, a, _, 2, _, rfl, rfl, SqT.of h0', atI_nat rfl, p, c, _, ns, _, _, rfl, hPA, by rw [cc]; omega, hl, .inl ⟨l3', rfl, SqL.of a3'⟩, by rw [List.length_map, b3']; decide, by rw [List.length_map, b3']; decide, fun x1 HB hm1 hBB hPB => ?_⟩
      obtain ⟨z1, hz1, rfl⟩ := List.mem_map.mp hm1
      obtain ⟨kB, hpB⟩ := hPB.at
      have t1' := hBB _ _ (ne_of h0' hpA (by intro z; cases z)) h0'
      have t2' := hBB _ _ (ne_of a2' hpA (by intro z; cases z)) a2'
      refine ⟨_, rfl, _, rfl, a, _, 1, _, rfl, rfl, SqT.of t1', atI_nat rfl, p, c, _, ns, _, _, rfl, hPB, by rw [cc]; omega, hl, .inl ⟨l2', rfl, SqL.of t2'⟩, by rw [List.length_map, b2']; decide, by rw [List.length_map, b2']; decide, fun x2 HC hm2 hBC hPC => ?_⟩
      obtain ⟨z2, hz2, rfl⟩ := List.mem_map.mp hm2
      obtain ⟨kC, hpC⟩ := hPC.at
      refine ⟨(by show 2 ≤ sizeLine; decide), fun t ht => ?_⟩
      have bC := (hBA.trans hBB).trans hBC
      have bH := bK.trans bC
      have St : Same HC (upd HC t (.tup [.str z1, .str z2])) := same_new ht
      have fC : ∀ {q : Addr} {o : HO}, q ≠ p → Hk q = some o → upd HC t (.tup [.str z1, .str z2]) q = some o := fun {q o} n e => St _ _ (bC _ _ n e)
      have hf := fC fp hfk
      have hq := fC qp hqk
      have L0 : H L = none := bK.fresh hpk hL0
      have lA : upd HC t (.tup [.str z1, .str z2]) L = some (.lst vs) := St _ _ ((hBB.trans hBC) _ _ (fun z => by rw [z, hpk] at hL0; cases hL0) hLA)
      have hB2 : PlB (fun b => H b ≠ none) (upd HC t (.tup [.str z1, .str z2])) kvs bs := hB.keep (fun _ z => z) fun a xs _ => ⟨fun h => fC (ne_of h hpk (by intro z; cases z)) h, fun h => fC (ne_of h hpk (by intro z; cases z)) h⟩
      have hR2 : Rps (fun b => H b ≠ none) (upd HC t (.tup [.str z1, .str z2])) vs its := Rps.mono2 (fun b hb => .inr (fun z => hb (bK.fresh hpk z))) (fun a xs _ => ⟨fun h => St _ _ ((hBB.trans hBC) _ _ (ne_of h hpA (by intro z; cases z)) h), fun h => St _ _ ((hBB.trans hBC) _ _ (ne_of h hpA (by intro z; cases z)) h)⟩) _ _ hR
      have lk := hB.len
      have e5 : ∀ {q : Addr} {xs : List V}, upd HC t (.tup [.str z1, .str z2]) q = some (.tup xs) → upd (upd HC t (.tup [.str z1, .str z2])) fd0 (.dT (putK kvs (keyP (z1, z2)) (.ref L))) q = some (.tup xs) := fun h => by rw [upd_ne (ne_of h hf (by intro z; cases z))]; exact h
      have e6 : ∀ {q : Addr} {xs : List V}, upd HC t (.tup [.str z1, .str z2]) q = some (.lst xs) → upd (upd HC t (.tup [.str z1, .str z2])) fd0 (.dT (putK kvs (keyP (z1, z2)) (.ref L))) q = some (.lst xs) := fun h => by rw [upd_ne (ne_of h hf (by intro z; cases z))]; exact h
      refine ⟨fd0, _, rfl, .inr ⟨kvs, keyP (z1, z2), t, hf, rfl, upd_same, (by show _ < 16777216; omega), rfl⟩, _, rfl, ?_, ?_, e6 hq, putK kvs (keyP (z1, z2)) (.ref L), putB bs (z1, z2) its, upd_same, ?_, nodup_putK _ _ nd, ?_, ?_, ?_⟩
      · intro b o n e
        have nb : b ≠ fd0 := fun z => by rw [z, fd1] at e; cases e
        rw [upd_ne nb]
        exact St _ _ (bH _ _ n e)
      · have cf0 : c ≠ fd0 := cf
        refine ((hPC.same St).upd fp (fun z => cf0 z.symm)).mono ?_
        rw [cc]; omega
      · exact (hB2.put (fun z => z L0) lA hR2).keep (fun _ z => z) fun a xs _ => ⟨e5, e6⟩
      · intro x m
        rcases putB_mem m with m | rfl
        · exact hok x m
        · exact ⟨hO, h4, c3 _ hz1, c2 _ hz2⟩
      · intro x m
        rcases putB_mem m with m | rfl
        · exact hmm x m
        · exact ⟨hz1, hG⟩
      · have := putB_len bs (z1, z2) its
        omega
    case hd =>
      rintro σ Hk ⟨y, rfl, bK, pK, hqk, kvs, bs, hfk, hB, nd, hok, hmm, hlen⟩
      obtain ⟨kk, hpk⟩ := pK.at
      refine ⟨_, rfl, _, rfl, _, rfl, (by show 3 ≤ sizeLine; decide), fun o ho => ?_⟩
      have o0 : H o = none := bK.fresh hpk ho
      have Sn : Same Hk (upd Hk o (.tup [.str home, .ref ql, .ref fd0])) := same_new ho
      refine k W3 o ql fd0 kvs ⟨home, qs, bs⟩ _ o0 ⟨fun z => z o0, fun z => z ql0, fun z => z fd1, upd_same, Sn _ _ hqk, Sn _ _ hfk, hB.mono (fun _ z => z) (fun a o _ h => Sn _ _ h), nd⟩ ⟨c3, b3, hh, hqs, by show qs.length ≤ 10; omega, hok, hmm, (by show bs.length ≤ 5; omega)⟩ (bK.new ho) ((pK.same Sn).mono ?_)
      have : d1.toNat * 600 ≤ 5 * 600 := Nat.mul_le_mul_right _ (by omega)
      omega
end
end KP
end

section
set_option Elab.async false
set_option linter.all false
set_option maxRecDepth 100000
set_option maxHeartbeats 4000000
/-! the package's book of a plain one -/
namespace KP
open PySem PySem.Spec PyProof.Rows L2 Pn StX
abbrev sMadeBk : Stmt := top 91
/-- pairs of a pair and a body -/
inductive EsB (c : Cs) (H : Hp) : List Pr4 → List PB → Prop
  | nil : EsB c H [] []
  | cons {e : Pr4} {p : PySem.Str × PySem.Str} {b : Addr} {its : List Itm} {es : List Pr4} {bs : List PB} : H e.p = some (.tup [.ref e.q, e.v]) → H e.q = some (.tup [.str p.1, .str p.2]) → e.k = keyP p → e.v = .ref b → Bo c H b its → EsB c H es bs → EsB c H (e :: es) ((p, its) :: bs)
theorem EsB.len {c : Cs} {H : Hp} : ∀ {es : List Pr4} {bs : List PB}, EsB c H es bs → es.length = bs.length
  | _, _, .nil => rfl
  | _, _, .cons _ _ _ _ _ r => by rw [List.length_cons, List.length_cons, r.len]
theorem EsB.keep {c : Cs} {H H' : Hp} (k : Kept H H') : ∀ {es : List Pr4} {bs : List PB}, EsB c H es bs → EsB c H' es bs
  | _, _, .nil => .nil
  | _, _, .cons a b e1 e2 h r => .cons (k.tup _ _ a) (k.tup _ _ b) e1 e2 (h.keep k) (r.keep k)
theorem EsB.app {c : Cs} {H : Hp} : ∀ {es fs : List Pr4} {bs cs : List PB}, EsB c H es bs → EsB c H fs cs → EsB c H (es ++ fs) (bs ++ cs)
  | _, _, _, _, .nil, g => g
  | _, _, _, _, .cons a b e1 e2 h r, g => .cons a b e1 e2 h (r.app g)
theorem EsB.bods {c : Cs} {H : Hp} : ∀ {es : List Pr4} {bs : List PB}, EsB c H es bs → Bods c H (es.map fun e => (e.k, e.v)) bs
  | _, _, .nil => .nil
  | _, _, .cons a b e1 e2 h r => by rw [List.map_cons, e1, e2]; exact .cons h r.bods
theorem EsB.all {c : Cs} {H : Hp} {K : PySem.W.Frag} : ∀ {es : List Pr4} {bs : List PB}, EsB c H es bs → ∀ e ∈ es, SqT K H e.p [.ref e.q, e.v] ∧ H e.q = some (.tup (e.k.map kV))
  | _, _, .nil, e, m => by cases m
  | _, _, .cons a b e1 e2 h r, e, m => by
    rcases List.mem_cons.mp m with rfl | m
    · exact ⟨SqT.of a, by rw [e1]; exact b⟩
    · exact r.all e m
theorem Bods.nodupK {c : Cs} {H : Hp} {kvs : List (List Key × V)} {bs : List PB} (h : Bods c H kvs bs) (n : (bs.map (·.1)).Nodup) : (kvs.map (·.1)).Nodup := by
  rw [show kvs.map (·.1) = (bs.map (·.1)).map keyP from h.keys]
  exact List.Pairwise.map keyP (fun a b ne z => ne (keyP_inj z)) n
theorem PlB.nodup {B : Addr → Prop} {H : Hp} {kvs : List (List Key × V)} {bs : List PB} (h : PlB B H kvs bs) (n : (kvs.map (·.1)).Nodup) : (bs.map (·.1)).Nodup := by
  rw [show kvs.map (·.1) = (bs.map (·.1)).map keyP from h.keys] at n
  exact List.Pairwise.of_map keyP (fun a b h e => h (congrArg keyP e)) n
theorem PlB.butT {B : Addr → Prop} {H H' : Hp} {d : Addr} {ks : List (List Key × V)} (hd : H d = some (.dT ks)) (b : But d H H') {kvs : List (List Key × V)} {bs : List PB} (h : PlB B H kvs bs) : PlB B H' kvs bs :=
  h.keep (fun _ z => z) fun a xs _ => ⟨fun h => b _ _ (ne_of h hd (by intro z; cases z)) h, fun h => b _ _ (ne_of h hd (by intro z; cases z)) h⟩
def spMadeBk (c : Cs) (cb : Addr) : Sp := fun vs H Q _ => ∃ o l d kvs D W3 Bp, vs = [.ref o] ∧ PbAt Bp H o l d kvs D ∧ PbD W3 D ∧
  ∀ x dx r d' kvs' ys H', Ext H H' → H x = none → H r = none → H d' = none → Asc ys D.rs → Bk c cb H' x dx r d' kvs' ⟨D.f, ys, D.bs⟩ → Q (.ref x) H'
section
variable {P : Program} {w : World} {K : PySem.W.Frag} {mg : Str → Option Value} {base : Heap} {c : Cs} {cb : Addr}
variable {fM fG fAs fK pE fE fW fA fP fCm fCs fCb fX fL fWb fC fI : Addr} {dM dG dAs dK dE dW dA dP dCm dCs dCb dX dL dWb dC dI : FuncData} {dvs : List V} {kws : List (PySem.Str × V)}
theorem scMadeBk : FnScope ["_law_one", "_law_pair"] ["_law_one"] (defScope sMadeBk) := ⟨rfl, rfl, rfl, by decide +kernel, rfl, by decide +kernel, by decide +kernel⟩
/-- one more pair -/
theorem es_turn {H Hk H2 : Hp} {L t q b : Addr} {es : List Pr4} {bs : List PB} {p : PySem.Str × PySem.Str} {its : List Itm} (hE : EsB c Hk es bs) (hLk : Hk L = some (.lst (es.map fun e => .ref e.p))) (hq : Hk q = some (.tup [.str p.1, .str p.2])) (e2 : Ext Hk H2) (hb : Bo c H2 b its) (ht : H2 t = none) (us : List V) :
    EsB c (upd (upd H2 t (.tup [.ref q, .ref b])) L (.lst us)) (es ++ [⟨t, keyP p, q, .ref b⟩]) (bs ++ [(p, its)]) ∧ Ext H2 (upd H2 t (.tup [.ref q, .ref b])) := by
  have e3 : Ext H2 (upd H2 t (.tup [.ref q, .ref b])) := Ext.upd ht
  have hL2 := e3 _ _ (e2 _ _ hLk)
  have kp : Kept (upd H2 t (.tup [.ref q, .ref b])) (upd (upd H2 t (.tup [.ref q, .ref b])) L (.lst us)) := ⟨fun a C dx fs _ h => by rw [upd_ne (ne_of h hL2 (by intro z; cases z))]; exact h, fun a xs h => by rw [upd_ne (ne_of h hL2 (by intro z; cases z))]; exact h⟩
  refine ⟨((hE.keep (.ext' (e2.trans e3))).keep kp).app (.cons (kp.tup _ _ upd_same) (kp.tup _ _ (e3 _ _ (e2 _ _ hq))) rfl rfl ((hb.keep (.ext' e3)).keep kp) .nil), e3⟩
theorem ok_madeBk {f fMb : Addr} {fd fdMb : FuncData} (F : Fun K "_law_made_book" "_law_made_book" sMadeBk f fd) (N : BkN K mg c) (Y : BkF K mg c fW fA fP fCm fCs fCb fX fL fWb dW dA dP dCm dCs dCb dX dL dWb) (Z : LimF K mg c fM fG fAs fK pE fE dM dG dAs dK dE) (BT : BkT K mg cb) (MB : MkBk K mg cb fI dI dvs kws)
    (GMb : FnOk P w K mg base CX0 13 fMb fdMb ["_law_items_here"] (spMadeB c)) (bMb : Binds K fdMb ["_law_items_here"] []) (gMb : Fn K mg "_law_made_body" fMb) : FnOk P w K mg base CX0 14 f fd ["_law_one"] (spMadeBk c cb) := by
  have GI : FnOk P w K mg base CX0 7 fI dI ["self", "first", "rest", "bodies"] (spBookI K c cb) := ok_bookI MB.F N Y Z BT
  refine F.ok scMadeBk (fun vs H Q E h => ?_) (fun cdv A outer s H vs Q E hr h => ?_)
  · obtain ⟨o, l, d, kvs, D, W3, Bp, rfl, _⟩ := h
    rfl
  · obtain ⟨o, l, d, kvs, D, W3, Bp, rfl, hb, hD, k⟩ := h
    have hr13 : Room 13 _ := hr
    have hr8 : Room 8 _ := hr.mono (by omega)
    have hu := hu_of hr
    refine ⟨_, pss_one (ps_ret (pe_make MB.m GI hr8 rfl BT.g MB.b .nil pass0 (pa_cons (pe_ix ix_tup (pv 0) pe_int (fun _ _ => rfl)) (pa_cons (pe_callTy call_list_of (by rfl) N.T1.list (by decide +kernel) (pa_cons (pe_ix ix_tup (pv 0) pe_int (fun _ _ => rfl)) pa_nil))
      (pa_cons (pe_callTy (T := "dict") (call_dictT rfl hr.units) (by rfl) N.V3.dict (by decide +kernel) (pa_cons (pe_lock (pe_lc (own := [("_law_pair", 1)]) (g := gName 1) (tt := tYes) rfl scMadeBk.nd (pi_keys (pe_ix ix_tup (pv 0) pe_int (fun _ _ => rfl))) (blkOk_by (N := ["_law_one", "_law_pair"]) (sc := defScope sMadeBk) (by decide +kernel)) (fun _ _ _ _ _ => pg_name (i := 1) scMadeBk.nd rfl (Or.inl rfl)) (fun _ _ _ _ _ => pts_nil)
        (fun _ _ _ _ _ => pe_tup (pa_cons (pv 1) (pa_cons (pe_call GMb hr13 rfl gMb.g gMb.k bMb .nil pass0 (pa_cons (pe_dget hu (pe_ix (r := rIxT K) ix_tup (pv 0) pe_int (fun _ _ => rfl)) (pv 1) (fun _ _ => rfl)) pa_nil)) pa_nil))))) pa_nil)) pa_nil))))), ?_⟩
    have ln := hb.b.len
    have bl := hD.bl
    have rl := hD.rl
    refine ⟨_, rfl, o, _, 0, _, rfl, rfl, SqT.of hb.i, atI_nat rfl, _, rfl, o, _, 1, _, rfl, rfl, SqT.of hb.i, atI_nat rfl, l, _, rfl, .inl (SqL.of hb.r), fun l2 hl2 => ?_⟩
    have e1 : Ext H (upd H l2 (.lst (D.rs.map V.str))) := Ext.upd hl2
    have hb1 := hb.ext e1
    have hl2' : upd H l2 (.lst (D.rs.map V.str)) l2 = some (.lst (D.rs.map V.str)) := upd_same
    generalize upd H l2 (.lst (D.rs.map V.str)) = H1 at e1 hb1 hl2' ⊢
    have od1 : o ≠ d := ne_of hb1.i hb1.d (by intro z; cases z)
    refine ⟨d, _, hb1.d, trivial, fun od => ?_⟩
    refine ⟨_, rfl, o, _, 2, _, rfl, rfl, SqT.of (by rw [upd_ne od1]; exact hb1.i), atI_nat rfl, d, od, rfl, .inr ⟨kvs, upd_same, fun L hL => lc_it (walk_keysT (d := d) (o := od)) (fun i Hk => But d H1 Hk ∧ Hk d = some (.frz od (.dT kvs)) ∧ L ≠ d ∧ H1 L = none ∧ ∃ es, Hk L = some (.lst (es.map fun e => .ref e.p)) ∧ EsB c Hk es (D.bs.take i)) ?h0 (fun i Hk _ h => h.2.1) ?turn ?fine⟩⟩
    case h0 =>
      have Ld : L ≠ d := fun z => by rw [z, upd_same] at hL; cases hL
      have L1 : H1 L = none := by rw [upd_ne Ld] at hL; exact hL
      exact ⟨fun a o n e => by rw [upd_ne (ne_of_none e L1), upd_ne n]; exact e, by rw [upd_ne (fun z => Ld z.symm)]; exact upd_same, Ld, L1, [], upd_same, .nil⟩
    case turn =>
      rintro i x Hk H' lt ⟨bK, hfd, Ld, L1, es, hLk, hE⟩ ⟨rfl, kk, v, q, e, rfl, hq⟩
      obtain ⟨p, its, L2, vs2, ep, rfl, rfl, h2, hR⟩ := hb1.b.get e
      have wp := hD.ok _ (List.mem_of_getElem? ep)
      have tk : D.bs.take (i + 1) = D.bs.take i ++ [(p, its)] := by rw [List.take_add_one, ep]; rfl
      have le := hE.len
      have hL2 := bK _ _ (ne_of h2 hb1.d (by intro z; cases z)) h2
      have hR2 : Rps Bp H' vs2 its := Rps.mono2 (fun _ z => z) (fun a xs _ => ⟨fun h => bK _ _ (ne_of h hb1.d (by intro z; cases z)) h, fun h => bK _ _ (ne_of h hb1.d (by intro z; cases z)) h⟩) _ _ hR
      refine ⟨rfl, _, rfl, _, rfl, o, _, 2, _, rfl, rfl, SqT.of (bK _ _ od1 hb1.i), atI_nat rfl, _, rfl, d, .ref L2, rfl, .inr ⟨kvs, keyP p, q, .inr ⟨od, hfd⟩, rfl, hq, (valT_at hb1.n e).symm⟩, L2, vs2, its, Bp, rfl, hL2, hR2, wp.1, by have : its.length ≤ 4 := wp.2.1; omega, fun b H5 e5 hbn hbo => ?_⟩
      refine ⟨(by show 2 ≤ sizeLine; decide), fun t ht => ?_⟩
      obtain ⟨g1, g2⟩ := es_turn (H := H) (t := t) hE hLk hq e5 hbo ht ((es.map fun e => .ref e.p) ++ [.ref t])
      refine ⟨_, g2 _ _ (e5 _ _ hLk), ?_, ?_, ?_, Ld, L1, es ++ [⟨t, keyP p, q, .ref b⟩], ?_, ?_⟩
      · rw [List.length_map]
        rw [List.length_take] at le
        show _ < 16777216
        omega
      · intro a o2 n ea
        have aL : a ≠ L := fun z => by rw [z, L1] at ea; cases ea
        rw [upd_ne aL]
        exact g2 _ _ (e5 _ _ (bK _ _ n ea))
      · rw [upd_ne (fun z => Ld z.symm)]
        exact g2 _ _ (e5 _ _ hfd)
      · rw [upd_same, List.map_append]; rfl
      · rw [tk]; exact g1
    case fine =>
      rintro Hk ⟨bK, hfd, Ld, L1, es, hLk, hE⟩
      rw [ln, List.take_length] at hE
      refine ⟨hfd, ?_⟩
      have eZ := but_unlock hb1.d bK
      have kp : Kept Hk (upd Hk d (.dT kvs)) := ⟨fun a C dx fs _ h => by rw [upd_ne (ne_of h hfd (by intro z; cases z))]; exact h, fun a xs h => by rw [upd_ne (ne_of h hfd (by intro z; cases z))]; exact h⟩
      have hE2 := hE.keep kp
      have hL3 : upd Hk d (.dT kvs) L = some (.lst (es.map fun e => .ref e.p)) := by rw [upd_ne Ld]; exact hLk
      generalize upd Hk d (.dT kvs) = H4 at eZ hE2 hL3 ⊢
      have le := hE2.len
      refine ⟨L, es, rfl, SqL.of hL3, hE2.all, by omega, fun d2 hd2 => fun x dx n1 n2 ne => ?_⟩
      have hB := hE2.bods
      have nk := hB.nodupK (hb.b.nodup hb.n)
      rw [mergeT_one nk] at n1 n2 ⊢
      have e5 : Ext H4 (upd H4 d2 (.dT (es.map fun e => (e.k, e.v)))) := Ext.upd hd2
      have eA := (e1.trans eZ).trans e5
      refine ⟨_, x, dx, l2, .ref d2, D, es.map fun e => (e.k, e.v), rfl, ext_mk n1 n2, n1, upd_same, .inr ⟨d2, rfl, upd_same⟩, .inl (SqL.of (e5 _ _ (eZ _ _ hl2'))), hB.keep (.ext' e5), nk, hD.bk, fun ys dx' r' d' H' e as hk ⟨m1, m2, _, _⟩ => ⟨rfl, ?_⟩⟩
      have free : ∀ {a : Addr}, upd H4 d2 (.dT (es.map fun e => (e.k, e.v))) a = none → H a = none := fun {a} n => by
        cases e9 : H a with
        | none => rfl
        | some o => rw [eA _ _ e9] at n; cases n
      exact k x dx' r' d' _ ys H' (eA.trans e) (free n1) (free m1) (free m2) as hk
end
end KP
end

section
set_option Elab.async false
set_option linter.all false
set_option maxRecDepth 100000
set_option maxHeartbeats 4000000
/-! what a book tells, as plain things -/
namespace KP
open PySem PySem.Spec PyProof.Rows L2 Pn StX
abbrev sShown : Stmt := top 94
def entD (x : PB) : PyData := .tuple [encP x.1, .list (itsD x.2)]
def bookD (f : PySem.Str) (ys ms ks : List PySem.Str) (rows : List PB) : PyData := .list [.str f, .tuple (ys.map .str), .tuple (ms.map .str), .tuple (ks.map .str), .list (rows.map entD)]
def rowsOf (bs : List PB) : List PB := (sortP (bs.map (·.1))).map fun p => (p, (bval bs p).getD [])
/-- tuples of a pair and a list of plain items -/
inductive ShE (B : Addr → Prop) (H : Hp) : List V → List PB → Prop
  | nil : ShE B H [] []
  | cons {t q l : Addr} {p : PySem.Str × PySem.Str} {vs : List V} {its : List Itm} {us : List V} {bs : List PB} : ¬B l → H t = some (.tup [.ref q, .ref l]) → H q = some (.tup [.str p.1, .str p.2]) → H l = some (.lst vs) → Rps B H vs its → ShE B H us bs → ShE B H (.ref t :: us) ((p, its) :: bs)
theorem ShE.keep {B B' : Addr → Prop} {H H' : Hp} (b : ∀ a, B' a → B a) (t : ∀ a xs, H a = some (.tup xs) → H' a = some (.tup xs)) (l : ∀ a xs, ¬B a → H a = some (.lst xs) → H' a = some (.lst xs)) : ∀ {us : List V} {bs : List PB}, ShE B H us bs → ShE B' H' us bs
  | _, _, .nil => .nil
  | _, _, .cons n h1 h2 h3 r q => .cons (fun z => n (b _ z)) (t _ _ h1) (t _ _ h2) (l _ _ n h3) (Rps.mono2 b (fun a xs m => ⟨t a xs, l a xs m⟩) _ _ r) (q.keep b t l)
theorem ShE.app {B : Addr → Prop} {H : Hp} : ∀ {us vs : List V} {bs cs : List PB}, ShE B H us bs → ShE B H vs cs → ShE B H (us ++ vs) (bs ++ cs)
  | _, _, _, _, .nil, g => g
  | _, _, _, _, .cons n h1 h2 h3 r q, g => .cons n h1 h2 h3 r (q.app g)
theorem ShE.len {B : Addr → Prop} {H : Hp} : ∀ {us : List V} {bs : List PB}, ShE B H us bs → us.length = bs.length
  | _, _, .nil => rfl
  | _, _, .cons _ _ _ _ _ q => by rw [List.length_cons, List.length_cons, q.len]
theorem ShE.dp {K : PySem.W.Frag} {B : Addr → Prop} {H : Hp} : ∀ {us : List V} {bs : List PB}, ShE B H us bs → DpAll K H us (bs.map entD)
  | _, _, .nil => .nil
  | _, _, .cons n h1 h2 h3 r q => .cons (.tup (SqT.of h1) (.cons (.tup (SqT.of h2) (.cons (.str _) (.cons (.str _) .nil))) (.cons (.lst (SqL.of h3) (Rps.dp _ _ r)) .nil))) q.dp
def spShown (K : PySem.W.Frag) (c : Cs) (cb : Addr) : Sp := fun vs H Q _ => ∃ x dx r d kvs D, vs = [.ref x] ∧ Bk c cb H x dx r d kvs D ∧ BkW D ∧
  ∀ R ms ks H', Ext H H' → Asc ms (mlist D.f D.rs D.bs) → Asc ks (D.bs.map (·.1.2)) → Dp K H' (.ref R) (bookD D.f D.rs ms ks (rowsOf D.bs)) → Q (.ref R) H'
theorem bval_in {bs : List PB} {p : PySem.Str × PySem.Str} {its : List Itm} (h : bval bs p = some its) : (p, its) ∈ bs := by
  unfold bval at h
  cases e : bs.find? fun x => decide (x.1 = p) with
  | none => rw [e] at h; cases h
  | some x =>
    rw [e] at h
    have h1 : x.2 = its := Option.some.inj h
    have h2 : x.1 = p := by
      have h3 := List.find?_some e
      simpa using h3
    have m := List.mem_of_find?_eq_some e
    rw [← h1, ← h2]
    exact m
theorem val_pair {K : PySem.W.Frag} {H : Hp} {q : Addr} {p : PySem.Str × PySem.Str} (h : H q = some (.tup [.str p.1, .str p.2])) (w1 : Wd p.1) (w2 : Wd p.2) : Val K H (.ref q) (encP p) := by
  have l1 : p.1.length ≤ 8 := wd_len w1
  have l2 : p.2.length ≤ 8 := wd_len w2
  have o1 := wd_ok w1
  have o2 := wd_ok w2
  have sh : SeqAt.shaped (encP p) = true := by
    unfold SeqAt.shaped encP
    rw [Bool.and_eq_true]
    refine ⟨by show PyData.canLay0 (.tuple [.str p.1, .str p.2]) = true; simp [PyData.canLay0, PyData.canLayAll0, o1, o2], decide_eq_true ?_⟩
    simp [PyData.depth, PyData.depthAll]
  refine ⟨.pl (.tup (SqT.of h) (.cons (.str _) (.cons (.str _) .nil))) (by simp [encP, PyData.hasDict, PyData.hasDictAll]) sh (SeqAt.eqv_refl _ ?_), ?_, fun ds e => ?_⟩
  · show PyData.canLay0 (.tuple [.str p.1, .str p.2]) = true
    simp [PyData.canLay0, PyData.canLayAll0, o1, o2]
  · show (decide (p.1.length ≤ 1000) && decide (p.2.length ≤ 1000)) = true
    rw [decide_eq_true (by omega), decide_eq_true (by omega)]
    rfl
  · cases e
    exact ⟨q, _, rfl, h, .cons (.str _) (.cons (.str _) .nil), by show 2 ≤ 1000; omega⟩
theorem inB_enc {ps : List (PySem.Str × PySem.Str)} {p : PySem.Str × PySem.Str} : inB ps (encP p) = decide (p ∈ ps) := rfl
/-- a book's attributes -/
structure BkP (K : PySem.W.Frag) (cb pF fF pR fR pM fMd pB fBd pS fSt gG : Addr) (dF dR dMd dBd dSt dGt : FuncData) : Prop where
  FF : Fun K "first" "Book.first" sFst fF dF
  bF : Binds K dF ["self"] []
  gF : PropOf K cb "first" pF fF
  FR : Fun K "rest" "Book.rest" sRst fR dR
  bR : Binds K dR ["self"] []
  gR : PropOf K cb "rest" pR fR
  FM : Fun K "modes" "Book.modes" sMds fMd dMd
  bM : Binds K dMd ["self"] []
  gM : PropOf K cb "modes" pM fMd
  FB : Fun K "bound" "Book.bound" sBnd fBd dBd
  bB : Binds K dBd ["self"] []
  gB : PropOf K cb "bound" pB fBd
  FS : Fun K "strokes" "Book.strokes" sStr fSt dSt
  bS : Binds K dSt ["self"] []
  gS : PropOf K cb "strokes" pS fSt
  FG : Fun K "__getitem__" "Book.__getitem__" sGetB gG dGt
  bG : Binds K dGt ["self", "pair"] []
  iG : IxC K cb gG
section
variable {P : Program} {w : World} {K : PySem.W.Frag} {mg : Str → Option Value} {base : Heap} {c : Cs} {cb CO : Addr}
variable {fM fG fAs fK pE fE fW fA fP fCm fCs fCb fX fL fWb fC fI : Addr} {dM dG dAs dK dE dW dA dP dCm dCs dCb dX dL dWb dC dI : FuncData} {dvs : List V} {kws : List (PySem.Str × V)}
variable {pF fF pR fR pM fMd pB fBd pS fSt gG : Addr} {dF dR dMd dBd dSt dGt : FuncData}
theorem scShown : FnScope ["_law_book_here", "_law_found", "_law_pair", "_law_one"] ["_law_book_here"] (defScope sShown) := ⟨rfl, rfl, rfl, by decide +kernel, rfl, by decide +kernel, by decide +kernel⟩
theorem ok_shown {f fPl : Addr} {fd fdPl : FuncData} (F : Fun K "_law_shown" "_law_shown" sShown f fd) (N : BkN K mg c) (Y : BkF K mg c fW fA fP fCm fCs fCb fX fL fWb dW dA dP dCm dCs dCb dX dL dWb) (Z : LimF K mg c fM fG fAs fK pE fE dM dG dAs dK dE) (BT : BkT K mg cb) (CT : ConT K cb fC dC) (O : UnkT K mg CO) (BP : BkP K cb pF fF pR fR pM fMd pB fBd pS fSt gG dF dR dMd dBd dSt dGt)
    (GPl : FnOk P w K mg base CX0 5 fPl fdPl ["_law_item_here"] (spPlain c 2)) (bPl : Binds K fdPl ["_law_item_here"] []) (gPl : Fn K mg "_law_plain" fPl) : FnOk P w K mg base CX0 8 f fd ["_law_book_here"] (spShown K c cb) := by
  have GF : FnOk P w K mg base CX0 1 fF dF ["self"] (spFst c cb) := ok_fst BP.FF BT
  have GR : FnOk P w K mg base CX0 1 fR dR ["self"] (spRst c cb) := ok_rst BP.FR BT
  have GM : FnOk P w K mg base CX0 5 fMd dMd ["self"] (spMds c cb) := ok_mds BP.FM N Z BT
  have GB : FnOk P w K mg base CX0 3 fBd dBd ["self"] (spBnd c cb) := ok_bnd BP.FB N Z BT
  have GS : FnOk P w K mg base CX0 1 fSt dSt ["self"] (spStr c cb) := ok_str BP.FS N BT
  have GG : FnOk P w K mg base (L2.CX P w) 5 gG dGt ["self", "pair"] (spGetB K c cb CO) := ok_getB BP.FG N Y BT CT O
  have GE : FnOk P w K mg base CX0 1 fE dE ["self"] (spEnt c) := ok_ent Z.FE N.B
  refine F.ok scShown (fun vs H Q E h => ?_) (fun cdv A outer s H vs Q E hr h => ?_)
  · obtain ⟨x, dx, r, d, kvs, D, rfl, _⟩ := h
    rfl
  · obtain ⟨x, dx, r, d, kvs, D, rfl, hb, hw, k⟩ := h
    have hr6 : Room 6 _ := hr.mono (by omega)
    have hr5 : Room 5 _ := hr.mono (by omega)
    have hr4 : Room 4 _ := hr.mono (by omega)
    have hr2 : Room 2 _ := hr.mono (by omega)
    refine ⟨_, pss_cons (ps_setLc (i := 1) (own := [("_law_pair", 2)]) (g := gName 2) (tt := tYes) rfl scShown.nd rfl rfl (sw_true rfl rfl rfl rfl) (pi_tup (pe_prop (pv 0) BT.ty.cl BP.gS GS hr2 BP.bS .nil pass0 rfl)) (blkOk_by (N := ["_law_book_here", "_law_found", "_law_pair", "_law_one"]) (sc := defScope sShown) (by decide +kernel)) (fun _ _ _ _ _ => pg_name (i := 2) scShown.nd rfl (Or.inl rfl)) (fun _ _ _ _ _ => pts_nil)
        (fun _ _ _ _ _ => pe_tup (pa_cons (pv 2) (pa_cons (pe_lc (own := [("_law_one", 3)]) (g := gName 3) (tt := tYes) rfl scShown.nd (show PI _ _ _ (iTup K (tProp c.body (spEnt c) [] (fun _ _ _ => False) (tOp (rIxO cb (spGetB K c cb CO) (fun _ _ _ => False)) (tVar 0) (tVar 2)))) from pi_tup (show PE _ _ (tProp c.body (spEnt c) [] (fun _ _ _ => False) (tOp (rIxO cb (spGetB K c cb CO) (fun _ _ _ => False)) (tVar 0) (tVar 2))) from pe_prop (show PE _ _ (tOp (rIxO cb (spGetB K c cb CO) (fun _ _ _ => False)) (tVar 0) (tVar 2)) from pe_ixO BP.iG GG hr6 BP.bG passF (pv 0) (pv 2) (fun _ _ => by with_unfolding_all rfl)) N.B.body.cl Z.gE GE hr2 Z.bE .nil pass0 rfl)) (blkOk_by (N := ["_law_book_here", "_law_found", "_law_pair", "_law_one"]) (by rfl)) (fun _ _ _ _ _ => pg_name (i := 3) scShown.nd rfl (Or.inl rfl)) (fun _ _ _ _ _ => pts_nil)
          (fun _ _ _ _ _ => pe_call GPl hr5 rfl gPl.g gPl.k bPl .nil pass0 (pa_cons (pv 3) pa_nil))) pa_nil))))
      (pss_one (ps_ret (pe_lst (pa_cons (pe_prop (pv 0) BT.ty.cl BP.gF GF hr2 BP.bF .nil pass0 rfl) (pa_cons (pe_prop (pv 0) BT.ty.cl BP.gR GR hr2 BP.bR .nil pass0 rfl) (pa_cons (pe_prop (pv 0) BT.ty.cl BP.gM GM hr6 BP.bM .nil pass0 rfl) (pa_cons (pe_prop (pv 0) BT.ty.cl BP.gB GB hr4 BP.bB .nil pass0 rfl) (pa_cons (pv 1) pa_nil)))))))), ?_⟩
    refine ⟨_, rfl, x, dx, _, rfl, hb.i, x, dx, r, d, kvs, D, rfl, hb, hw, fun t us H1 e1 ht hus hpr => ⟨t, rfl, ⟨_, SqT.of hus⟩, fun L hL => ?_⟩⟩
    have t0 : H t = none := ht
    have hb1 := hb.ext e1
    refine lc_tup (xs := us) (fun i Hk => Ext H1 Hk ∧ ∃ rs, Hk L = some (.lst rs) ∧ ShE (fun b => b = L ∨ H1 b ≠ none) Hk rs ((rowsOf D.bs).take i)) ⟨Ext.upd hL, [], upd_same, by rw [List.take_zero]; exact .nil⟩ (fun i Hk _ hk => SqT.of (hk.1 _ _ hus)) ?turn ?fine
    case turn =>
      rintro i y Hk hyi ⟨eK, rs, hLk, hE⟩
      obtain ⟨p, q, hpi, rfl, hq⟩ := hpr.get hyi
      have pm : p ∈ D.bs.map (·.1) := (sortP_perm _).mem_iff.mp (List.mem_of_getElem? hpi)
      obtain ⟨x0, mx0, ex0⟩ := List.mem_map.mp pm
      have wx := hw.w x0 mx0
      rw [ex0] at wx
      have hbk := hb1.ext eK
      refine ⟨rfl, _, rfl, _, rfl, _, rfl, x, dx, _, rfl, hbk.i, x, dx, r, d, kvs, D, .ref q, encP p, rfl, hbk, hw.w, val_pair (eK _ _ hq) wx.2.2.1 wx.2.2.2, fun z => ?_, fun a b its v H3 ee eb e3 hbo => ?_⟩
      · rw [inB_enc, decide_eq_true pm] at z
        cases z
      · have e4 : (a, b) = p := by
          unfold encP at ee
          injection ee with ee
          injection ee with g1 g2
          injection g2 with g2 _
          injection g1 with g1
          injection g2 with g2
          exact Prod.ext g1.symm g2.symm
        rw [e4] at eb
        have wi := hw.w _ (bval_in eb)
        have row : (rowsOf D.bs)[i]? = some (p, its) := by
          unfold rowsOf
          rw [List.getElem?_map, hpi]
          show some (p, (bval D.bs p).getD []) = _
          rw [eb]
          rfl
        have tk : (rowsOf D.bs).take (i + 1) = (rowsOf D.bs).take i ++ [(p, its)] := by rw [List.take_add_one, row]; rfl
        cases hbo with
        | @mk _ dxb eb2 vs _ g1 g2 g3 =>
        have hx := g3.len
        have hL3 := e3 _ _ hLk
        refine ⟨v, _, _, rfl, g1, v, _, _, _, _, rfl, g1, eb2, rfl, ⟨_, SqT.of g2⟩, fun L2 hL2 => ?_⟩
        have n12 : H1 L2 = none := by
          cases e9 : H1 L2 with
          | none => rfl
          | some o => rw [(eK.trans e3) _ _ e9] at hL2; cases hL2
        refine lc_tup (xs := vs) (fun j Hj => Same H3 Hj ∧ ∃ us2, Hj L2 = some (.lst us2) ∧ Rps (fun b => b = L2 ∨ H3 b ≠ none) Hj us2 (its.take j)) ⟨same_new hL2, [], upd_same, by rw [List.take_zero]; exact .nil⟩ (fun j Hj _ hk => SqT.of (hk.1 _ _ g2)) ?_ ?_
        · rintro j x2 Hj hxj ⟨hS, us2, hLj, hR⟩
          obtain ⟨it2, hit, hio2⟩ := g3.get hxj
          have tk2 : its.take (j + 1) = its.take j ++ [it2] := by
            rw [List.take_add_one, hit]; rfl
          have il : j < vs.length := (List.getElem?_eq_some_iff.mp hxj).1
          have ul : us2.length = j := by rw [hR.len, List.length_take]; omega
          refine ⟨rfl, _, rfl, x2, it2, rfl, hio2.keep (.same hS), wi.1.get hit, fun u H' S' hr' => ?_⟩
          refine ⟨us2, S' _ _ hLj, by rw [ul]; have h6 : its.length ≤ 6 := wi.2.1; show j < 16777216; omega, fun b o e => ?_, us2 ++ [u], upd_same, ?_⟩
          · rw [upd_ne (ne_of_none e hL2)]
            exact S' _ _ (hS _ _ e)
          · rw [tk2]
            refine Rps.app (Rps.mono (fun b h => h) (fun b o nb h => ?_) _ us2 hR) (.cons (Rp.mono (fun b h => ?_) (fun b o nb h => ?_) it2 u hr') .nil)
            · have bL : b ≠ L2 := fun z => nb (.inl z)
              rw [upd_ne bL]
              exact S' _ _ h
            · rcases h with rfl | h
              · rw [hLj]; exact Option.some_ne_none _
              · intro z
                cases e : H3 b with
                | none => exact h e
                | some o => rw [hS _ _ e] at z; cases z
            · have bL : b ≠ L2 := fun z => nb (by rw [z, hLj]; exact Option.some_ne_none _)
              rw [upd_ne bL]
              exact h
        · rintro Hj ⟨hS, us2, hLj, hR⟩
          have tl : its.take vs.length = its := List.take_of_length_le (by omega)
          rw [tl] at hR
          refine ⟨(by show 2 ≤ sizeLine; decide), fun t2 ht2 => ?_⟩
          have S2 : Same Hj (upd Hj t2 (.tup [.ref q, .ref L2])) := same_new ht2
          have eA : Ext Hk (upd Hj t2 (.tup [.ref q, .ref L2])) := (e3.trans hS).trans S2
          have hLA := eA _ _ hLk
          have L12 : L ≠ L2 := fun z => by rw [← z, hL3] at hL2; cases hL2
          have rl := hE.len
          have L1n : H1 L = none := hL
          refine ⟨rs, hLA, ?_, ?_, rs ++ [.ref t2], upd_same, ?_⟩
          · rw [rl, List.length_take]
            have := (List.getElem?_eq_some_iff.mp hyi).1
            have h9 := hpr.1
            have h8 := (sortP_perm (D.bs.map (·.1))).length_eq
            rw [List.length_map] at h8
            have h7 := hw.z
            show _ < 16777216
            omega
          · intro a2 o2 e2
            rw [upd_ne (ne_of_none e2 L1n)]
            exact eA _ _ (eK _ _ e2)
          · rw [tk]
            have kT : ∀ a xs, upd Hj t2 (.tup [.ref q, .ref L2]) a = some (.tup xs) → upd (upd Hj t2 (.tup [.ref q, .ref L2])) L (.lst (rs ++ [.ref t2])) a = some (.tup xs) := fun a xs h => by rw [upd_ne (ne_of h hLA (by intro z; cases z))]; exact h
            have kL : ∀ a xs, ¬(a = L ∨ H1 a ≠ none) → upd Hj t2 (.tup [.ref q, .ref L2]) a = some (.lst xs) → upd (upd Hj t2 (.tup [.ref q, .ref L2])) L (.lst (rs ++ [.ref t2])) a = some (.lst xs) := fun a xs n h => by rw [upd_ne (fun z => n (.inl z))]; exact h
            refine (hE.keep (fun _ z => z) (fun a xs h => kT _ _ (eA _ _ h)) (fun a xs n h => kL _ _ n (eA _ _ h))).app (.cons (fun z => z.elim (fun z => L12 z.symm) (fun z => z n12)) (kT _ _ upd_same) (kT _ _ (eA _ _ (eK _ _ hq))) (kL _ _ (fun z => z.elim (fun z => L12 z.symm) (fun z => z n12)) (S2 _ _ hLj)) ?_ .nil)
            refine Rps.mono2 (B := fun b => b = L2 ∨ H3 b ≠ none) (fun b h => .inr ?_) (fun a xs n => ⟨fun h => kT _ _ (S2 _ _ h), fun h => ?_⟩) _ _ hR
            · rcases h with rfl | h
              · rw [hL3]; exact Option.some_ne_none _
              · intro z
                cases e9 : H1 b with
                | none => exact h e9
                | some o => rw [(eK.trans e3) _ _ e9] at z; cases z
            · have aL : a ≠ L := fun z => n (.inr (by rw [z, hL3]; exact Option.some_ne_none _))
              rw [upd_ne aL]
              exact S2 _ _ h
    case fine =>
      rintro Hk ⟨eK, rs, hLk, hE⟩
      have lr : us.length = (rowsOf D.bs).length := by
        unfold rowsOf
        rw [List.length_map, hpr.1]
      rw [lr, List.take_length] at hE
      have hbk := hb1.ext eK
      refine ⟨_, rfl, x, dx, _, rfl, hbk.i, x, dx, r, d, kvs, D, rfl, hbk, ?_⟩
      refine ⟨_, rfl, x, dx, _, rfl, hbk.i, x, dx, r, d, kvs, D, rfl, hbk, ?_⟩
      refine ⟨_, rfl, x, dx, _, rfl, hbk.i, x, dx, r, d, kvs, D, rfl, hbk, hw, fun tm ms H5 e5 htm hms am => ?_⟩
      have hb5 := hbk.ext e5
      refine ⟨_, rfl, x, dx, _, rfl, hb5.i, x, dx, r, d, kvs, D, rfl, hb5, hw, fun tk ks H6 e6 htk hks ak => ?_⟩
      refine ⟨_, rfl, (by show 5 ≤ 16777216; omega), fun R hR => ?_⟩
      have e7 : Ext H6 (upd H6 R (.lst [.str D.f, .ref r, .ref tm, .ref tk, .ref L])) := Ext.upd hR
      have eA := (e5.trans e6).trans e7
      have hb7 := hbk.ext eA
      refine k R ms ks _ ((e1.trans eK).trans eA) am ak (.lst (SqL.of upd_same) (.cons (.str _) (.cons (.tup (SqT.of hb7.r) (strs_dp _)) (.cons (.tup (SqT.of ((e6.trans e7) _ _ hms)) (strs_dp _)) (.cons (.tup (SqT.of (e7 _ _ hks)) (strs_dp _)) (.cons (.lst (SqL.of (eA _ _ hLk)) ?_) .nil))))))
      exact (hE.keep (fun _ z => z) (fun a xs h => eA _ _ h) (fun a xs _ h => eA _ _ h)).dp
end
end KP
end

section
set_option Elab.async false
set_option linter.all false
set_option maxRecDepth 100000
set_option maxHeartbeats 4000000
/-! what is due of a plain book -/
namespace KP
open PySem PySem.Spec PyProof.Rows L2 Pn StX
abbrev sDue : Stmt := top 95
mutual
theorem Rp_live {B : Addr → Prop} {H : Hp} : ∀ (i : Itm) (v : V), Rp B H v i → Rp (fun b => H b = none) H v i
  | .say _, _, h => by cases h with | say n h => exact .say (fun z => by rw [h] at z; cases z) h
  | .press _, _, h => by cases h with | press n h => exact .press (fun z => by rw [h] at z; cases z) h
  | .go _, _, h => by cases h with | go n h => exact .go (fun z => by rw [h] at z; cases z) h
  | .times _ its, _, h => by cases h with | times n m h g r => exact .times (fun z => by rw [h] at z; cases z) (fun z => by rw [g] at z; cases z) h g (Rps_live its _ r)
theorem Rps_live {B : Addr → Prop} {H : Hp} : ∀ (is : List Itm) (vs : List V), Rps B H vs is → Rps (fun b => H b = none) H vs is
  | [], _, h => by cases h; exact .nil
  | i :: is, _, h => by cases h with | cons h1 h2 => exact .cons (Rp_live i _ h1) (Rps_live is _ h2)
end
theorem PlB.live {B : Addr → Prop} {H : Hp} : ∀ {kvs : List (List Key × V)} {bs : List PB}, PlB B H kvs bs → PlB (fun b => H b = none) H kvs bs
  | _, _, .nil => .nil
  | _, _, .cons n h r q => .cons (fun z => by rw [h] at z; cases z) h (Rps_live _ _ r) q.live
theorem PbAt.live {B : Addr → Prop} {H : Hp} {o l d : Addr} {kvs : List (List Key × V)} {D : BkD} (h : PbAt B H o l d kvs D) : PbAt (fun b => H b = none) H o l d kvs D :=
  ⟨(fun z => by rw [h.i] at z; cases z), (fun z => by rw [h.r] at z; cases z), (fun z => by rw [h.d] at z; cases z), h.i, h.r, h.d, h.b.live, h.n⟩
theorem PlB.bval {B : Addr → Prop} {H : Hp} : ∀ {kvs : List (List Key × V)} {bs : List PB} (p : PySem.Str × PySem.Str), PlB B H kvs bs → (valV kvs (keyP p) = none ∧ KP.bval bs p = none) ∨ ∃ L vs its, valV kvs (keyP p) = some (.ref L) ∧ KP.bval bs p = some its ∧ ¬B L ∧ H L = some (.lst vs) ∧ Rps B H vs its
  | _, _, p, .nil => .inl ⟨rfl, rfl⟩
  | _, _, p, .cons (p := p0) (L := L) (vs := vs) (its := its) (kvs := kvs) (bs := bs) n h r q => by
    have ih := q.bval p
    by_cases e : p0 = p
    · subst e
      exact .inr ⟨L, vs, its, valV_pos rfl, by unfold KP.bval; rw [List.find?_cons, show decide (((p0, its) : PB).1 = p0) = true from decide_eq_true rfl]; rfl, n, h, r⟩
    · have ne : keyP p0 ≠ keyP p := fun z => e (keyP_inj z)
      have e2 : KP.bval ((p0, its) :: bs) p = KP.bval bs p := by unfold KP.bval; rw [List.find?_cons, show decide (((p0, its) : PB).1 = p) = false from decide_eq_false e]
      rw [valV_neg ne, e2]
      exact ih
theorem asc_fact {P : Program} {w : World} {H : Hp} {a p t : Addr} {L xs ys : List PySem.Str} (ha : H a = none) (hp : upd H a (SetTx P w a L) p = none) (ht : upd (upd H a (SetTx P w a L)) p (.lst (ys.map V.str)) t = none) (nL : L.Nodup) (mL : ∀ x, x ∈ L ↔ x ∈ xs) (pm : ys.Perm L) (st : sortedS ys = true) :
    Ext H (upd (upd (upd H a (SetTx P w a L)) p (.lst (ys.map V.str))) t (.tup (ys.map V.str))) ∧ H t = none ∧ upd (upd (upd H a (SetTx P w a L)) p (.lst (ys.map V.str))) t (.tup (ys.map V.str)) t = some (.tup (ys.map V.str)) ∧ Asc ys xs := by
  refine ⟨((Ext.upd ha).trans (Ext.upd hp)).trans (Ext.upd ht), ?_, upd_same, ⟨pm.nodup_iff.mpr nL, st, fun x => (pm.mem_iff).trans (mL x)⟩⟩
  cases e : H t with
  | none => rfl
  | some o =>
    have := ((Ext.upd (o := SetTx P w a L) ha).trans (Ext.upd (o := .lst (ys.map V.str)) hp)) t o e
    have z : some o = none := this.symm.trans ht
    exact z
theorem set_small {L xs : List PySem.Str} (nL : L.Nodup) (mL : ∀ x, x ∈ L ↔ x ∈ xs) (ld : (dd xs).length < 64) : L.length < 64 := by
  have := sub_len L (dd xs) nL (fun x m => (dd_mem _ x).mpr ((mL x).mp m)); omega
def spDue (K : PySem.W.Frag) : Sp := fun vs H Q _ => ∃ o l d kvs D W3 Bp, vs = [.ref o] ∧ PbAt Bp H o l d kvs D ∧ PbD W3 D ∧
  ∀ R ys ms ks H', Ext H H' → Asc ys D.rs → Asc ms (mlist D.f D.rs D.bs) → Asc ks (D.bs.map (·.1.2)) → Dp K H' (.ref R) (bookD D.f ys ms ks (rowsOf D.bs)) → Q (.ref R) H'
section
variable {P : Program} {w : World} {K : PySem.W.Frag} {mg : Str → Option Value} {base : Heap}
theorem scDue : FnScope ["_law_one", "_law_pairs", "_law_keys", "_law_pair"] ["_law_one"] (defScope sDue) := ⟨rfl, rfl, rfl, by decide +kernel, rfl, by decide +kernel, by decide +kernel⟩
theorem ok_due {f fG fM : Addr} {fd fdG fdM : FuncData} (F : Fun K "_law_due" "_law_due" sDue f fd) (T1 : Blt mg) (TG : BltG mg) (FG : Fun K "_law_gone" "_law_gone" sGone fG fdG) (bG : Binds K fdG ["_law_items_here"] []) (gG : Fn K mg "_law_gone" fG)
    (FM : Fun K "_law_modes" "_law_modes" sLModes fM fdM) (bM : Binds K fdM ["_law_one"] []) (gM : Fn K mg "_law_modes" fM) : FnOk P w K mg base CX0 6 f fd ["_law_one"] (spDue K) := by
  have GM : FnOk P w K mg base CX0 5 fM fdM ["_law_one"] (spLModes K) := ok_lModes FM T1 TG FG bG gG
  refine F.ok scDue (fun vs H Q E h => ?_) (fun cdv A outer s H vs Q E hr h => ?_)
  · obtain ⟨o, l, d, kvs, D, W3, Bp, rfl, _⟩ := h
    rfl
  · obtain ⟨o, l, d, kvs, D, W3, Bp, rfl, hb0, hD, k⟩ := h
    have hb := hb0.live
    have hr5 : Room 5 _ := hr
    have hu := hu_of hr
    refine ⟨_, pss_cons (ps_set (i := 1) scDue.nd rfl (Or.inl rfl) (pe_callB (cr_sortDT rfl hr.units) (by rfl) TG.sorted (by decide +kernel) (pa_cons (pe_ix ix_tup (pv 0) pe_int (fun _ _ => rfl)) pa_nil)))
      (pss_cons (ps_set (i := 2) scDue.nd rfl (Or.inl rfl) (pe_callTy (T := "tuple") call_tuple_of (by rfl) TG.tuple (by decide +kernel) (pa_cons (pe_callB (cr_sortedTx rfl) (by rfl) TG.sorted (by decide +kernel) (pa_cons (pe_callTy (T := "set") (cr_setTx rfl) (by rfl) TG.set (by decide +kernel) (pa_cons (pe_lock (pe_lc (own := [("_law_pair", 3)]) (g := gName 3) (tt := tYes) rfl scDue.nd (pi_keys (pe_ix ix_tup (pv 0) pe_int (fun _ _ => rfl))) (blkOk_by (N := ["_law_one", "_law_pairs", "_law_keys", "_law_pair"]) (sc := defScope sDue) (by decide +kernel)) (fun _ _ _ _ _ => pg_name (i := 3) scDue.nd rfl (Or.inl rfl)) (fun _ _ _ _ _ => pts_nil) (fun _ _ _ _ _ => pe_ix (r := rIxT K) ix_tup (pv 3) pe_int (fun _ _ => rfl)))) pa_nil)) pa_nil)) pa_nil)))
      (pss_one (ps_ret (pe_lst (pa_cons (pe_ix ix_tup (pv 0) pe_int (fun _ _ => rfl)) (pa_cons (pe_callTy (T := "tuple") call_tuple_of (by rfl) TG.tuple (by decide +kernel) (pa_cons (pe_callB (cr_sortedTx rfl) (by rfl) TG.sorted (by decide +kernel) (pa_cons (pe_callTy (T := "set") (cr_setTx rfl) (by rfl) TG.set (by decide +kernel) (pa_cons (pe_ix ix_tup (pv 0) pe_int (fun _ _ => rfl)) pa_nil)) pa_nil)) pa_nil))
        (pa_cons (pe_call GM hr5 rfl gM.g gM.k bM .nil pass0 (pa_cons (pv 0) pa_nil)) (pa_cons (pv 2) (pa_cons (pe_lc (own := [("_law_pair", 3)]) (g := gName 3) (tt := tYes) rfl scDue.nd (pi_list (pv 1)) (blkOk_by (N := ["_law_one", "_law_pairs", "_law_keys", "_law_pair"]) (sc := defScope sDue) (by decide +kernel)) (fun _ _ _ _ _ => pg_name (i := 3) scDue.nd rfl (Or.inl rfl)) (fun _ _ _ _ _ => pts_nil) (fun _ _ _ _ _ => pe_tup (pa_cons (pv 3) (pa_cons (pe_dget hu (pe_ix (r := rIxT K) ix_tup (pv 0) pe_int (fun _ _ => rfl)) (pv 3) (fun _ _ => rfl)) pa_nil)))) pa_nil))))))))), ?_⟩
    have ln := hb.b.len
    have bl := hD.bl
    refine ⟨_, rfl, o, _, 2, _, rfl, rfl, SqT.of hb.i, atI_nat rfl, d, kvs, (D.bs.map (·.1)).map encP, rfl, .inl hb.d, encP_alike _, encP_sort _, encP_depth _, by omega, fun K' bs ik => prs_dp (prs_keys ik hb.b.keys), fun pp bs hpp ik => ?_⟩
    have pr0 := prs_keys ik hb.b.keys
    have prS := pr0.sort
    generalize ((((bs.map V.ref).zip ((D.bs.map (·.1)).map encP)).mergeSort (PySem.W.dataLe false (·.2))).map (·.1)) = us at prS ⊢
    have e1 : Ext H (upd H pp (.lst us)) := Ext.upd hpp
    have hus : upd H pp (.lst us) pp = some (.lst us) := upd_same
    have prS1 := prS.mono (fun q xs z => e1 q _ z)
    have hb1 := hb.ext e1
    generalize upd H pp (.lst us) = H1 at e1 hus prS1 hb1 ⊢
    -- keys
    have od1 : o ≠ d := ne_of hb1.i hb1.d (by intro z; cases z)
    refine ⟨d, _, hb1.d, trivial, fun od => ?_⟩
    refine ⟨_, rfl, o, _, 2, _, rfl, rfl, SqT.of (by rw [upd_ne od1]; exact hb1.i), atI_nat rfl, d, od, rfl, .inr ⟨kvs, upd_same, fun L hL => lc_it (walk_keysT (d := d) (o := od)) (fun i Hk => Hk = upd (upd H1 d (.frz od (.dT kvs))) L (.lst ((D.bs.take i).map fun p => V.str p.1.2))) rfl (fun i Hk _ e => ?hG) ?turn ?fine⟩⟩
    case hG => rw [e, upd_ne (fun z => by rw [← z, upd_same] at hL; cases hL), upd_same]
    case turn =>
      rintro i x Hk H' lt hP ⟨rfl, kk, v, q, e, rfl, hq⟩
      obtain ⟨p, its, L2, vs2, ep, rfl, rfl, h2, hR⟩ := hb1.b.get e
      refine ⟨rfl, _, rfl, q, _, 1, _, rfl, rfl, SqT.of hq, atI_nat rfl, _, by rw [hP]; exact upd_same, ?_, ?_⟩
      · rw [List.length_map, List.length_take]
        show _ < 16777216
        omega
      · rw [hP, upd_upd, List.take_add_one, ep, List.map_append]
        rfl
    case fine =>
      rintro Hk hP
      have dL : d ≠ L := fun z => by rw [← z, upd_same] at hL; cases hL
      have hLn : H1 L = none := by rw [upd_ne (fun z => dL z.symm)] at hL; exact hL
      rw [ln, List.take_length] at hP
      refine ⟨by rw [hP, upd_ne dL, upd_same], ?_⟩
      have e2 : upd Hk d (.dT kvs) = upd H1 L (.lst ((D.bs.map (·.1.2)).map V.str)) := by
        funext c
        rw [hP]
        by_cases c1 : c = d
        · subst c1
          rw [upd_same, upd_ne dL, hb1.d]
        · rw [upd_ne c1]
          by_cases c2 : c = L
          · rw [c2, upd_same, upd_same, List.map_map]; rfl
          · rw [upd_ne c2, upd_ne c2, upd_ne c1]
      rw [e2]
      have eA : Ext H1 (upd H1 L (.lst ((D.bs.map (·.1.2)).map V.str))) := Ext.upd hLn
      have kl : (dd (D.bs.map (·.1.2))).length ≤ (D.bs.map (·.1.2)).length := dd_le fun x m => m
      rw [List.length_map] at kl
      refine ⟨L, D.bs.map (·.1.2), rfl, .inl (SqL.of upd_same), by rw [List.length_map]; omega, fun sa La hsa lLa nLa mLa => ⟨sa, La, rfl, upd_same, set_small nLa mLa (by omega), fun ks sp pms sts hsp => ⟨sp, ks.map V.str, rfl, .inl ⟨SqL.of upd_same, fun tk htk0 => ?_⟩⟩⟩⟩
      obtain ⟨eB, htk, hks, ak⟩ := asc_fact hsa hsp htk0 nLa mLa pms sts
      generalize upd (upd (upd (upd H1 L (.lst ((D.bs.map (·.1.2)).map V.str))) sa (SetTx P w sa La)) sp (.lst (ks.map V.str))) tk (.tup (ks.map V.str)) = H2 at eB hks ⊢
      have e12 := eA.trans eB
      have hb2 := hb1.ext e12
      have hus2 := e12 _ _ hus
      have prS2 := prS1.mono (fun q xs z => e12 q _ z)
      have d3 := hD.dd3
      have lr : (dd D.rs).length ≤ (dd (mlist D.f D.rs D.bs)).length := dd_le fun z m => (dd_mem _ z).mpr (by
        unfold mlist
        exact List.mem_append_left _ (List.mem_append_right _ m))
      have rl := hD.rl
      refine ⟨_, rfl, o, _, 0, _, rfl, rfl, SqT.of hb2.i, atI_nat rfl, _, rfl, o, _, 1, _, rfl, rfl, SqT.of hb2.i, atI_nat rfl, ?_⟩
      refine ⟨l, D.rs, rfl, .inl (SqL.of hb2.r), by omega, fun sa2 La2 hsa2 lLa2 nLa2 mLa2 => ⟨sa2, La2, rfl, upd_same, set_small nLa2 mLa2 (by omega), fun ys sp2 pms2 sts2 hsp2 => ⟨sp2, ys.map V.str, rfl, .inl ⟨SqL.of upd_same, fun ty hty0 => ?_⟩⟩⟩⟩
      obtain ⟨e3, hty, hys, ay⟩ := asc_fact hsa2 hsp2 hty0 nLa2 mLa2 pms2 sts2
      generalize upd (upd (upd H2 sa2 (SetTx P w sa2 La2)) sp2 (.lst (ys.map V.str))) ty (.tup (ys.map V.str)) = H3 at e3 hys ⊢
      have hb3 := hb2.ext e3
      refine ⟨_, rfl, o, l, d, kvs, D, _, rfl, hb3, hD.ok, hD.len, by omega, fun tm ms H4 e4 htm hms am => ?_⟩
      have hb4 := hb3.ext e4
      have e24 := e3.trans e4
      have prS4 := prS2.mono (fun q xs z => e24 q _ z)
      refine ⟨_, rfl, _, rfl, pp, rfl, ⟨_, SqL.of (e24 _ _ hus2)⟩, fun L5 hL5 => ?_⟩
      have hb5 := hb4.live
      refine lc_list (xs := us) (fun i Hk => Ext H4 Hk ∧ ∃ rs, Hk L5 = some (.lst rs) ∧ ShE (fun b => b = L5) Hk rs ((rowsOf D.bs).take i)) ⟨Ext.upd hL5, [], upd_same, by rw [List.take_zero]; exact .nil⟩ (fun i Hk _ hk => SqL.of (hk.1 _ _ (e24 _ _ hus2))) ?_ ?_
      · rintro i y Hk5 hyi ⟨eK, rs, hLk, hE⟩
        obtain ⟨p, q, hpi, rfl, hq⟩ := prS4.get hyi
        have pm : p ∈ D.bs.map (·.1) := (sortP_perm _).mem_iff.mp (List.mem_of_getElem? hpi)
        have hbk := hb5.mono (B' := fun b => H4 b = none) (H' := Hk5) (fun _ z => z) (fun a o _ e => eK a o e)
        rcases hbk.b.bval p with ⟨_, z⟩ | ⟨L2, vs2, its, v1, v2, nL2, h2, hR⟩
        · exact absurd z (bval_mem pm)
        · have row : (rowsOf D.bs)[i]? = some (p, its) := by
            unfold rowsOf
            rw [List.getElem?_map, hpi]
            show some (p, (bval D.bs p).getD []) = _
            rw [v2]
            rfl
          have tk5 : (rowsOf D.bs).take (i + 1) = (rowsOf D.bs).take i ++ [(p, its)] := by rw [List.take_add_one, row]; rfl
          have rl5 := hE.len
          refine ⟨rfl, _, rfl, _, rfl, o, _, 2, _, rfl, rfl, SqT.of hbk.i, atI_nat rfl, _, rfl, d, .ref L2, rfl, ?_, (by show 2 ≤ sizeLine; decide), fun t2 ht2 => ?_⟩
          · rw [← v1]
            exact DGet.t (k := keyP p) hbk.d (eK _ _ hq)
          · have S2 : Ext Hk5 (upd Hk5 t2 (.tup [.ref q, .ref L2])) := Ext.upd ht2
            have hLA := S2 _ _ hLk
            have L25 : L2 ≠ L5 := fun z => nL2 (by rw [z]; exact hL5)
            refine ⟨rs, hLA, ?_, ?_, rs ++ [.ref t2], upd_same, ?_⟩
            · rw [rl5, List.length_take]
              have := (List.getElem?_eq_some_iff.mp hyi).1
              have h9 := prS4.1
              have h8 := (sortP_perm (D.bs.map (·.1))).length_eq
              rw [List.length_map] at h8
              show _ < 16777216
              omega
            · intro a2 o2 e2
              rw [upd_ne (ne_of_none e2 hL5)]
              exact S2 _ _ (eK _ _ e2)
            · rw [tk5]
              have kT : ∀ a xs, upd Hk5 t2 (.tup [.ref q, .ref L2]) a = some (.tup xs) → upd (upd Hk5 t2 (.tup [.ref q, .ref L2])) L5 (.lst (rs ++ [.ref t2])) a = some (.tup xs) := fun a xs h => by rw [upd_ne (ne_of h hLA (by intro z; cases z))]; exact h
              have kL : ∀ a xs, ¬(a = L5) → upd Hk5 t2 (.tup [.ref q, .ref L2]) a = some (.lst xs) → upd (upd Hk5 t2 (.tup [.ref q, .ref L2])) L5 (.lst (rs ++ [.ref t2])) a = some (.lst xs) := fun a xs n h => by rw [upd_ne n]; exact h
              refine (hE.keep (fun _ z => z) (fun a xs h => kT _ _ (S2 _ _ h)) (fun a xs n h => kL _ _ n (S2 _ _ h))).app (.cons L25 (kT _ _ upd_same) (kT _ _ (S2 _ _ (eK _ _ hq))) (kL _ _ L25 (S2 _ _ h2)) ?_ .nil)
              refine Rps.mono2 (B := fun b => H4 b = none) (fun b h => by rw [h]; exact hL5) (fun a xs n => ⟨fun h => kT _ _ (S2 _ _ h), fun h => ?_⟩) _ _ hR
              have aL : a ≠ L5 := fun z => n (by rw [z]; exact hL5)
              rw [upd_ne aL]
              exact S2 _ _ h
      · rintro Hk5 ⟨eK, rs, hLk, hE⟩
        have lr5 : us.length = (rowsOf D.bs).length := by
          unfold rowsOf
          rw [List.length_map, prS4.1]
        rw [lr5, List.take_length] at hE
        refine ⟨(by show 5 ≤ 16777216; omega), fun R hR => ?_⟩
        have e7 : Ext Hk5 (upd Hk5 R (.lst [.str D.f, .ref ty, .ref tm, .ref tk, .ref L5])) := Ext.upd hR
        have e47 := eK.trans e7
        refine k R ys ms ks _ ((((e1.trans e12).trans e24).trans e47)) ay am ak (.lst (SqL.of upd_same) (.cons (.str _) (.cons (.tup (SqT.of ((e4.trans e47) _ _ hys)) (strs_dp _)) (.cons (.tup (SqT.of (e47 _ _ hms)) (strs_dp _)) (.cons (.tup (SqT.of ((e24.trans e47) _ _ hks)) (strs_dp _)) (.cons (.lst (SqL.of (e7 _ _ hLk)) ?_) .nil))))))
        exact (hE.keep (fun _ z => z) (fun a xs h => e7 _ _ h) (fun a xs _ h => e7 _ _ h)).dp
end
end KP
end

section
set_option Elab.async false
set_option linter.all false
set_option maxRecDepth 100000
set_option maxHeartbeats 4000000
/-! what the law tells of book[value] -/
namespace KP
open PySem PySem.Spec PyProof.Rows L2 Pn StX
abbrev sAtB : Stmt := top 96
def spAtB (K : PySem.W.Frag) (c : Cs) (cb : Addr) : Sp := fun vs H Q _ => ∃ x dx r d kvs D y e, vs = [.ref x, y] ∧ Bk c cb H x dx r d kvs D ∧ BsW D.bs ∧ Val K H y e ∧ e.showable = true ∧ e.depth ≤ 30 ∧ e.shown.length ≤ 1000000 ∧ inB (D.bs.map (·.1)) e = false ∧
  ∀ q H', Ext H H' → H' q = some (.tup [.str "unknown", .str e.shown, .bl true]) → Q (.ref q) H'
section
variable {P : Program} {w : World} {K : PySem.W.Frag} {mg : Str → Option Value} {base : Heap} {c : Cs} {cb CO : Addr}
variable {fM fG fAs fK pE fE fW fA fP fCm fCs fCb fX fL fWb fC fI : Addr} {dM dG dAs dK dE dW dA dP dCm dCs dCb dX dL dWb dC dI : FuncData} {dvs : List V} {kws : List (PySem.Str × V)}
variable {pF fF pR fR pM fMd pB fBd pS fSt gG : Addr} {dF dR dMd dBd dSt dGt : FuncData}
theorem scAtB : FnScope ["_law_book_here", "_law_value", "_law_one", "e"] ["_law_book_here", "_law_value"] (defScope sAtB) := ⟨rfl, rfl, rfl, by decide +kernel, rfl, by decide +kernel, by decide +kernel⟩
theorem ok_atB {f fPl : Addr} {fd fdPl : FuncData} (F : Fun K "_law_at" "_law_at" sAtB f fd) (N : BkN K mg c) (Y : BkF K mg c fW fA fP fCm fCs fCb fX fL fWb dW dA dP dCm dCs dCb dX dL dWb) (Z : LimF K mg c fM fG fAs fK pE fE dM dG dAs dK dE) (BT : BkT K mg cb) (CT : ConT K cb fC dC) (O : UnkT K mg CO) (BP : BkP K cb pF fF pR fR pM fMd pB fBd pS fSt gG dF dR dMd dBd dSt dGt)
    (GPl : FnOk P w K mg base CX0 5 fPl fdPl ["_law_item_here"] (spPlain c 2)) (bPl : Binds K fdPl ["_law_item_here"] []) (gPl : Fn K mg "_law_plain" fPl) : FnG P w K mg base CX0 8 f fd ["_law_book_here", "_law_value"] (spAtB K c cb) := by
  have GG : FnOk P w K mg base (L2.CX P w) 5 gG dGt ["self", "pair"] (spGetB K c cb CO) := ok_getB BP.FG N Y BT CT O
  have GE : FnOk P w K mg base CX0 1 fE dE ["self"] (spEnt c) := ok_ent Z.FE N.B
  refine F.okG scAtB (fun vs H Q E h => ?_) (fun cdv A outer s H vs Q E hg hr h => ?_)
  · obtain ⟨x, dx, r, d, kvs, D, y, e, rfl, _⟩ := h
    rfl
  · obtain ⟨x, dx, r, d, kvs, D, y, e, rfl, hb, hw, hv, hs, hd, hz, hin, qO⟩ := h
    have hr6 : Room 6 _ := hr.mono (by decide)
    have hr5 : Room 5 _ := hr.mono (by decide)
    have hr2 : Room 2 _ := hr.mono (by decide)
    have nd : (["_law_book_here", "_law_value", "_law_one", "e"] : List PySem.Str).Nodup := by decide +kernel
    refine ⟨_, pss_one (ps_try_manyAs rfl rfl nd takes0 (fun W pn xe tk _ => pss_one (ps_ret (pe_lc (own := [("_law_one", 2)]) (g := gName 2) (tt := tYes) rfl nd (show PI _ _ _ (iTup K (tProp c.body (spEnt c) [] (fun _ _ _ => False) (tOp (rIxO cb (spGetB K c cb CO) (fun cls d H => ∀ σ : L2.St, σ.length = 4 → W cls d σ H)) (tVar 0) (tVar 1)))) from pi_tup (pe_prop (pe_ixO BP.iG GG hr6 BP.bG (passes_call (takes_len tk) (E := fun cls d H => ∀ σ : L2.St, σ.length = 4 → W cls d σ H) (fun _ _ σ _ h => h σ)) (pv 0) (pv 1) (fun _ _ => by with_unfolding_all rfl)) N.B.body.cl Z.gE GE hr2 Z.bE .nil pass0 rfl)) (blkOk_by (N := ["_law_book_here", "_law_value", "_law_one", "e"]) (sc := defScope sAtB) (by decide +kernel)) (fun _ _ _ _ _ => pg_name (i := 2) nd rfl (Or.inl rfl)) (fun _ _ _ _ _ => pts_nil)
        (fun _ _ _ _ _ => pe_call GPl hr5 rfl gPl.g gPl.k bPl .nil pass0 (pa_cons (pv 2) pa_nil)))))
      (.cons (i := 3) ⟨rfl, by decide, .inl O.g⟩ rfl rfl (fun a oe cls d pn hz hf => pss_one (ps_ret (pe_tup (pa_cons pe_str (pa_cons (pe_callB (r := rReprB K) (call_reprB hg hr.units) (by rfl) N.T1.repr (by decide +kernel) (pa_cons (pe_xf O.xf O.no hz hf (pv 3)) pa_nil)) (pa_cons (pe_callB (call_isS hz hf) (by rfl) N.T1.isi (by decide +kernel) (pa_cons (pv 3) (pa_cons (pe_bltn (v := .ty "LookupError") (by rfl) O.b (by decide +kernel) rfl) pa_nil))) pa_nil)))))) .nil)), ?_⟩
    obtain ⟨bmB, newId, ek⟩ := O.ex
    refine ⟨_, rfl, _, rfl, x, dx, _, rfl, hb.i, x, dx, r, d, kvs, D, y, e, rfl, hb, hw, hv, fun _ H' dd S' hdd σ hσ => ?_, fun a b its v H' ee eb _ _ => ?_⟩
    · have four : ∃ u v z t, σ = [u, v, z, t] := by
        match σ, hσ with
        | [u, v, z, t], _ => exact ⟨u, v, z, t, rfl⟩
      obtain ⟨u, v, z, t, rfl⟩ := four
      have l1 : ∀ (f : PySem.Str) (y : V), List.lookup f [(f, y)] = some y := fun f y => by simp [List.lookup]
      have S2 : Same H (upd H' dd (.xd [("value", y)])) := S'.trans (same_new hdd)
      exact ⟨true, O.em, fun _ a2 ha2 => ⟨_, rfl, rfl, rfl, dd, _, y, rfl, upd_same, l1 _ _, y, e, rfl, Dq.same S2 hv.q, hs, hd, hz, _, rfl, CO, dd, _, bmB, newId, _, _, true, rfl, rfl, ek, rfl, upd_same, .ty _, O.kit, (by show 3 ≤ sizeLine; decide), fun t ht => qO t _ (S2.trans (same_new ht)) upd_same⟩, fun z => absurd z (by decide)⟩
    · exfalso
      rw [ee] at hin
      have m : (a, b) ∈ D.bs.map (·.1) := List.mem_map.mpr ⟨_, bval_in eb, rfl⟩
      have : decide ((a, b) ∈ D.bs.map (·.1)) = false := hin
      rw [decide_eq_true m] at this
      cases this
end
end KP
end

section
set_option Elab.async false
set_option linter.all false
set_option maxRecDepth 100000
set_option maxHeartbeats 4000000
/-! what is shown of books, as data -/
namespace KP
open PySem PySem.Spec PyProof.Rows L2 Pn StX
theorem textFrom_le : ∀ (ts : List PySem.Str) (k : Nat) (acc : PySem.Str), (textFrom k acc ts).length ≤ acc.length + piled ts
  | [], k, acc => by rw [textFrom]; exact Nat.le_add_right _ _
  | t :: ts, k, acc => by
    have h := textFrom_le ts (k + 1) (acc ++ (if k > 0 then ", " else "" : String) ++ t)
    have e : (acc ++ ((if k > 0 then ", " else "" : String) : PySem.Str) ++ t).length = acc.length + ((if k > 0 then ", " else "" : String) : PySem.Str).length + t.length := by rw [Str.length_append, Str.length_append]
    have l : ((if k > 0 then ", " else "" : String) : PySem.Str).length ≤ 2 := by
      split
      · decide +kernel
      · decide +kernel
    rw [textFrom, piled_cons]
    omega
theorem listText_le (ts : List PySem.Str) : (listText ts).length ≤ piled ts + 2 := by
  have h := textFrom_le ts 0 "["
  have e1 : ("[" : PySem.Str).length = 1 := by decide +kernel
  have e2 : ("]" : PySem.Str).length = 1 := by decide +kernel
  unfold listText
  rw [Str.length_append]
  omega
theorem join_le : ∀ ts : List PySem.Str, (Str.join ", " ts).length ≤ piled ts
  | [] => by show (PySem.Str.empty).length ≤ _; exact Nat.zero_le _
  | t :: ts => by
    have h := join_length_add (t :: ts) (by simp)
    omega
theorem tupleText_le (ts : List PySem.Str) : (tupleText ts).length ≤ piled ts + 3 := by
  have h := join_le ts
  have e1 : ("(" : PySem.Str).length = 1 := by decide +kernel
  have l : ((if ts.length == 1 then ",)" else ")" : String) : PySem.Str).length ≤ 2 := by
    split
    · decide +kernel
    · decide +kernel
  unfold tupleText
  rw [Str.length_append, Str.length_append]
  omega
theorem piled_le (b : Nat) : ∀ ts : List PySem.Str, (∀ t ∈ ts, t.length ≤ b) → piled ts ≤ ts.length * (b + 2)
  | [], _ => Nat.zero_le _
  | t :: ts, h => by
    have := piled_le b ts (fun x m => h x (List.mem_cons_of_mem _ m))
    have := h t List.mem_cons_self
    rw [piled_cons, List.length_cons, Nat.succ_mul]
    omega
theorem shownAll_map {α : Type} (f : α → PyData) : ∀ l : List α, PyData.shownAll (l.map f) = l.map fun x => (f x).shown
  | [] => by simp [PyData.shownAll]
  | x :: l => by rw [List.map_cons, PyData.shownAll, shownAll_map f l, List.map_cons]
theorem shown_w {z : PySem.Str} (h : Wd z) : (PyData.shown (.str z)).length ≤ 10 := by
  have e : (PyData.shown (.str z)) = reprText z := by simp [PyData.shown]
  rw [e, lenL, repr_low h.2.2]
  have := h.2.1
  simp only [List.length_cons, List.length_append, List.length_nil]
  omega
theorem shown_ws {zs : List PySem.Str} (h : ∀ z ∈ zs, Wd z) : (PyData.shown (.tuple (zs.map .str))).length ≤ zs.length * 12 + 3 := by
  have e : PyData.shown (.tuple (zs.map .str)) = tupleText (zs.map fun x => (PyData.str x).shown) := by rw [PyData.shown, shownAll_map]
  rw [e]
  have a := tupleText_le (zs.map fun x => (PyData.str x).shown)
  have b := piled_le 10 (zs.map fun x => (PyData.str x).shown) (fun t m => by
    obtain ⟨z, mz, rfl⟩ := List.mem_map.mp m
    exact shown_w (h z mz))
  rw [List.length_map] at b
  omega
theorem shown_p {p : PySem.Str × PySem.Str} (h : Wd p.1) (g : Wd p.2) : (encP p).shown.length ≤ 27 := by
  have e : (encP p) = .tuple ([p.1, p.2].map .str) := rfl
  rw [e]
  have := shown_ws (zs := [p.1, p.2]) (fun z m => by simp at m; rcases m with rfl | rfl <;> assumption)
  exact this
theorem shown_its {is : List Itm} (h : ItsOk 2 is) (l : is.length ≤ 4) : (PyData.shown (.list (itsD is))).length ≤ 80000 := by
  have e : (PyData.shown (.list (itsD is))).cps.toList = 91 :: (cL is ++ [93]) := by
    simp only [PyData.shown]
    exact shown_cL is 2 h
  have h1 := cL_len 2 is h
  have b2 : bC 2 = 17680 := by decide
  have h2 : is.length * (bC 2 + 2) ≤ 4 * (bC 2 + 2) := Nat.mul_le_mul_right _ l
  rw [lenL, e]
  simp only [List.length_cons, List.length_append, List.length_nil]
  omega
theorem shown_e {x : PB} (h : ItsOk 2 x.2 ∧ x.2.length ≤ 4 ∧ Wd x.1.1 ∧ Wd x.1.2) : (entD x).shown.length ≤ 80100 := by
  have e : (entD x).shown = tupleText [(encP x.1).shown, (PyData.shown (.list (itsD x.2)))] := by unfold entD; simp only [PyData.shown, PyData.shownAll]
  rw [e]
  have a := tupleText_le [(encP x.1).shown, (PyData.shown (.list (itsD x.2)))]
  have b := shown_p h.2.2.1 h.2.2.2
  have c := shown_its h.1 h.2.1
  rw [piled_cons, piled_cons, piled_nil] at a
  omega
/-- what repr and == ask of data -/
structure Sd (d : PyData) : Prop where
  s : d.showable = true
  z : d.depth ≤ 20
  n : d.hasDict = false
  c : PyData.canLay0 d = true
theorem Sd.dq {K : PySem.W.Frag} {H : Hp} {x : V} {d : PyData} (h : Sd d) (q : Dp K H x d) : Dq K H x d := by
  refine .pl q h.n ?_ (SeqAt.eqv_refl _ h.c)
  unfold SeqAt.shaped
  rw [Bool.and_eq_true]
  exact ⟨h.c, decide_eq_true (by have := h.z; omega)⟩
theorem sdAll : ∀ {ds : List PyData} {b : Nat}, (∀ d ∈ ds, Sd d ∧ d.depth ≤ b) → PyData.showableAll ds = true ∧ PyData.depthAll ds ≤ b ∧ PyData.hasDictAll ds = false ∧ PyData.canLayAll0 ds = true
  | [], b, _ => by simp [PyData.showableAll, PyData.depthAll, PyData.hasDictAll, PyData.canLayAll0]
  | d :: ds, b, h => by
    obtain ⟨h1, h2⟩ := h d List.mem_cons_self
    obtain ⟨i1, i2, i3, i4⟩ := sdAll (ds := ds) (b := b) fun x m => h x (List.mem_cons_of_mem _ m)
    refine ⟨by simp [PyData.showableAll, h1.s, i1], ?_, by simp [PyData.hasDictAll, h1.n, i3], by simp [PyData.canLayAll0, h1.c, i4]⟩
    simp only [PyData.depthAll]
    omega
theorem Sd.list {ds : List PyData} {b : Nat} (h : ∀ d ∈ ds, Sd d ∧ d.depth ≤ b) (hb : b ≤ 18) : Sd (.list ds) ∧ (PyData.list ds).depth ≤ b + 1 := by
  obtain ⟨i1, i2, i3, i4⟩ := sdAll h
  have e : (PyData.list ds).depth ≤ b + 1 := by simp only [PyData.depth]; omega
  exact ⟨⟨by simp [PyData.showable, i1], by omega, by simp [PyData.hasDict, i3], by simp [PyData.canLay0, i4]⟩, e⟩
theorem Sd.tuple {ds : List PyData} {b : Nat} (h : ∀ d ∈ ds, Sd d ∧ d.depth ≤ b) (hb : b ≤ 18) : Sd (.tuple ds) ∧ (PyData.tuple ds).depth ≤ b + 1 := by
  obtain ⟨i1, i2, i3, i4⟩ := sdAll h
  have e : (PyData.tuple ds).depth ≤ b + 1 := by simp only [PyData.depth]; omega
  exact ⟨⟨by simp [PyData.showable, i1], by omega, by simp [PyData.hasDict, i3], by simp [PyData.canLay0, i4]⟩, e⟩
theorem Sd.w {z : PySem.Str} (h : Wd z) (b : Nat) : Sd (.str z) ∧ (PyData.str z).depth ≤ b := ⟨⟨by simp [PyData.showable], by simp [PyData.depth], by simp [PyData.hasDict], by simp [PyData.canLay0, wd_ok h]⟩, by simp [PyData.depth]⟩
theorem Sd.ws {zs : List PySem.Str} (h : ∀ z ∈ zs, Wd z) : Sd (.tuple (zs.map .str)) ∧ (PyData.tuple (zs.map .str)).depth ≤ 1 := Sd.tuple (b := 0) (fun d m => by
  obtain ⟨z, mz, rfl⟩ := List.mem_map.mp m
  exact Sd.w (h z mz) 0) (by omega)
theorem Sd.p {p : PySem.Str × PySem.Str} (h : Wd p.1) (g : Wd p.2) : Sd (encP p) ∧ (encP p).depth ≤ 1 := Sd.ws (zs := [p.1, p.2]) (fun z m => by simp at m; rcases m with rfl | rfl <;> assumption)
theorem Sd.its {is : List Itm} (h : ItsOk 2 is) : Sd (.list (itsD is)) ∧ (PyData.list (itsD is)).depth ≤ 12 := by
  have e : (PyData.list (itsD is)).depth ≤ 12 := by
    have := itsD_deep is 2 h
    simp only [PyData.depth]
    omega
  exact ⟨⟨by simp [PyData.showable, itsD_show is 2 h], by omega, by simp [PyData.hasDict, itsD_noDict is], by simp [PyData.canLay0, itsD_lay is 2 h]⟩, e⟩
theorem Sd.ent {x : PB} (h : ItsOk 2 x.2 ∧ x.2.length ≤ 4 ∧ Wd x.1.1 ∧ Wd x.1.2) : Sd (entD x) ∧ (entD x).depth ≤ 13 := Sd.tuple (b := 12) (fun d m => by
  rcases List.mem_cons.mp m with rfl | m
  · have := Sd.p h.2.2.1 h.2.2.2; exact ⟨this.1, by omega⟩
  · rw [List.mem_singleton.mp m]; exact Sd.its h.1) (by omega)
theorem Sd.book {f : PySem.Str} {ys ms ks : List PySem.Str} {rows : List PB} (hf : Wd f) (hy : ∀ z ∈ ys, Wd z) (hm : ∀ z ∈ ms, Wd z) (hk : ∀ z ∈ ks, Wd z) (hr : PbOk rows) : Sd (bookD f ys ms ks rows) := by
  have hrr : Sd (.list (rows.map entD)) ∧ (PyData.list (rows.map entD)).depth ≤ 14 := Sd.list (b := 13) (fun d m => by
    obtain ⟨x, mx, rfl⟩ := List.mem_map.mp m
    exact Sd.ent (hr x mx)) (by omega)
  refine (Sd.list (b := 14) (fun d m => ?_) (by omega)).1
  simp only [List.mem_cons, List.not_mem_nil, or_false] at m
  rcases m with rfl | rfl | rfl | rfl | rfl
  · exact Sd.w hf 14
  · have := Sd.ws hy; exact ⟨this.1, by omega⟩
  · have := Sd.ws hm; exact ⟨this.1, by omega⟩
  · have := Sd.ws hk; exact ⟨this.1, by omega⟩
  · exact hrr
theorem book_len {f : PySem.Str} {ys ms ks : List PySem.Str} {rows : List PB} (hf : Wd f) (hy : ∀ z ∈ ys, Wd z) (hm : ∀ z ∈ ms, Wd z) (hk : ∀ z ∈ ks, Wd z) (hr : PbOk rows) (l1 : ys.length ≤ 10) (l2 : ms.length ≤ 10) (l3 : ks.length ≤ 10) (l4 : rows.length ≤ 5) : (bookD f ys ms ks rows).shown.length ≤ 1000000 := by
  have e : (bookD f ys ms ks rows).shown = listText [(PyData.str f).shown, (PyData.tuple (ys.map .str)).shown, (PyData.tuple (ms.map .str)).shown, (PyData.tuple (ks.map .str)).shown, (PyData.list (rows.map entD)).shown] := by unfold bookD; simp only [PyData.shown, PyData.shownAll]
  have a := listText_le [(PyData.str f).shown, (PyData.tuple (ys.map .str)).shown, (PyData.tuple (ms.map .str)).shown, (PyData.tuple (ks.map .str)).shown, (PyData.list (rows.map entD)).shown]
  rw [piled_cons, piled_cons, piled_cons, piled_cons, piled_cons, piled_nil] at a
  have b1 := shown_w hf
  have b2 := shown_ws hy
  have b3 := shown_ws hm
  have b4 := shown_ws hk
  have e5 : PyData.shown (.list (rows.map entD)) = listText (rows.map fun x => (entD x).shown) := by rw [PyData.shown, shownAll_map]
  have b5 := listText_le (rows.map fun x => (entD x).shown)
  have b6 := piled_le 80100 (rows.map fun x => (entD x).shown) (fun t m => by
    obtain ⟨x, mx, rfl⟩ := List.mem_map.mp m
    exact shown_e (hr x mx))
  rw [List.length_map] at b6
  have b7 : rows.length * 80102 ≤ 5 * 80102 := Nat.mul_le_mul_right _ l4
  rw [e, e5]
  rw [e5] at a
  omega
/-! texts that may be laid -/
theorem ok_app {a b : PySem.Str} (h : PyData.strOk a = true) (g : PyData.strOk b = true) : PyData.strOk (a ++ b) = true := by
  unfold PyData.strOk at *
  show (a.cps ++ b.cps).all _ = true
  rw [Array.all_append, h, g]
  rfl
theorem ok_textFrom : ∀ (ts : List PySem.Str) (k : Nat) (acc : PySem.Str), PyData.strOk acc = true → (∀ t ∈ ts, PyData.strOk t = true) → PyData.strOk (textFrom k acc ts) = true
  | [], k, acc, h, _ => h
  | t :: ts, k, acc, h, g => by
    rw [textFrom]
    refine ok_textFrom ts (k + 1) _ (ok_app (ok_app h ?_) (g t List.mem_cons_self)) fun x m => g x (List.mem_cons_of_mem _ m)
    split
    · decide +kernel
    · decide +kernel
theorem ok_listText {ts : List PySem.Str} (g : ∀ t ∈ ts, PyData.strOk t = true) : PyData.strOk (listText ts) = true := by
  unfold listText
  exact ok_app (ok_textFrom ts 0 _ (by decide +kernel) g) (by decide +kernel)
theorem ok_join : ∀ {ts : List PySem.Str}, (∀ t ∈ ts, PyData.strOk t = true) → PyData.strOk (Str.join ", " ts) = true
  | [], _ => by decide +kernel
  | [t], g => g t List.mem_cons_self
  | t :: u :: r, g => ok_app (ok_app (g t List.mem_cons_self) (by decide +kernel)) (ok_join fun x m => g x (List.mem_cons_of_mem _ m))
theorem ok_tupleText {ts : List PySem.Str} (g : ∀ t ∈ ts, PyData.strOk t = true) : PyData.strOk (tupleText ts) = true := by
  unfold tupleText
  refine ok_app (ok_app (by decide +kernel) (ok_join g)) ?_
  split
  · decide +kernel
  · decide +kernel
theorem ok_shown_w {z : PySem.Str} (h : Wd z) : PyData.strOk (PyData.shown (.str z)) = true := by
  have e : (PyData.shown (.str z)) = reprText z := by simp [PyData.shown]
  rw [e]
  unfold PyData.strOk
  rw [← Array.all_toList, repr_low h.2.2]
  simp only [List.all_cons, List.all_append, List.all_nil, Bool.and_true]
  have : (z.cps.toList.all fun x => decide (x < 1114112)) = true := by
    have w := wd_ok h
    unfold PyData.strOk at w
    rw [← Array.all_toList] at w
    exact w
  rw [this]
  rfl
theorem ok_shown_ws {zs : List PySem.Str} (h : ∀ z ∈ zs, Wd z) : PyData.strOk (PyData.shown (.tuple (zs.map .str))) = true := by
  rw [PyData.shown, shownAll_map]
  exact ok_tupleText fun t m => by
    obtain ⟨z, mz, rfl⟩ := List.mem_map.mp m
    exact ok_shown_w (h z mz)
/-! the values that are picked -/
theorem good_ws {K : PySem.W.Frag} {H : Hp} {q : Addr} {zs : List PySem.Str} (h : H q = some (.tup (zs.map V.str))) (w : ∀ z ∈ zs, Wd z) (l : zs.length ≤ 10) : Good K H (.ref q) := by
  have s := Sd.ws w
  have len := shown_ws w
  refine ⟨.tuple (zs.map .str), s.1.dq (.tup (SqT.of h) (strs_dp zs)), s.1.s, by omega, by omega, ok_shown_ws w, ?_, fun ds e => ?_⟩
  · match zs, w with
    | [], _ => rfl
    | [a], _ => rfl
    | [a, b], w =>
      have l1 : a.length ≤ 8 := wd_len (w a (by simp))
      have l2 : b.length ≤ 8 := wd_len (w b (by simp))
      show (decide (a.length ≤ 1000) && decide (b.length ≤ 1000)) = true
      rw [decide_eq_true (by omega), decide_eq_true (by omega)]
      rfl
    | a :: b :: c :: r, _ => rfl
  · cases e
    exact ⟨q, _, rfl, h, strs_dp zs, by rw [List.length_map]; omega⟩
theorem good_ps {K : PySem.W.Frag} {H : Hp} {l : Addr} {vs : List V} {ps : List (PySem.Str × PySem.Str)} (h : H l = some (.lst vs)) (pr : PrsAt H vs ps) (w : ∀ p ∈ ps, Wd p.1 ∧ Wd p.2) (l5 : ps.length ≤ 5) : Good K H (.ref l) := by
  have s : Sd (.list (ps.map encP)) ∧ (PyData.list (ps.map encP)).depth ≤ 2 := Sd.list (b := 1) (fun d m => by
    obtain ⟨p, mp, rfl⟩ := List.mem_map.mp m
    exact Sd.p (w p mp).1 (w p mp).2) (by omega)
  have e : PyData.shown (.list (ps.map encP)) = listText (ps.map fun x => (encP x).shown) := by rw [PyData.shown, shownAll_map]
  have a := listText_le (ps.map fun x => (encP x).shown)
  have b := piled_le 27 (ps.map fun x => (encP x).shown) (fun t m => by
    obtain ⟨p, mp, rfl⟩ := List.mem_map.mp m
    exact shown_p (w p mp).1 (w p mp).2)
  rw [List.length_map] at b
  refine ⟨.list (ps.map encP), s.1.dq (.lst (SqL.of h) (prs_dp pr)), s.1.s, by omega, by rw [e]; omega, ?_, rfl, fun ds e => by cases e⟩
  rw [e]
  exact ok_listText fun t m => by
    obtain ⟨p, mp, rfl⟩ := List.mem_map.mp m
    exact ok_shown_ws (zs := [p.1, p.2]) (fun z m => by simp at m; exact m.elim (fun z => z ▸ (w p mp).1) (fun z => z ▸ (w p mp).2))
theorem ev0 (p : PySem.Str × PySem.Str) (ds : List PyData) : PyData.eqv (encP p) (.tuple ds) = PyData.eqvAll [.str p.1, .str p.2] ds := by
  unfold encP
  rw [PyData.eqv]
theorem ev2 (p : PySem.Str × PySem.Str) (x y : PyData) : PyData.eqv (encP p) (.tuple [x, y]) = (PyData.eqv (.str p.1) x && PyData.eqv (.str p.2) y) := by
  rw [ev0, PyData.eqvAll, PyData.eqvAll, PyData.eqvAll, Bool.and_true]
theorem evs (a : PySem.Str) (x : PyData) (h : ∀ z, x ≠ .str z) : PyData.eqv (.str a) x = false := by
  cases x with
  | str z => exact absurd rfl (h z)
  | _ => rw [PyData.eqv]
theorem any_no {ps : List (PySem.Str × PySem.Str)} {ds : List PyData} (h : ∀ p, PyData.eqv (encP p) (.tuple ds) = false) : ((ps.map encP).any fun z => PyData.eqv z (.tuple ds)) = false := by
  rw [List.any_map, List.any_eq_false]
  intro p _ z
  have : PyData.eqv (encP p) (.tuple ds) = true := z
  rw [h p] at this
  cases this
theorem inB_l {ps : List (PySem.Str × PySem.Str)} {ds : List PyData} (h : ds.length ≠ 2) : inB ps (.tuple ds) = false := by
  cases hh : inB ps (.tuple ds) with
  | false => rfl
  | true =>
    obtain ⟨a, b, e, _⟩ := inB_some hh
    injection e with e
    rw [e] at h
    exact absurd rfl h
/-- whether a value is among the pairs, by == -/
theorem any_inB {ps : List (PySem.Str × PySem.Str)} (ds : List PyData) : ((ps.map encP).any fun z => PyData.eqv z (.tuple ds)) = inB ps (.tuple ds) := by
  have no2 : ∀ x y, ((∀ z, x ≠ .str z) ∨ ∀ z, y ≠ .str z) → ((ps.map encP).any fun z => PyData.eqv z (.tuple [x, y])) = false := fun x y h => any_no fun p => by
    rw [ev2]
    rcases h with h | h
    · rw [evs _ _ h, Bool.false_and]
    · rw [evs _ _ h, Bool.and_false]
  match ds with
  | [] => exact (any_no (ds := []) fun p => by rw [ev0, PyData.eqvAll]).trans (inB_l (by simp)).symm
  | [a] => exact (any_no (ds := [a]) fun p => by rw [ev0, PyData.eqvAll, PyData.eqvAll, Bool.and_false]).trans (inB_l (by simp)).symm
  | a :: b :: c :: r => exact (any_no (ds := a :: b :: c :: r) fun p => by rw [ev0, PyData.eqvAll, PyData.eqvAll, PyData.eqvAll, Bool.and_false, Bool.and_false]).trans (inB_l (by simp)).symm
  | [x, y] =>
    cases x with
    | str a =>
      cases y with
      | str b =>
        show ((ps.map encP).any fun z => PyData.eqv z (.tuple [.str a, .str b])) = decide ((a, b) ∈ ps)
        rw [List.any_map, Bool.eq_iff_iff, List.any_eq_true, decide_eq_true_iff]
        constructor
        · rintro ⟨p, mp, hp⟩
          have h1 : PyData.eqv (encP p) (.tuple [.str a, .str b]) = true := hp
          rw [ev2, PyData.eqv, PyData.eqv, Bool.and_eq_true, beq_iff_eq, beq_iff_eq] at h1
          rw [← h1.1, ← h1.2]
          exact mp
        · intro m
          refine ⟨_, m, ?_⟩
          show PyData.eqv (encP (a, b)) (.tuple [.str a, .str b]) = true
          rw [ev2, PyData.eqv, PyData.eqv, Bool.and_eq_true, beq_iff_eq, beq_iff_eq]
          exact ⟨rfl, rfl⟩
      | _ => exact no2 _ _ (.inr fun z h => by cases h)
    | _ => exact no2 _ _ (.inl fun z h => by cases h)
theorem inB_not {ps : List (PySem.Str × PySem.Str)} {e : PyData} (h : isD "tuple" e = false) : inB ps e = false := by
  cases hh : inB ps e with
  | false => rfl
  | true =>
    obtain ⟨a, b, rfl, _⟩ := inB_some hh
    rw [(isD_tup _).mpr ⟨_, rfl⟩] at h
    cases h
theorem inB_perm {ps qs : List (PySem.Str × PySem.Str)} (h : ps.Perm qs) (e : PyData) : inB ps e = inB qs e := by
  unfold inB
  split
  · rw [Bool.eq_iff_iff, decide_eq_true_iff, decide_eq_true_iff]
    exact h.mem_iff
  · rfl
end KP
end

section
set_option Elab.async false
set_option linter.all false
set_option maxRecDepth 100000
set_option maxHeartbeats 4000000
/-! what stays while the law goes on -/
namespace KP
open PySem PySem.Spec PyProof.Rows L2 Pn StX
theorem whole_book (f : PySem.Str) (r d : Addr) : ¬ Whole (fBook f r d) := by
  have h4 : ¬ (("_first" : PySem.Str) = "number") := by decide +kernel
  have h5 : ¬ (("_first" : PySem.Str) = "_entries") := by decide +kernel
  rintro (⟨z, h⟩ | ⟨z, h⟩ | ⟨z, h⟩ | ⟨n, b, t, h⟩ | ⟨e, d, t, h⟩)
  · unfold fBook at h; injection h with a b; cases b
  · unfold fBook at h; injection h with a b; cases b
  · unfold fBook at h; injection h with a b; cases b
  · unfold fTimes fBook at h; injection h with a b; injection a with a; exact h4 a
  · unfold fBody fBook at h; injection h with a b; injection a with a; exact h5 a
theorem Bk.put {c : Cs} {cb : Addr} {H : Hp} {x dx r d q : Addr} {o : HO} {kvs : List (List Key × V)} {D : BkD} (h : Bk c cb H x dx r d kvs D) (n1 : q ≠ x) (n2 : q ≠ r) (n3 : q ≠ d) (k : Kept H (upd H q o)) : Bk c cb (upd H q o) x dx r d kvs D :=
  ⟨by rw [upd_ne n1.symm]; exact h.i, by rw [upd_ne n2.symm]; exact h.r, by rw [upd_ne n3.symm]; exact h.d, h.b.keep k, h.n⟩
theorem Kept.updL {H : Hp} {q : Addr} {xs : List V} {o : HO} (h : H q = some (.lst xs)) : Kept H (upd H q o) :=
  ⟨fun a C dx fs _ e => by rw [upd_ne (ne_of e h (by intro z; cases z))]; exact e, fun a xs e => by rw [upd_ne (ne_of e h (by intro z; cases z))]; exact e⟩
theorem Kept.updT {H : Hp} {q : Addr} {ks : List (List Key × V)} {o : HO} (h : H q = some (.dT ks)) : Kept H (upd H q o) :=
  ⟨fun a C dx fs _ e => by rw [upd_ne (ne_of e h (by intro z; cases z))]; exact e, fun a xs e => by rw [upd_ne (ne_of e h (by intro z; cases z))]; exact e⟩
theorem Kept.updB {H : Hp} {q C dx r d : Addr} {f : PySem.Str} {o : HO} (h : H q = some (.ins C dx (fBook f r d))) : Kept H (upd H q o) :=
  Kept.half h (whole_book f r d) fun b u n e => by rw [upd_ne n]; exact e
mutual
theorem Rp_ref {B : Addr → Prop} {H : Hp} {p : Addr} {ks : List (Key × V)} (hp : H p = some (.dK ks)) : ∀ (i : Itm) (v : V), Rp B H v i → Rp (fun b => H b = none ∨ b = p) H v i
  | .say _, _, h => by cases h with | say n h => exact .say (fun z => z.elim (fun z => by rw [h] at z; cases z) (fun z => by rw [z, hp] at h; cases h)) h
  | .press _, _, h => by cases h with | press n h => exact .press (fun z => z.elim (fun z => by rw [h] at z; cases z) (fun z => by rw [z, hp] at h; cases h)) h
  | .go _, _, h => by cases h with | go n h => exact .go (fun z => z.elim (fun z => by rw [h] at z; cases z) (fun z => by rw [z, hp] at h; cases h)) h
  | .times _ its, _, h => by cases h with | times n m h g r => exact .times (fun z => z.elim (fun z => by rw [h] at z; cases z) (fun z => by rw [z, hp] at h; cases h)) (fun z => z.elim (fun z => by rw [g] at z; cases z) (fun z => by rw [z, hp] at g; cases g)) h g (Rps_ref hp its _ r)
theorem Rps_ref {B : Addr → Prop} {H : Hp} {p : Addr} {ks : List (Key × V)} (hp : H p = some (.dK ks)) : ∀ (is : List Itm) (vs : List V), Rps B H vs is → Rps (fun b => H b = none ∨ b = p) H vs is
  | [], _, h => by cases h; exact .nil
  | i :: is, _, h => by cases h with | cons h1 h2 => exact .cons (Rp_ref hp i _ h1) (Rps_ref hp is _ h2)
end
theorem PlB.ref {B : Addr → Prop} {H : Hp} {p : Addr} {ks : List (Key × V)} (hp : H p = some (.dK ks)) : ∀ {kvs : List (List Key × V)} {bs : List PB}, PlB B H kvs bs → PlB (fun b => H b = none ∨ b = p) H kvs bs
  | _, _, .nil => .nil
  | _, _, .cons n h r q => .cons (fun z => z.elim (fun z => by rw [h] at z; cases z) (fun z => by rw [z, hp] at h; cases h)) h (Rps_ref hp _ _ r) (q.ref hp)
theorem PbAt.ref {B : Addr → Prop} {H : Hp} {p o l d : Addr} {ks : List (Key × V)} {kvs : List (List Key × V)} {D : BkD} (hp : H p = some (.dK ks)) (h : PbAt B H o l d kvs D) : PbAt (fun b => H b = none ∨ b = p) H o l d kvs D :=
  ⟨(fun z => z.elim (fun z => by rw [h.i] at z; cases z) (fun z => by have := h.i; rw [z, hp] at this; cases this)), (fun z => z.elim (fun z => by rw [h.r] at z; cases z) (fun z => by have := h.r; rw [z, hp] at this; cases this)), (fun z => z.elim (fun z => by rw [h.d] at z; cases z) (fun z => by have := h.d; rw [z, hp] at this; cases this)), h.i, h.r, h.d, h.b.ref hp, h.n⟩
theorem PbAt.at {H1 Hk : Hp} {p o l d : Addr} {kvs : List (List Key × V)} {D : BkD} (h : PbAt (fun b => H1 b = none ∨ b = p) H1 o l d kvs D) (b : But p H1 Hk) : PbAt (fun b => H1 b = none ∨ b = p) Hk o l d kvs D :=
  h.mono (fun _ z => z) fun a u n e => b a u (fun z => n (.inr z)) e
theorem PrsAt.perm {H : Hp} {vs ys : List V} (pm : vs.Perm ys) : ∀ {ps : List (PySem.Str × PySem.Str)}, PrsAt H vs ps → ∃ qs, ps.Perm qs ∧ PrsAt H ys qs := by
  induction pm with
  | nil =>
    intro ps h
    exact ⟨ps, .refl _, h⟩
  | @cons x l1 l2 _ ih =>
    intro ps h
    cases ps with
    | nil => cases h.1
    | cons p ps =>
      obtain ⟨qs, q1, q2⟩ := ih (ps := ps) ⟨by have := h.1; simpa using this, fun z m => h.2 z (by rw [List.zip_cons_cons]; exact List.mem_cons_of_mem _ m)⟩
      refine ⟨p :: qs, q1.cons p, by rw [List.length_cons, List.length_cons, q2.1], fun z m => ?_⟩
      rw [List.zip_cons_cons] at m
      rcases List.mem_cons.mp m with rfl | m
      · exact h.2 _ (by rw [List.zip_cons_cons]; exact List.mem_cons_self)
      · exact q2.2 z m
  | @swap x y l =>
    intro ps h
    match ps, h with
    | [], h => cases h.1
    | [p], h => exact absurd h.1 (by simp)
    | p :: q :: ps, h =>
      refine ⟨q :: p :: ps, .swap _ _ _, by have := h.1; simpa using this, fun z m => h.2 z ?_⟩
      simp only [List.zip_cons_cons, List.mem_cons] at m ⊢
      rcases m with h | h | h
      · exact .inr (.inl h)
      · exact .inl h
      · exact .inr (.inr h)
  | trans _ _ ih1 ih2 =>
    intro ps h
    obtain ⟨qs, q1, q2⟩ := ih1 h
    obtain ⟨rs, r1, r2⟩ := ih2 q2
    exact ⟨rs, q1.trans r1, r2⟩
/-- the bodies under pairs in another order -/
def reB (bs : List PB) (qs : List (PySem.Str × PySem.Str)) : List PB := qs.map fun p => (p, (bval bs p).getD [])
theorem reB_self {bs : List PB} (n : (bs.map (·.1)).Nodup) : reB bs (bs.map (·.1)) = bs := by
  unfold reB
  rw [List.map_map]
  refine (List.map_congr_left (g := id) fun x m => ?_).trans (List.map_id _)
  show (x.1, (bval bs x.1).getD []) = x
  rw [bval_self (p := x.1) (its := x.2) n m]
  rfl
theorem reB_perm {bs : List PB} {qs : List (PySem.Str × PySem.Str)} (n : (bs.map (·.1)).Nodup) (h : (bs.map (·.1)).Perm qs) : (reB bs qs).Perm bs := by
  have := h.map fun p => ((p, (bval bs p).getD []) : PB)
  have e : (bs.map (·.1)).map (fun p => ((p, (bval bs p).getD []) : PB)) = bs := reB_self n
  rw [e] at this
  exact this.symm
theorem reB_keys (bs : List PB) (qs : List (PySem.Str × PySem.Str)) : (reB bs qs).map (·.1) = qs := by
  unfold reB
  rw [List.map_map]
  exact (List.map_congr_left (g := id) fun x _ => rfl).trans (List.map_id _)
theorem rowsOf_mem {bs : List PB} (n : (bs.map (·.1)).Nodup) {x : PB} (m : x ∈ rowsOf bs) : x ∈ bs := by
  have h : (rowsOf bs).Perm bs := reB_perm n (sortP_perm _).symm
  exact h.mem_iff.mp m
theorem rowsOf_len (bs : List PB) : (rowsOf bs).length = bs.length := by
  unfold rowsOf
  rw [List.length_map, (sortP_perm _).length_eq, List.length_map]
theorem rowsOf_perm {bs cs : List PB} (n : (bs.map (·.1)).Nodup) (h : bs.Perm cs) : rowsOf bs = rowsOf cs := by
  have n2 : (cs.map (·.1)).Nodup := (h.map (·.1)).nodup_iff.mp n
  unfold rowsOf
  rw [sortP_eq (h.map (·.1))]
  refine List.map_congr_left fun p m => ?_
  have m2 : p ∈ cs.map (·.1) := (sortP_perm _).mem_iff.mp m
  obtain ⟨x, mx, rfl⟩ := List.mem_map.mp m2
  rw [bval_self (p := x.1) (its := x.2) n2 mx, bval_self (p := x.1) (its := x.2) n (h.mem_iff.mpr mx)]
theorem PbD.rows {W3 : List PySem.Str} {D : BkD} (h : PbD W3 D) (n : (D.bs.map (·.1)).Nodup) : PbOk (rowsOf D.bs) := fun x m => h.ok x (rowsOf_mem n m)
/-- another rest, the bodies in another order -/
theorem PbD.re {W3 : List PySem.Str} {D : BkD} {qs : List PySem.Str} {bs : List PB} (h : PbD W3 D) (hq : ∀ z ∈ qs, z ∈ W3) (l : qs.length ≤ 10) (pm : bs.Perm D.bs) : PbD W3 ⟨D.f, qs, bs⟩ :=
  ⟨h.w, h.l3, h.f, hq, l, fun x m => h.ok x (pm.mem_iff.mp m), fun x m => h.m x (pm.mem_iff.mp m), by have := h.bl; show bs.length ≤ 5; rw [pm.length_eq]; exact this⟩
theorem Asc.len {ys xs W : List PySem.Str} (a : Asc ys xs) (h : ∀ x ∈ xs, x ∈ W) : ys.length ≤ W.length := sub_len _ _ a.n fun x m => h x ((a.m x).mp m)
theorem Asc.all {ys xs : List PySem.Str} {p : PySem.Str → Prop} (a : Asc ys xs) (h : ∀ x ∈ xs, p x) : ∀ x ∈ ys, p x := fun x m => h x ((a.m x).mp m)
theorem mlist_mem {f : PySem.Str} {rs qs : List PySem.Str} {bs cs : List PB} (h : ∀ x, x ∈ rs ↔ x ∈ qs) (pm : bs.Perm cs) (x : PySem.Str) : x ∈ mlist f rs bs ↔ x ∈ mlist f qs cs := by
  unfold mlist
  simp only [List.mem_append, h, (pm.map (·.1.1)).mem_iff, (pm.flatMap_right fun x => gosL x.2).mem_iff]
theorem ne_same {x : V} {A B : Prop} (h : B) : if (!decide (x = x)) = true then A else B := by
  rw [decide_eq_true rfl]
  exact iteF h
theorem eqBk_self {c : Cs} {cb : Addr} {H : Hp} {x dx r d : Addr} {kvs : List (List Key × V)} {D : BkD} (h : Bk c cb H x dx r d kvs D) : eqBk D D = true := by
  unfold eqBk
  rw [decide_eq_true rfl, decide_eq_true rfl, eqBs_perm (h.b.nodup h.n) (.refl _)]
  rfl
end KP
end

section
set_option Elab.async false
set_option linter.all false
set_option maxRecDepth 100000
set_option maxHeartbeats 4000000
/-! the law: where all stands -/
namespace KP
open PySem PySem.Spec PyProof.Rows L2 Pn StX
abbrev sLaw : Stmt := top 97
structure Df (K : PySem.W.Frag) (mg : PySem.Str → Option Value) (x : PySem.Str) (st : Stmt) (ps : List PySem.Str) (f : Addr) (fd : FuncData) : Prop where
  F : Fun K x x st f fd
  b : Binds K fd ps []
  g : Fn K mg x f
structure EqD (K : PySem.W.Frag) (c : Cs) (fS fP fG fT fB : Addr) (dS dP dG dT dB : FuncData) : Prop where
  S : Fun K "__eq__" "Say.__eq__" sSayE fS dS
  P : Fun K "__eq__" "Press.__eq__" sPressE fP dP
  G : Fun K "__eq__" "Go.__eq__" sGoE fG dG
  T : Fun K "__eq__" "Times.__eq__" sTimesE fT dT
  B : Fun K "__eq__" "Body.__eq__" sBodyE fB dB
  bS : Binds K dS ["self", "other"] []
  bP : Binds K dP ["self", "other"] []
  bG : Binds K dG ["self", "other"] []
  bT : Binds K dT ["self", "other"] []
  bB : Binds K dB ["self", "other"] []
  mS : EqM K c.say fS
  mP : EqM K c.press fP
  mG : EqM K c.go fG
  mT : EqM K c.times fT
  mB : EqM K c.body fB
/-- keywords in the parameters' order -/
def kw3 {α : Type} (us ws : List α) : List α := match ws with
  | [b, r, f] => us ++ [f, r, b]
  | _ => us
def kw1 {α : Type} (us ws : List α) : List α := us ++ ws
/-- where all that the law's own text reads stands -/
structure Lw where
  (c : Cs) (C : Nat → Addr) (cb CO e0 : Addr)
  (fD pD fO fC tS tP tG tT tB iS iP iG iT iB fW fN fH gO pO gB pB : Addr)
  (fdD fdO fdC dS dP dG dT dB eS eP eG eT eB dW fdN fdH fdGO fdGB : FuncData)
  (mc mcB : Value)
  (qS qP qG qT qB : Addr) (rS rP rG rTt rB : FuncData)
  (fM fGo fAs fK pE fE : Addr) (dM dGo dAs dK dE : FuncData)
  (fA fPw fCm fCs fCb fX fL fWb : Addr) (dA dPw dCm dCs dCb dX dL dWb : FuncData)
  (fI : Addr) (dI : FuncData) (ds1 ds2 : List Value)
  (fCo : Addr) (dCo : FuncData)
  (pF fF pR fR pM fMd pBd fBd pS fSt gG : Addr) (dF dR dMd dBd dSt dGt : FuncData)
  (fBE fTb fLn fCp fSr : Addr) (dBE dTb dLn dCp dSr : FuncData)
  (aPen aDraw aPick aShuf aWords aAny aItem aItems aNames aMade aPlain aBook aMadeB aMadeBk aGone aModes aShown aDue aAt : Addr)
  (dPen dDraw dPick dShuf dWords dAny dItem dItems dNames dMade dPlain dBook dMadeB dMadeBk dGone dModes dShown dDue dAt : FuncData)
structure LwF (K : PySem.W.Frag) (mg : PySem.Str → Option Value) (W : Lw) : Prop where
  N : BkN K mg W.c
  T3 : Blt3 mg
  min : mg "min" = none
  R : ErrT K mg W.C tclass
  Z0 : MakT K mg W.c W.fD W.pD W.fO W.fC W.tS W.tP W.tG W.tT W.tB W.fdD W.fdO W.fdC W.dS W.dP W.dG W.dT W.dB
  Y0 : InsT K mg W.c W.iS W.iP W.iG W.iT W.iB W.fW W.fN W.fH W.eS W.eP W.eG W.eT W.eB W.dW W.fdN W.fdH
  TO : Fun K "of" "Times.of" sTimesO W.gO W.fdGO
  CT : ClsT K W.c.times W.mc W.pO W.gO W.fdGO ["cls", "number", "items"]
  OB : Fun K "of" "Body.of" sBodyO W.gB W.fdGB
  CB : ClsT K W.c.body W.mcB W.pB W.gB W.fdGB ["cls", "items"]
  M : EqD K W.c W.qS W.qP W.qG W.qT W.qB W.rS W.rP W.rG W.rTt W.rB
  Z : LimF K mg W.c W.fM W.fGo W.fAs W.fK W.pE W.fE W.dM W.dGo W.dAs W.dK W.dE
  Y : BkF K mg W.c W.fW W.fA W.fPw W.fCm W.fCs W.fCb W.fX W.fL W.fWb W.dW W.dA W.dPw W.dCm W.dCs W.dCb W.dX W.dL W.dWb
  BT : BkT K mg W.cb
  MB : MkBk K mg W.cb W.fI W.dI [.ref W.e0, .non] []
  e0 : SqT K (fun _ => none) W.e0 []
  b1 : Binds K W.dI ["self", "first", "rest", "bodies"] W.ds1
  v1 : Vals [V.ref W.e0, V.non] W.ds1
  b2 : Binds K W.dI ["self", "first", "rest", "bodies"] W.ds2
  v2 : Vals [V.non] W.ds2
  b3 : KBn K W.dI ["self", "first", "rest", "bodies"] 1 ["bodies", "rest", "first"] kw3 kw3
  CN : ConT K W.cb W.fCo W.dCo
  O : UnkT K mg W.CO
  BP : BkP K W.cb W.pF W.fF W.pR W.fR W.pM W.fMd W.pBd W.fBd W.pS W.fSt W.gG W.dF W.dR W.dMd W.dBd W.dSt W.dGt
  BE : BkE K W.cb W.fBE
  nt : PySem.W.notFirst K W.cb (.type "tuple") = true
  kt : PySem.W.kitOne K (.type "tuple") (.ref W.cb) = some false
  FE : Fun K "__eq__" "Book.__eq__" sBookE W.fBE W.dBE
  bE : Binds K W.dBE ["self", "other"] []
  FT : Fun K "told_by" "told_by" sToldBy W.fTb W.dTb
  bT : Binds K W.dTb ["book"] []
  gT : Fn K mg "told_by" W.fTb
  FLn : Fun K "__len__" "Book.__len__" sLenB W.fLn W.dLn
  bLn : Binds K W.dLn ["self"] []
  iLn : PySem.W.findIn K (.ref W.cb) "__len__" = some (some (.ref W.fLn))
  nLn : PySem.W.isFn K (.ref W.fLn) = true
  FCp : Fun K "copied" "Book.copied" sCopied W.fCp W.dCp
  bCp : Binds K W.dCp ["self"] []
  mCp : Meth K W.cb "copied" W.fCp
  FSr : Fun K "set_rest" "Book.set_rest" sSetRest W.fSr W.dSr
  bSr : KBn K W.dSr ["self", "modes"] 1 ["modes"] kw1 kw1
  mSr : Meth K W.cb "set_rest" W.fSr
  pen : Df K mg "_law_pen" sPen ["_law_script"] W.aPen W.dPen
  draw : Df K mg "_law_draw" sDraw ["_law_pen_here", "_law_size"] W.aDraw W.dDraw
  pick : Df K mg "_law_pick" sPick ["_law_pen_here", "_law_items_here"] W.aPick W.dPick
  shuf : Df K mg "_law_shuffled" sShuffled ["_law_pen_here", "_law_items_here"] W.aShuf W.dShuf
  words : Df K mg "_law_words" sWords ["_law_pen_here", "_law_count"] W.aWords W.dWords
  any : Df K mg "_law_any_value" sAny ["_law_pen_here"] W.aAny W.dAny
  item : Df K mg "_law_item" sItem ["_law_pen_here", "_law_names_here", "_law_deep"] W.aItem W.dItem
  items : Df K mg "_law_items" sItems ["_law_pen_here", "_law_names_here", "_law_deep", "_law_topmost"] W.aItems W.dItems
  names : Df K mg "_law_names" sNames ["_law_pen_here"] W.aNames W.dNames
  made : Df K mg "_law_made" sMade ["_law_one"] W.aMade W.dMade
  plain : Df K mg "_law_plain" sPlain ["_law_item_here"] W.aPlain W.dPlain
  book : Df K mg "_law_book" sLBook ["_law_pen_here", "_law_names_here"] W.aBook W.dBook
  madeB : Df K mg "_law_made_body" sMadeB ["_law_items_here"] W.aMadeB W.dMadeB
  madeBk : Df K mg "_law_made_book" sMadeBk ["_law_one"] W.aMadeBk W.dMadeBk
  gone : Df K mg "_law_gone" sGone ["_law_items_here"] W.aGone W.dGone
  modes : Df K mg "_law_modes" sLModes ["_law_one"] W.aModes W.dModes
  shown : Df K mg "_law_shown" sShown ["_law_book_here"] W.aShown W.dShown
  due : Df K mg "_law_due" sDue ["_law_one"] W.aDue W.dDue
  at_ : Df K mg "_law_at" sAtB ["_law_book_here", "_law_value"] W.aAt W.dAt
/-- what stands in a lap, behind the making of the book -/
structure LapA (c : Cs) (cb p o b0 : Addr) (H : Hp) (Bp : Addr → Prop) (l d : Addr) (kvs : List (List Key × V)) (D : BkD) (W3 : List PySem.Str) (dx r db : Addr) (kvb : List (List Key × V)) (DB : BkD) : Prop where
  pp : Bp p
  pl : PbAt Bp H o l d kvs D
  pd : PbD W3 D
  b : Bk c cb H b0 dx r db kvb DB
  f : DB.f = D.f
  r : Asc DB.rs D.rs
  m : DB.bs.Perm D.bs
  pb : Bp db
def Lap (c : Cs) (cb p c' : Addr) (ns : List Int) (n : Nat) (o b0 : Addr) (H : Hp) : Prop := PenAt H p c' ns n ∧ ∃ Bp l d kvs D W3 dx r db kvb DB, LapA c cb p o b0 H Bp l d kvs D W3 dx r db kvb DB
theorem Lap.ext {c : Cs} {cb p c' o b0 : Addr} {ns : List Int} {n : Nat} {H H' : Hp} (h : Lap c cb p c' ns n o b0 H) (e : Ext H H') : Lap c cb p c' ns n o b0 H' := by
  obtain ⟨hP, Bp, l, d, kvs, D, W3, dx, r, db, kvb, DB, h⟩ := h
  exact ⟨hP.same e, Bp, l, d, kvs, D, W3, dx, r, db, kvb, DB, h.pp, h.pl.ext e, h.pd, h.b.ext e, h.f, h.r, h.m, h.pb⟩
theorem LapA.but {c : Cs} {cb p o b0 : Addr} {H H' : Hp} {Bp : Addr → Prop} {l d : Addr} {kvs : List (List Key × V)} {D : BkD} {W3 : List PySem.Str} {dx r db : Addr} {kvb : List (List Key × V)} {DB : BkD} {ks : List (Key × V)} (h : LapA c cb p o b0 H Bp l d kvs D W3 dx r db kvb DB) (b : But p H H') (hp : H p = some (.dK ks)) : LapA c cb p o b0 H' Bp l d kvs D W3 dx r db kvb DB :=
  ⟨h.pp, h.pl.mono (fun _ z => z) (fun a u n e => b a u (fun z => n (z ▸ h.pp)) e), h.pd, h.b.but b hp, h.f, h.r, h.m, h.pb⟩
/-- the book's own dict is not the plain one's -/
theorem LapA.ne {c : Cs} {cb p o b0 : Addr} {H : Hp} {Bp : Addr → Prop} {l d : Addr} {kvs : List (List Key × V)} {D : BkD} {W3 : List PySem.Str} {dx r db : Addr} {kvb : List (List Key × V)} {DB : BkD} (h : LapA c cb p o b0 H Bp l d kvs D W3 dx r db kvb DB) : db ≠ d := fun z => h.pl.nd (z ▸ h.pb)
theorem LapA.ext {c : Cs} {cb p o b0 : Addr} {H H' : Hp} {Bp : Addr → Prop} {l d : Addr} {kvs : List (List Key × V)} {D : BkD} {W3 : List PySem.Str} {dx r db : Addr} {kvb : List (List Key × V)} {DB : BkD} (h : LapA c cb p o b0 H Bp l d kvs D W3 dx r db kvb DB) (e : Ext H H') : LapA c cb p o b0 H' Bp l d kvs D W3 dx r db kvb DB :=
  ⟨h.pp, h.pl.ext e, h.pd, h.b.ext e, h.f, h.r, h.m, h.pb⟩
/-- the book's own data -/
theorem LapA.bd {c : Cs} {cb p o b0 : Addr} {H : Hp} {Bp : Addr → Prop} {l d : Addr} {kvs : List (List Key × V)} {D : BkD} {W3 : List PySem.Str} {dx r db : Addr} {kvb : List (List Key × V)} {DB : BkD} (h : LapA c cb p o b0 H Bp l d kvs D W3 dx r db kvb DB) : PbD W3 DB := by
  have a := h.pd.re (qs := DB.rs) (bs := DB.bs) (fun z m => h.pd.r z ((h.r.m z).mp m)) (by have := h.r.len h.pd.r; have := h.pd.l3; omega) h.m
  rw [← h.f] at a
  exact a
/-- a Body is made -/
theorem same_ins2 {H : Hp} {x dx C : Addr} (nx : H x = none) (ndx : H dx = none) : Same H (upd (upd H dx (.own x)) x (.ins C dx [])) := fun b o e => by
  rw [upd_ne (ne_of_none e nx), upd_ne (ne_of_none e ndx)]
  exact e
theorem mk_bodyN {K : PySem.W.Frag} {c : Cs} {C : Nat → Addr} {H : Hp} {x dx : Addr} {Qh : Hp → Prop} {E : XK} (nx : H x = none) (ndx : H dx = none) (k : ∀ H', Same H H' → Bo c H' x [] → Qh H') :
    spBodyI K c C [.ref x] (upd (upd H dx (.own x)) x (.ins c.body dx [])) (fun v H2 => v = .non ∧ Qh H2) E := by
  have hc : chk (([] : List Itm).map some) 2 = none := chk_ok (by decide) (by decide)
  refine ⟨H, x, dx, [], [], rfl, same_ins2 nx ndx, nx, upd_same, .nil, by decide, fun j y e => ?_, fun _ its' H' eo hw' h6' S' hB => ⟨rfl, ?_⟩⟩
  · rw [show ([] : List (Option Itm)) = ([] : List Itm).map some from rfl, hc] at e; cases e
  · have : its' = [] := by cases its' with | nil => rfl | cons a b => cases eo
    subst this
    exact k H' S' hB
def spLaw (K : PySem.W.Frag) : Sp := fun vs H Q _ => ∃ (a : Addr) (ns : List Int), vs = [.ref a] ∧ SqL K H a (ns.map V.int) ∧ ns.length ≤ 63 ∧ ∀ H', Q (.bl true) H'
end KP
end

section
set_option Elab.async false
set_option linter.all false
set_option maxRecDepth 100000
set_option maxHeartbeats 4000000
/-! the law's last part: literals -/
namespace KP
open PySem PySem.Spec PyProof.Rows L2 Pn StX
theorem wd_dec {z : PySem.Str} (l : List Nat) (e : z.cps.toList = l) (h : (decide (1 ≤ l.length) && decide (l.length ≤ 8) && l.all fun c => decide (97 ≤ c) && decide (c ≤ 122)) = true) : Wd z := by
  rw [Bool.and_eq_true, Bool.and_eq_true, decide_eq_true_iff, decide_eq_true_iff, List.all_eq_true] at h
  refine ⟨by rw [e]; exact h.1.1, by rw [e]; exact h.1.2, fun c m => ?_⟩
  rw [e] at m
  have := h.2 c m
  rw [Bool.and_eq_true, decide_eq_true_iff, decide_eq_true_iff] at this
  exact this
theorem w_a : Wd "a" := wd_dec [97] (by decide +kernel) (by decide)
theorem w_b : Wd "b" := wd_dec [98] (by decide +kernel) (by decide)
theorem w_c : Wd "c" := wd_dec [99] (by decide +kernel) (by decide)
theorem w_m : Wd "m" := wd_dec [109] (by decide +kernel) (by decide)
theorem w_n : Wd "n" := wd_dec [110] (by decide +kernel) (by decide)
theorem w_ab : Wd "ab" := wd_dec [97, 98] (by decide +kernel) (by decide)
theorem w_aa : Wd "aa" := wd_dec [97, 97] (by decide +kernel) (by decide)
def glB : List PB := [(("ab", "a"), []), (("a", "c"), []), (("a", "b"), []), (("aa", "a"), [])]
def glS : List (PySem.Str × PySem.Str) := [("a", "b"), ("a", "c"), ("aa", "a"), ("ab", "a")]
theorem gl_le : glS.Pairwise fun a b => leP a b = true := by decide +kernel
theorem gl_sort : sortP (glB.map (·.1)) = glS := by
  have pm : (glB.map (·.1)).Perm glS := by decide +kernel
  rw [sortP_eq pm]
  exact List.Perm.eq_of_pairwise (le := fun a b => leP a b = true) (fun a b _ _ x y => leP_anti a b x y) (List.pairwise_mergeSort leP_trans leP_total glS) gl_le (sortP_perm glS)
theorem gl_w : BkW ⟨"a", [], glB⟩ := by
  refine ⟨fun x m => ?_, w_a, fun z m => (by cases m), by decide +kernel, by decide +kernel, by decide +kernel, by decide +kernel⟩
  unfold glB at m
  simp only [List.mem_cons, List.not_mem_nil, or_false] at m
  rcases m with rfl | rfl | rfl | rfl
  · exact ⟨.nil, by decide, w_ab, w_a⟩
  · exact ⟨.nil, by decide, w_a, w_c⟩
  · exact ⟨.nil, by decide, w_a, w_b⟩
  · exact ⟨.nil, by decide, w_aa, w_a⟩
theorem gl_shp : SeqAt.shaped (.tuple (glS.map encP)) = true := by decide +kernel
theorem gl_nd {b1 b2 b3 b4 : V} : (([(keyP ("ab", "a"), b1), (keyP ("a", "c"), b2), (keyP ("a", "b"), b3), (keyP ("aa", "a"), b4)] : List (List Key × V)).map (·.1)).Nodup := by
  show ([keyP ("ab", "a"), keyP ("a", "c"), keyP ("a", "b"), keyP ("aa", "a")] : List (List Key)).Nodup
  decide +kernel
theorem bkw_m : BkW ⟨"m", [], []⟩ := ⟨fun x m => (by cases m), w_m, fun z m => (by cases m), by decide +kernel, by decide +kernel, by decide +kernel, by decide +kernel⟩
theorem bkw_n : BkW ⟨"n", [], []⟩ := ⟨fun x m => (by cases m), w_n, fun z m => (by cases m), by decide +kernel, by decide +kernel, by decide +kernel, by decide +kernel⟩
theorem bkw_mm : BkW ⟨"m", ["m"], []⟩ := ⟨fun x m => (by cases m), w_m, fun z m => (by simp at m; subst m; exact w_m), by decide +kernel, by decide +kernel, by decide +kernel, by decide +kernel⟩
theorem bkw_nm : BkW ⟨"m", ["n", "m"], []⟩ := ⟨fun x m => (by cases m), w_m, fun z m => (by simp at m; rcases m with rfl | rfl; exact w_n; exact w_m), by decide +kernel, by decide +kernel, by decide +kernel, by decide +kernel⟩
theorem bkw_mnm : BkW ⟨"m", ["m", "n", "m"], []⟩ := ⟨fun x m => (by cases m), w_m, fun z m => (by simp at m; rcases m with rfl | rfl | rfl; exact w_m; exact w_n; exact w_m), by decide +kernel, by decide +kernel, by decide +kernel, by decide +kernel⟩
/-- a book without bodies -/
theorem mk_bookN {K : PySem.W.Frag} {c : Cs} {cb : Addr} {H : Hp} {x dx r : Addr} {bv : V} {f : PySem.Str} {rs : List PySem.Str} {Qh : Hp → Prop} {E : XK} (nx : H x = none) (ndx : H dx = none) (hb : bv = .non ∨ ∃ d, bv = .ref d ∧ H d = some (.dT [])) (hr : SqL K H r (rs.map V.str) ∨ SqT K H r (rs.map V.str)) (w : BkW ⟨f, rs, []⟩)
    (k : ∀ ys dx' r' d' H', Ext H H' → Asc ys rs → Bk c cb H' x dx' r' d' [] ⟨f, ys, []⟩ → Qh H') : spBookI K c cb [.ref x, .str f, .ref r, bv] (upd (upd H dx (.own x)) x (.ins cb dx [])) (fun v H2 => v = .non ∧ Qh H2) E :=
  ⟨H, x, dx, r, bv, ⟨f, rs, []⟩, [], rfl, ext_mk nx ndx, nx, upd_same, hb.imp (fun z => ⟨z, rfl, rfl⟩) id, hr, .nil, List.nodup_nil, w, fun ys dx' r' d' H' e as hk _ => ⟨rfl, k ys dx' r' d' H' e as hk⟩⟩
end KP
end

section
set_option Elab.async false
set_option linter.all false
set_option maxRecDepth 100000
set_option maxHeartbeats 8000000
/-! the law -/
namespace KP
open PySem PySem.Spec PyProof.Rows L2 Pn StX
theorem scLaw : FnScope ["_law_script", "_law_pen_here", "_law_lap", "_law_one", "_law_quiet", "_law_pair", "_law_given", "_law_book_here", "_law_odd", "_law_is_in", "_law_copy", "_law_glued"] ["_law_script"] (defScope sLaw) := ⟨rfl, rfl, rfl, by decide +kernel, rfl, by decide +kernel, by decide +kernel⟩
theorem PbD.bk11 {W3 : List PySem.Str} {D : BkD} {qs : List PySem.Str} {bs : List PB} (h0 : PbD W3 D) (hq : ∀ z ∈ qs, z ∈ W3) (l : qs.length ≤ 11) (pm : bs.Perm D.bs) : BkW ⟨D.f, qs, bs⟩ := by
  have h : PbD W3 ⟨D.f, [], bs⟩ := h0.re (fun z m => by cases m) (by decide) pm
  have bl : bs.length ≤ 5 := h.bl
  have g : ∀ x ∈ bs, (gosL x.2).length ≤ 172 := fun x m => by
    have a := gosL_sz x.2
    have b := szL_cap (h.ok x m).1.w
    have e : capI 2 = 43 := by decide
    have c := (h.ok x m).2.1
    have d : x.2.length * 43 ≤ 4 * 43 := Nat.mul_le_mul_right _ c
    rw [e] at b
    omega
  have f := flat_len (fun x : PB => gosL x.2) 172 bs g
  have k5 : bs.length * 172 ≤ 5 * 172 := Nat.mul_le_mul_right _ bl
  have len : (mlist D.f qs bs).length ≤ 1000 := by
    unfold mlist
    simp only [List.length_append, List.length_map, List.length_cons, List.length_nil]
    omega
  have in3 : ∀ x ∈ mlist D.f qs bs, x ∈ W3 := fun x m => by
    unfold mlist at m
    rcases List.mem_append.mp m with m | m
    · rcases List.mem_append.mp m with m | m
      · rcases List.mem_append.mp m with m | m
        · obtain ⟨y, my, e⟩ := List.mem_map.mp m
          rw [← e]; exact (h.m y my).1
        · rw [List.mem_singleton.mp m]; exact h0.f
      · exact hq x m
    · obtain ⟨y, my, hx⟩ := List.mem_flatMap.mp m
      exact (h.m y my).2 x hx
  have d3 : (dd (mlist D.f qs bs)).length ≤ 3 := by
    have := dd_le in3
    have := h0.l3
    omega
  have k : (dd (bs.map (·.1.2))).length ≤ (bs.map (·.1.2)).length := dd_le fun x m => m
  rw [List.length_map] at k
  refine ⟨h.ok.w, h0.w _ h0.f, fun z m => h0.w _ (hq z m), len, by show (dd (mlist D.f qs bs)).length < 64; omega, by show bs.length < 64; omega, ?_⟩
  show over D.f qs bs = false
  unfold over
  rw [decide_eq_false (by omega), decide_eq_false (by omega)]
  rfl
theorem law_sd {W3 : List PySem.Str} {D : BkD} {ys ms ks : List PySem.Str} (h : PbD W3 D) (n : (D.bs.map (·.1)).Nodup) (ay : Asc ys D.rs) (am : Asc ms (mlist D.f D.rs D.bs)) (ak : Asc ks (D.bs.map (·.1.2))) : Sd (bookD D.f ys ms ks (rowsOf D.bs)) ∧ (bookD D.f ys ms ks (rowsOf D.bs)).shown.length ≤ 1000000 := by
  have bl := h.bl
  have hy : ∀ z ∈ ys, Wd z := ay.all fun z m => h.w _ (h.r z m)
  have hm : ∀ z ∈ ms, Wd z := am.all fun z m => h.w _ (h.in3 z m)
  have hk : ∀ z ∈ ks, Wd z := ak.all fun z m => by
    obtain ⟨x, mx, rfl⟩ := List.mem_map.mp m
    exact (h.ok x mx).2.2.2
  have l1 := ay.len h.r
  have l2 := am.len h.in3
  have l3 := ak.len (W := D.bs.map (·.1.2)) fun x m => m
  rw [List.length_map] at l3
  have l0 := h.l3
  exact ⟨Sd.book (h.w _ h.f) hy hm hk (h.rows n), book_len (h.w _ h.f) hy hm hk (h.rows n) (by omega) (by omega) (by omega) (by rw [rowsOf_len]; omega)⟩
theorem law_eq {D DB : BkD} {ys ms1 ks1 ms2 ks2 : List PySem.Str} (hf : DB.f = D.f) (hr : Asc DB.rs D.rs) (pm : DB.bs.Perm D.bs) (n : (DB.bs.map (·.1)).Nodup) (ay : Asc ys D.rs) (am1 : Asc ms1 (mlist DB.f DB.rs DB.bs)) (ak1 : Asc ks1 (DB.bs.map (·.1.2))) (am2 : Asc ms2 (mlist D.f D.rs D.bs)) (ak2 : Asc ks2 (D.bs.map (·.1.2))) : bookD DB.f DB.rs ms1 ks1 (rowsOf DB.bs) = bookD D.f ys ms2 ks2 (rowsOf D.bs) := by
  have e1 : DB.rs = ys := hr.uniq ay
  have am : Asc ms1 (mlist D.f D.rs D.bs) := ⟨am1.n, am1.s, fun z => (am1.m z).trans (by rw [hf]; exact mlist_mem hr.m pm z)⟩
  have ak : Asc ks1 (D.bs.map (·.1.2)) := ⟨ak1.n, ak1.s, fun z => (ak1.m z).trans (pm.map (·.1.2)).mem_iff⟩
  rw [hf, e1, am.uniq am2, ak.uniq ak2, rowsOf_perm n pm]
theorem eqBk_of {D D' : BkD} (hf : D.f = D'.f) (hr : D.rs = D'.rs) (pm : D.bs.Perm D'.bs) (n : (D'.bs.map (·.1)).Nodup) : eqBk D D' = true := by
  unfold eqBk
  rw [decide_eq_true hf, decide_eq_true hr, eqBs_perm n pm]
  rfl
theorem Bk.nd {c : Cs} {cb : Addr} {H : Hp} {x dx r d : Addr} {kvs : List (List Key × V)} {D : BkD} (h : Bk c cb H x dx r d kvs D) : (D.bs.map (·.1)).Nodup := h.b.nodup h.n
theorem PbAt.nod {B : Addr → Prop} {H : Hp} {o l d : Addr} {kvs : List (List Key × V)} {D : BkD} (h : PbAt B H o l d kvs D) : (D.bs.map (·.1)).Nodup := h.b.nodup h.n
theorem dBook {K : PySem.W.Frag} {mg : PySem.Str → Option Value} {c : Cs} {cb fBE : Addr} (BE : BkE K cb fBE) (BT : BkT K mg cb) {H : Hp} {x dx r d x' dx' r' d' : Addr} {kvs kvs' : List (List Key × V)} {D D' : BkD} (h : Bk c cb H x dx r d kvs D) (w : BsW D.bs) (h' : Bk c cb H x' dx' r' d' kvs' D') :
    DInsB K cb (fun a y H b => RBk c cb a y H b ∨ RNk K c cb a y H b) (.ref x) (.ref x') H (eqBk D D') :=
  ⟨x, dx, _, _, rfl, h.i, BT.ty.tyx h'.i, BE.nf, .inl ⟨dx, r, d, kvs, D, x', dx', r', d', kvs', D', h, w, rfl, h', rfl⟩⟩
def LapM (c : Cs) (cb p c' a o : Addr) (i n : Nat) (ns : List Int) : List (Option V) → Hp → Prop := fun σ H => ∃ b0 y4 y5 y6 y8 y9 y10 y11, σ = [some (.ref a), some (.ref p), some (.int (0 + i)), some (.ref o), y4, y5, y6, some (.ref b0), y8, y9, y10, y11] ∧ Lap c cb p c' ns n o b0 H
theorem wd_z : Wd "zzzzzzzz" := ⟨by decide +kernel, by decide +kernel, fun c hc => by
  have : c ∈ [122, 122, 122, 122, 122, 122, 122, 122] := by
    have e : ("zzzzzzzz" : PySem.Str).cps.toList = [122, 122, 122, 122, 122, 122, 122, 122] := by decide +kernel
    rw [e] at hc
    exact hc
  simp at this
  subst this
  exact ⟨by decide, by decide⟩⟩
theorem ps_lay {W3 : List PySem.Str} {D : BkD} (h : PbD W3 D) : ∀ z ∈ (D.bs.map (·.1)).map encP, layD z = true := by
  intro z m
  obtain ⟨q, mq, rfl⟩ := List.mem_map.mp m
  obtain ⟨x, mx, rfl⟩ := List.mem_map.mp mq
  have w := h.ok x mx
  have := Sd.p w.2.2.1 w.2.2.2
  unfold layD
  rw [this.1.c, decide_eq_true (by omega)]
  rfl
def OddM (K : PySem.W.Frag) (c : Cs) (cb p c' a o : Addr) (i n : Nat) (ns : List Int) : List (Option V) → Hp → Prop := fun σ H => ∃ b0 y4 y5 y6 x e y10 y11 Bp l d kvs D W3 dx r db kvb DB, σ = [some (.ref a), some (.ref p), some (.int (0 + i)), some (.ref o), y4, y5, y6, some (.ref b0), some x, some (.bl (inB (D.bs.map (·.1)) e)), y10, y11] ∧ PenAt H p c' ns n ∧ LapA c cb p o b0 H Bp l d kvs D W3 dx r db kvb DB ∧ Val K H x e ∧ e.showable = true ∧ e.depth ≤ 10 ∧ e.shown.length ≤ 1000 ∧ PyData.strOk e.shown = true
theorem dqB {K : PySem.W.Frag} {H : Hp} (b : Bool) : Dq K H (.bl b) (.bool b) := by
  refine .pl (.bl b) rfl ?_ ?_
  · cases b <;> rfl
  · cases b <;> simp [PyData.eqv]
theorem lenB (b : Bool) : (PyData.bool b).shown.length ≤ 1000000 := by
  cases b
  · decide +kernel
  · decide +kernel
theorem depB (b : Bool) : (PyData.bool b).depth ≤ 30 := by
  cases b
  · decide +kernel
  · decide +kernel
theorem lay_unk {t : PySem.Str} (h : PyData.strOk t = true) : PyData.canLay0 (.tuple [.str "unknown", .str t, .bool true]) = true := by
  simp only [PyData.canLay0, PyData.canLayAll0, h, Bool.and_true, Bool.true_and]
  decide +kernel
theorem shp_unk {t : PySem.Str} (h : PyData.strOk t = true) : SeqAt.shaped (.tuple [.str "unknown", .str t, .bool true]) = true := by
  unfold SeqAt.shaped
  rw [lay_unk h, decide_eq_true]
  · rfl
  · simp [PyData.depth, PyData.depthAll]
theorem eqv_nil : ∀ zs : List PySem.Str, PyData.eqv (.list (zs.map PyData.str)) (.list []) = decide (zs = [])
  | [] => by simp [PyData.eqv, PyData.eqvAll]
  | z :: zs => by simp [PyData.eqv, PyData.eqvAll]
theorem copy_eq {D DB : BkD} (hr : Asc DB.rs D.rs) (n : (DB.bs.map (·.1)).Nodup) : eqBk ⟨DB.f, [], DB.bs⟩ DB = decide (D.rs = []) := by
  unfold eqBk
  show (decide (DB.f = DB.f) && (decide ([] = DB.rs) && eqBs DB.bs DB.bs)) = _
  rw [decide_eq_true rfl, eqBs_perm n (.refl _), Bool.true_and, Bool.and_true, Bool.eq_iff_iff, decide_eq_true_iff, decide_eq_true_iff]
  constructor
  · intro e
    refine List.eq_nil_iff_forall_not_mem.mpr fun z m => ?_
    have := (hr.m z).mpr m
    rw [← e] at this
    cases this
  · intro e
    refine (List.eq_nil_iff_forall_not_mem.mpr fun z m => ?_).symm
    have := (hr.m z).mp m
    rw [e] at this
    cases this
theorem Asc.nil {ys : List PySem.Str} (h : Asc ys []) : ys = [] := List.eq_nil_iff_forall_not_mem.mpr fun z m => by
  have := (h.m z).mp m
  cases this
def CopM (K : PySem.W.Frag) (c : Cs) (cb p c' a o : Addr) (i n : Nat) (ns : List Int) : List (Option V) → Hp → Prop := fun σ H => ∃ b0 y4 y5 y6 y8 y9 y11 Bp l d kvs D W3 dx r db kvb DB cp cx cr cd, σ = [some (.ref a), some (.ref p), some (.int (0 + i)), some (.ref o), y4, y5, y6, some (.ref b0), y8, y9, some (.ref cp), y11] ∧ PenAt H p c' ns n ∧ LapA c cb p o b0 H Bp l d kvs D W3 dx r db kvb DB ∧ Bk c cb H cp cx cr cd kvb ⟨DB.f, [], DB.bs⟩
theorem eq_m0 {ys zs : List PySem.Str} (a : Asc ys []) (b : Asc zs []) : eqBk ⟨"m", ys, []⟩ ⟨"m", zs, []⟩ = true := eqBk_of rfl (a.uniq b) (.refl _) List.nodup_nil
theorem eq_mn {ys zs : List PySem.Str} : eqBk ⟨"m", ys, []⟩ ⟨"n", zs, []⟩ = false := by
  unfold eqBk
  rw [decide_eq_false (by decide +kernel : ¬ (("m" : PySem.Str) = "n")), Bool.false_and]
theorem eq_m1 {ys zs : List PySem.Str} (a : Asc ys []) (b : Asc zs ["m"]) : eqBk ⟨"m", ys, []⟩ ⟨"m", zs, []⟩ = false := by
  have e := a.nil
  subst e
  unfold eqBk
  have : ¬ (([] : List PySem.Str) = zs) := fun e => by
    have := (b.m "m").mpr List.mem_cons_self
    rw [← e] at this
    cases this
  show (_ && (decide (([] : List PySem.Str) = zs) && _)) = false
  rw [decide_eq_false this, Bool.false_and, Bool.and_false]
theorem eq_nm {ys zs : List PySem.Str} (a : Asc ys ["n", "m"]) (b : Asc zs ["m", "n", "m"]) : eqBk ⟨"m", ys, []⟩ ⟨"m", zs, []⟩ = true := by
  have b2 : Asc zs ["n", "m"] := ⟨b.n, b.s, fun z => (b.m z).trans (by
    simp only [List.mem_cons, List.not_mem_nil, or_false]
    exact ⟨fun h => h.elim .inr id, .inr⟩)⟩
  exact eqBk_of rfl (a.uniq b2) (.refl _) List.nodup_nil
section
variable {P : Program} {w : World} {K : PySem.W.Frag} {mg : Str → Option Value} {base : Heap}
theorem ok_law {W : Lw} (F : LwF K mg W) {f : Addr} {fd : FuncData} (FL : Fun K "law" "law" sLaw f fd) : FnG P w K mg base CX0 20 f fd ["_law_script"] (spLaw K) := by
  refine FL.okG scLaw (fun vs H Q E h => ?_) (fun cdv A outer s H vs Q E hg hr h => ?_)
  · obtain ⟨a, ns, rfl, _⟩ := h
    rfl
  have GPen : FnOk P w K mg base CX0 1 W.aPen W.dPen ["_law_script"] (spPen K) := ok_pen F.pen.F F.N.T1
  have GD : FnOk P w K mg base CX0 1 W.aDraw W.dDraw ["_law_pen_here", "_law_size"] spDraw := ok_draw F.draw.F F.N.T1
  have GP : FnOk P w K mg base CX0 2 W.aPick W.dPick ["_law_pen_here", "_law_items_here"] (spPick2 K) := ok_pick F.pick.F F.N.T1 F.draw.F F.draw.b F.draw.g
  have GSh : FnOk P w K mg base CX0 2 W.aShuf W.dShuf ["_law_pen_here", "_law_items_here"] (spShuffled K) := ok_shuffled F.shuf.F F.N.T1 F.draw.F F.draw.b F.draw.g
  have GAn : FnOk P w K mg base CX0 3 W.aAny W.dAny ["_law_pen_here"] (spAny K) := ok_any F.any.F F.N.T1 F.draw.F F.draw.b F.draw.g F.pick.F F.pick.b F.pick.g
  have GN : FnOk P w K mg base CX0 4 W.aNames W.dNames ["_law_pen_here"] spNames := ok_names F.names.F F.N.T1 F.draw.F F.draw.b F.draw.g F.pick.F F.pick.b F.pick.g F.words.F F.words.b F.words.g
  have GLB : FnOk P w K mg base CX0 9 W.aBook W.dBook ["_law_pen_here", "_law_names_here"] (spLBook K) := ok_lBook F.book.F F.N.T1 F.draw.F F.draw.b F.draw.g F.pick.F F.pick.b F.pick.g F.shuf.F F.shuf.b F.shuf.g F.item.F F.item.b F.item.g F.items.F F.items.b F.items.g
  have GM : FnOk P w K mg base CX0 12 W.aMade W.dMade ["_law_one"] (spMade W.c 2) := ok_made F.made.F F.T3 F.N.T1 F.N.U F.N.B F.R F.Z0 F.Y0 F.TO F.CT F.made.b F.made.g
  have GPl : FnOk P w K mg base CX0 5 W.aPlain W.dPlain ["_law_item_here"] (spPlain W.c 2) := ok_plain F.plain.F F.N.T1 F.N.B F.N.A' F.Z.FE F.Z.bE F.Z.gE F.plain.b F.plain.g
  have GB : FnR P w K mg base (L2.CX P w) 5 W.iB (spBodyI K W.c W.C) := ok_bodyI F.Y0.body F.T3 F.N.B F.R F.Z0
  have GO : FnR P w K mg base (L2.CX P w) 7 W.gB (spBodyOf K W.c W.C) := FnR.imp (FnOk.raw (ok_bodyO F.OB F.T3 F.N.B F.R F.Z0 F.Y0) F.CB.b .nil) (fun vs H Q E h => by rw [List.append_nil]; exact h)
  have GMb : FnOk P w K mg base CX0 13 W.aMadeB W.dMadeB ["_law_items_here"] (spMadeB W.c) := ok_madeB F.madeB.F F.N.B GM F.made.b F.made.g GO F.CB
  have GI : FnOk P w K mg base CX0 7 W.fI W.dI ["self", "first", "rest", "bodies"] (spBookI K W.c W.cb) := ok_bookI F.MB.F F.N F.Y F.Z F.BT
  have GBk : FnOk P w K mg base CX0 14 W.aMadeBk W.dMadeBk ["_law_one"] (spMadeBk W.c W.cb) := ok_madeBk F.madeBk.F F.N F.Y F.Z F.BT F.MB GMb F.madeB.b F.madeB.g
  have GSo : FnOk P w K mg base CX0 8 W.aShown W.dShown ["_law_book_here"] (spShown K W.c W.cb) := ok_shown F.shown.F F.N F.Y F.Z F.BT F.CN F.O F.BP GPl F.plain.b F.plain.g
  have GDu : FnOk P w K mg base CX0 6 W.aDue W.dDue ["_law_one"] (spDue K) := ok_due F.due.F F.N.T1 F.N.TG F.gone.F F.gone.b F.gone.g F.modes.F F.modes.b F.modes.g
  have GAt : FnG P w K mg base CX0 8 W.aAt W.dAt ["_law_book_here", "_law_value"] (spAtB K W.c W.cb) := ok_atB F.at_.F F.N F.Y F.Z F.BT F.CN F.O F.BP GPl F.plain.b F.plain.g
  have GLn : FnOk P w K mg base CX0 1 W.fLn W.dLn ["self"] (spLenB W.c W.cb) := ok_lenB F.FLn F.N F.BT
  have GCo : FnOk P w K mg base CX0 4 W.fCo W.dCo ["self", "pair"] (spCon K W.c W.cb) := ok_con F.CN.F F.N F.Y F.BT
  have GCp : FnOk P w K mg base CX0 9 W.fCp W.dCp ["self"] (spCopied W.c W.cb) := ok_copied F.FCp F.N F.Y F.Z F.BT F.MB
  have GSr : FnOk P w K mg base CX0 7 W.fSr W.dSr ["self", "modes"] (spSetRest K W.c W.cb) := ok_setRest F.FSr F.N F.Y F.Z F.BT
  have GSt : FnOk P w K mg base CX0 1 W.fSt W.dSt ["self"] (spStr W.c W.cb) := ok_str F.BP.FS F.N F.BT
  have ME : EqF P w K mg base W.c W.qS W.qP W.qG W.qT W.qB W.rS W.rP W.rG W.rTt W.rB := ⟨ok_sayE F.M.S F.N.T1 F.N.B F.N.A', ok_pressE F.M.P F.N.T1 F.N.B F.N.A', ok_goE F.M.G F.N.T1 F.N.B F.N.A', F.M.bS, F.M.bP, F.M.bG, F.M.bT, F.M.bB, F.M.mS, F.M.mP, F.M.mG, F.M.mT, F.M.mB⟩
  have GB0 : FnOk P w K mg base CX0 (3 * 0 + 3) W.qB W.rB ["self", "other"] (spEqB fun a y H b => RB W.c 0 a y H b ∨ RN K W.c a y H b) := ok_bodyE 0 F.M.B F.N.T1 ME F.N.B F.N.A' (fun d' e => by omega)
  have GT0 : FnOk P w K mg base CX0 (3 * 0 + 4) W.qT W.rTt ["self", "other"] (spEqB (RT W.c 0)) := ok_timesE 0 F.M.T F.N.T1 ME F.N.B F.N.A' GB0
  have GT0' : ∀ d', 1 = d' + 1 → FnOk P w K mg base CX0 (3 * d' + 4) W.qT W.rTt ["self", "other"] (spEqB (RT W.c d')) := fun d' e => by
    have : d' = 0 := by omega
    subst this
    exact GT0
  have GB1 : FnOk P w K mg base CX0 (3 * 1 + 3) W.qB W.rB ["self", "other"] (spEqB fun a y H b => RB W.c 1 a y H b ∨ RN K W.c a y H b) := ok_bodyE 1 F.M.B F.N.T1 ME F.N.B F.N.A' GT0'
  have GT1 : FnOk P w K mg base CX0 (3 * 1 + 4) W.qT W.rTt ["self", "other"] (spEqB (RT W.c 1)) := ok_timesE 1 F.M.T F.N.T1 ME F.N.B F.N.A' GB1
  have GTE : ∀ d', 2 = d' + 1 → FnOk P w K mg base CX0 (3 * d' + 4) W.qT W.rTt ["self", "other"] (spEqB (RT W.c d')) := fun d' e => by
    have : d' = 1 := by omega
    subst this
    exact GT1
  have GBE : FnOk P w K mg base CX0 9 W.qB W.rB ["self", "other"] (spEqB fun a y H b => RB W.c 2 a y H b ∨ RN K W.c a y H b) := ok_bodyE 2 F.M.B F.N.T1 ME F.N.B F.N.A' GTE
  have GEq : FnOk P w K mg base CX0 12 W.fBE W.dBE ["self", "other"] (spEqB fun a y H b => RBk W.c W.cb a y H b ∨ RNk K W.c W.cb a y H b) := ok_bookE F.FE F.N F.BT F.BE.kb F.FT F.bT F.gT GBE F.M.bB F.M.mB
  obtain ⟨a, ns, rfl, hS, hl, kQ⟩ := h
  have hu := hu_of hr
  have hu65 : (A.deeper (envOfC "law" (defScope sLaw) s.heap.objs.size f cdv)).units + 65 < cLine := by have := hr.un; omega
  have hr14 : Room 15 _ := hr.mono (by decide)
  have hr13 : Room 13 _ := hr.mono (by decide)
  have hr12 : Room 12 _ := hr.mono (by decide)
  have hr9 : Room 9 _ := hr.mono (by decide)
  have hr8 : Room 8 _ := hr.mono (by decide)
  have hr7 : Room 7 _ := hr.mono (by decide)
  have hr6 : Room 6 _ := hr.mono (by decide)
  have hr4 : Room 4 _ := hr.mono (by decide)
  have hr3 : Room 3 _ := hr.mono (by decide)
  have hr2 : Room 2 _ := hr.mono (by decide)
  have hr1 : Room 1 _ := hr.mono (by decide)
  refine ⟨_, (pss_cons (ps_set (i := 1) scLaw.nd rfl (Or.inl rfl) (pe_call GPen hr1 rfl F.pen.g.g F.pen.g.k F.pen.b .nil pass0 (pa_cons (pv 0) pa_nil)))
      (C8.pss_cut (ps_for PassesOwn.never rfl (pi_range1 (by rfl) F.N.T1.range (pa_cons (pe_op op_add pe_int (pe_callB (call_min2 rfl) (by rfl) F.min (by decide +kernel) (pa_cons pe_int (pa_cons (pe_callB call_len_seq (by rfl) F.N.T1.len PySem.boot_len (pa_cons (pv 0) pa_nil)) pa_nil)))) pa_nil)) (pg_name (i := 2) scLaw.nd rfl (Or.inl rfl)) (C8.pss_cut (ps_set (i := 3) scLaw.nd rfl (Or.inr rfl) (pe_call GLB hr9 rfl F.book.g.g F.book.g.k F.book.b .nil pass0 (pa_cons (pv 1) (pa_cons (pe_call GN hr4 rfl F.names.g.g F.names.g.k F.names.b .nil pass0 (pa_cons (pv 1) pa_nil)) pa_nil))))
      (pss_cons (ps_set (i := 4) scLaw.nd rfl (Or.inl rfl) (pe_op op_cat (pe_callTy call_list_of (by rfl) F.N.T1.list (by decide +kernel) (pa_cons (pe_ix ix_tup (pv 3) pe_int (fun _ _ => rfl)) pa_nil)) (pe_slice sl_list (pe_callTy call_list_of (by rfl) F.N.T1.list (by decide +kernel) (pa_cons (pe_ix ix_tup (pv 3) pe_int (fun _ _ => rfl)) pa_nil)) po_none (po_some (pe_call GD hr1 rfl F.draw.g.g F.draw.g.k F.draw.b .nil pass0 (pa_cons (pv 1) (pa_cons pe_int pa_nil)))))))
      (pss_cons (ps_set (i := 6) scLaw.nd rfl (Or.inl rfl) (pe_callTy (T := "dict") (call_dictT rfl hr.units) (by rfl) F.N.V3.dict (by decide +kernel) (pa_cons (pe_lc (own := [("_law_pair", 5)]) (g := gName 5) (tt := tYes) rfl scLaw.nd (pi_list (pe_call GSh hr2 rfl F.shuf.g.g F.shuf.g.k F.shuf.b .nil pass0 (pa_cons (pv 1) (pa_cons (pe_callTy (T := "list") (call_list_dT rfl) (by rfl) F.N.T1.list (by decide +kernel) (pa_cons (pe_ix ix_tup (pv 3) pe_int (fun _ _ => rfl)) pa_nil)) pa_nil)))) (blkOk_by (N := ["_law_script", "_law_pen_here", "_law_lap", "_law_one", "_law_quiet", "_law_pair", "_law_given", "_law_book_here", "_law_odd", "_law_is_in", "_law_copy", "_law_glued"]) (sc := defScope sLaw) (by decide +kernel)) (fun _ _ _ _ _ => pg_name (i := 5) scLaw.nd rfl (Or.inl rfl)) (fun _ _ _ _ _ => pts_nil) (fun _ _ _ _ _ => (pe_tup (pa_cons (pv 5) (pa_cons (pe_call GMb hr13 rfl F.madeB.g.g F.madeB.g.k F.madeB.b .nil pass0 (pa_cons (pe_dget hu (pe_ix (r := rIxT K) ix_tup (pv 3) pe_int (fun _ _ => rfl)) (pv 5) (fun _ _ => rfl)) pa_nil)) pa_nil))))) pa_nil)))
      (pss_cons (ps_set (i := 7) scLaw.nd rfl (Or.inr rfl) (pe_make F.MB.m GI hr8 rfl F.BT.g F.MB.b .nil pass0 (pa_cons (pe_ix ix_tup (pv 3) pe_int (fun _ _ => rfl)) (pa_cons (pv 4) (pa_cons (pv 6) pa_nil)))))
      (pss_cons (ps_expr (pe_bm PySem.F.plainAttrs_list PySem.F.slot_list_append PySem.F.type_list_append mt_append (pv 4) (pa_cons pe_str pa_nil)))
      (C8.pss_cut (ps_expr (pe_clearT (pv 6)))
      (C8.pss_cut (ps_if (PW.pt (pw_or (pt_cmpR op_ne (pe_callB (r := rReprB K) (call_reprB hg hr.units) (by rfl) F.N.T1.repr (by decide +kernel) (pa_cons (pe_call GSo hr8 rfl F.shown.g.g F.shown.g.k F.shown.b .nil pass0 (pa_cons (pv 7) pa_nil)) pa_nil)) (pe_callB (r := rReprB K) (call_reprB hg hr.units) (by rfl) F.N.T1.repr (by decide +kernel) (pa_cons (pe_call GDu hr6 rfl F.due.g.g F.due.g.k F.due.b .nil pass0 (pa_cons (pv 3) pa_nil)) pa_nil)) (nomark _)) (pw_or (pt_cmpR op_ne (pe_callB (call_lenO (E := fun _ _ _ => False) F.iLn F.nLn GLn hr2 F.bLn pass0) (by rfl) F.N.T1.len PySem.boot_len (pa_cons (pv 7) pa_nil)) (pe_callB call_len_dT (by rfl) F.N.T1.len PySem.boot_len (pa_cons (pe_ix ix_tup (pv 3) pe_int (fun _ _ => rfl)) pa_nil)) (nomark _)) (pw_or1 (pt_cmpR (op_neB (ncB_ins (E := fun _ _ _ => False) GEq F.BE.m.at_ F.BE.m.fn F.BE.m.ne F.bE pass0) hr13) (pv 7) (pe_call GBk (hr.mono (by decide)) rfl F.madeBk.g.g F.madeBk.g.k F.madeBk.b .nil pass0 (pa_cons (pv 3) pa_nil)) (nomark _)))))) (pss_one (ps_ret pe_bl)) pss_nil)
      (C8.pss_cut (ps_if (PW.pt (pw_or (pt_cmpR (op_neD hr.units) (pe_lock (pe_lc (own := [("_law_pair", 5)]) (g := gName 5) (tt := _) rfl scLaw.nd (pi_keys (pe_ix ix_tup (pv 3) pe_int (fun _ _ => rfl))) (blkOk_by (N := ["_law_script", "_law_pen_here", "_law_lap", "_law_one", "_law_quiet", "_law_pair", "_law_given", "_law_book_here", "_law_odd", "_law_is_in", "_law_copy", "_law_glued"]) (sc := defScope sLaw) (by decide +kernel)) (fun _ _ _ _ _ => pg_name (i := 5) scLaw.nd rfl (Or.inl rfl)) (fun _ _ _ _ _ => pts_one (pt_cmpR (op_notInO (E := fun _ _ _ => False) F.CN.i F.CN.f GCo hr4 F.CN.b pass0) (pv 5) (pv 7) rfl)) (fun _ _ _ _ _ => pv 5))) (pe_lst pa_nil) (nomark _)) (pw_or (pt_cmpR (op_neB (ncB_ins (E := fun _ _ _ => False) GEq F.BE.m.at_ F.BE.m.fn F.BE.m.ne F.bE pass0) hr13) (pv 7) (pe_meth0 (pv 7) F.BT.ty.cl F.mCp GCp hr9 F.bCp .nil pass0) (nomark _)) (pw_or1 (pt_cmpR (op_eqB (rcB_ins (E := fun _ _ _ => False) GEq F.BE.m.at_ F.BE.m.fn F.bE pass0) hr12) (pv 7) (pv 3) (nomark _)))))) (pss_one (ps_ret pe_bl)) pss_nil)
      (pss_cons (ps_set (i := 8) scLaw.nd rfl (Or.inl rfl) (pe_call GP hr2 rfl F.pick.g.g F.pick.g.k F.pick.b .nil pass0 (pa_cons (pv 1) (pa_cons (pe_lst (pa_cons (pe_call GAn hr3 rfl F.any.g.g F.any.g.k F.any.b .nil pass0 (pa_cons (pv 1) pa_nil)) (pa_cons (pe_tup (pa_cons (pe_ix ix_tup (pv 3) pe_int (fun _ _ => rfl)) (pa_cons pe_str pa_nil))) (pa_cons (pe_tup (pa_cons (pe_ix ix_tup (pv 3) pe_int (fun _ _ => rfl)) pa_nil)) (pa_cons (pe_callTy (T := "list") (call_list_dT rfl) (by rfl) F.N.T1.list (by decide +kernel) (pa_cons (pe_ix ix_tup (pv 3) pe_int (fun _ _ => rfl)) pa_nil)) pa_nil))))) pa_nil))))
      (C8.pss_cut (ps_set (i := 9) scLaw.nd rfl (Or.inl rfl) (pe_and (pe_callB call_isi (by rfl) F.N.T1.isi bIsi (pa_cons (pv 8) (pa_cons (pe_bltn (v := .ty "tuple") (by rfl) F.N.V3.tuple (by decide +kernel) rfl) pa_nil))) (pe_one (pe_cmpR (op_inD hu65) (pv 8) (pe_callTy (T := "list") (call_list_dT rfl) (by rfl) F.N.T1.list (by decide +kernel) (pa_cons (pe_ix ix_tup (pv 3) pe_int (fun _ _ => rfl)) pa_nil)) rfl))))
      (C8.pss_cut (ps_if (PW.pt (pw_or (pt_cmpR op_ne (pe_callB (r := rReprB K) (call_reprB hg hr.units) (by rfl) F.N.T1.repr (by decide +kernel) (pa_cons (pe_cmpR (op_inO (E := fun _ _ _ => False) F.CN.i F.CN.f GCo hr4 F.CN.b pass0) (pv 8) (pv 7) rfl) pa_nil)) (pe_callB (r := rReprB K) (call_reprB hg hr.units) (by rfl) F.N.T1.repr (by decide +kernel) (pa_cons (pv 9) pa_nil)) (nomark _)) (pw_or1 (PW.pt (pw_and (pt_not (pt_val (pv 9))) (pw_and1 (pt_cmpR (op_neD hr.units) (pe_callG (E := fun _ _ _ => False) GAt hg hr8 rfl F.at_.g.g F.at_.g.k F.at_.b (pa_cons (pv 7) (pa_cons (pv 8) pa_nil))) (pe_tup (pa_cons pe_str (pa_cons (pe_callB (r := rReprB K) (call_reprB hg hr.units) (by rfl) F.N.T1.repr (by decide +kernel) (pa_cons (pv 8) pa_nil)) (pa_cons pe_bl pa_nil)))) (nomark _)))))))) (pss_one (ps_ret pe_bl)) pss_nil)
      (pss_cons (ps_set (i := 10) scLaw.nd rfl (Or.inl rfl) (pe_meth0 (pv 7) F.BT.ty.cl F.mCp GCp hr9 F.bCp .nil pass0))
      (C8.pss_cut (ps_expr (pe_methK0 (pv 10) F.BT.ty.cl F.mSr GSr hr7 F.bSr pass0 (pk_cons (pe_lst pa_nil) pk_nil)))
      (pss_one (ps_if (PW.pt (pw_or (pt_cmpR op_ne (pe_cmpR (op_eqB (rcB_ins (E := fun _ _ _ => False) GEq F.BE.m.at_ F.BE.m.fn F.bE pass0) hr12) (pv 10) (pv 7) (nomark _)) (pe_cmpR (op_eqD hr.units) (pe_callTy call_list_of (by rfl) F.N.T1.list (by decide +kernel) (pa_cons (pe_ix ix_tup (pv 3) pe_int (fun _ _ => rfl)) pa_nil)) (pe_lst pa_nil) (nomark _)) (nomark _)) (pw_or1 (pt_cmpR op_ne (pe_callB (r := rReprB K) (call_reprB hg hr.units) (by rfl) F.N.T1.repr (by decide +kernel) (pa_cons (pe_call GSo hr8 rfl F.shown.g.g F.shown.g.k F.shown.b .nil pass0 (pa_cons (pv 7) pa_nil)) pa_nil)) (pe_callB (r := rReprB K) (call_reprB hg hr.units) (by rfl) F.N.T1.repr (by decide +kernel) (pa_cons (pe_call GDu hr6 rfl F.due.g.g F.due.g.k F.due.b .nil pass0 (pa_cons (pv 3) pa_nil)) pa_nil)) (nomark _))))) (pss_one (ps_ret pe_bl)) pss_nil))))))))))))))))
      (pss_cons (ps_set (i := 11) scLaw.nd rfl (Or.inl rfl) (pe_make F.MB.m GI hr8 rfl F.BT.g F.MB.b .nil pass0 (pa_cons pe_str (pa_cons (pe_lst pa_nil) (pa_cons (pe_dispT hr.units0 (pps_cons (pe_tup (pa_cons pe_str (pa_cons pe_str pa_nil))) (pe_makeR0 F.Y0.mB GB hr6 rfl F.N.B.gBody passF) (pps_cons (pe_tup (pa_cons pe_str (pa_cons pe_str pa_nil))) (pe_makeR0 F.Y0.mB GB hr6 rfl F.N.B.gBody passF) (pps_cons (pe_tup (pa_cons pe_str (pa_cons pe_str pa_nil))) (pe_makeR0 F.Y0.mB GB hr6 rfl F.N.B.gBody passF) (pps_cons (pe_tup (pa_cons pe_str (pa_cons pe_str pa_nil))) (pe_makeR0 F.Y0.mB GB hr6 rfl F.N.B.gBody passF) pps_nil)))) (by rfl) (by rfl) (fun z => by cases z) (by decide)) pa_nil)))))
      (C8.pss_cut (ps_if (pt_cmpR (op_neD hr.units) (pe_prop (pv 11) F.BT.ty.cl F.BP.gS GSt hr2 F.BP.bS .nil pass0 rfl) (pe_tup (pa_cons (pe_tup (pa_cons pe_str (pa_cons pe_str pa_nil))) (pa_cons (pe_tup (pa_cons pe_str (pa_cons pe_str pa_nil))) (pa_cons (pe_tup (pa_cons pe_str (pa_cons pe_str pa_nil))) (pa_cons (pe_tup (pa_cons pe_str (pa_cons pe_str pa_nil))) pa_nil))))) (nomark _)) (pss_one (ps_ret pe_bl)) pss_nil)
      (C8.pss_cut (ps_if (PW.pt (pw_or (pt_cmpR (op_neB (ncB_ins (E := fun _ _ _ => False) GEq F.BE.m.at_ F.BE.m.fn F.BE.m.ne F.bE pass0) hr13) (pe_make F.MB.m GI hr8 rfl F.BT.g F.b1 F.v1 pass0 (pa_cons pe_str pa_nil)) (pe_make F.MB.m GI hr8 rfl F.BT.g F.b2 F.v2 pass0 (pa_cons pe_str (pa_cons (pe_lst pa_nil) pa_nil))) (nomark _)) (pw_or (pt_cmpR (op_eqB (rcB_ins (E := fun _ _ _ => False) GEq F.BE.m.at_ F.BE.m.fn F.bE pass0) hr12) (pe_make F.MB.m GI hr8 rfl F.BT.g F.b1 F.v1 pass0 (pa_cons pe_str pa_nil)) (pe_make F.MB.m GI hr8 rfl F.BT.g F.b1 F.v1 pass0 (pa_cons pe_str pa_nil)) (nomark _)) (pw_or1 (pt_cmpR (op_eqB (rcB_ins (E := fun _ _ _ => False) GEq F.BE.m.at_ F.BE.m.fn F.bE pass0) hr12) (pe_make F.MB.m GI hr8 rfl F.BT.g F.b1 F.v1 pass0 (pa_cons pe_str pa_nil)) (pe_make F.MB.m GI hr8 rfl F.BT.g F.b2 F.v2 pass0 (pa_cons pe_str (pa_cons (pe_lst (pa_cons pe_str pa_nil)) pa_nil))) (nomark _)))))) (pss_one (ps_ret pe_bl)) pss_nil)
      (pss_one (ps_ret (pe_and (pe_cmpR (op_eqB (rcB_ins (E := fun _ _ _ => False) GEq F.BE.m.at_ F.BE.m.fn F.bE pass0) hr12) (pe_make F.MB.m GI hr8 rfl F.BT.g F.b2 F.v2 pass0 (pa_cons pe_str (pa_cons (pe_lst (pa_cons pe_str (pa_cons pe_str pa_nil))) pa_nil))) (pe_make F.MB.m GI hr8 rfl F.BT.g F.b2 F.v2 pass0 (pa_cons pe_str (pa_cons (pe_tup (pa_cons pe_str (pa_cons pe_str (pa_cons pe_str pa_nil)))) pa_nil))) (nomark _)) (pe_one (pe_cmpR (op_eqB (rcB_ins (E := fun _ _ _ => False) GEq F.BE.m.at_ F.BE.m.fn F.bE pass0) hr12) (pe_makeK0 F.MB.m GI hr8 rfl F.BT.g F.b3 pass0 (pk_cons pe_dnewT (pk_cons (pe_tup pa_nil) (pk_cons pe_str pk_nil)))) (pe_make F.MB.m GI hr8 rfl F.BT.g F.b1 F.v1 pass0 (pa_cons pe_str pa_nil)) (nomark _))))))))))), ?_⟩
  refine ⟨_, rfl, a, ns, rfl, hS, hl, fun p c' H1 S1 hp0 hP1 => ?_⟩
  clear GPen GD GP GSh GAn GN GLB GM GPl GB GO GMb GI GBk GSo GDu GAt GLn GCo GCp GSr GSt GEq GBE GTE GT1 GB1 GT0' GT0 GB0 ME hr14 hr13 hr12 hr9 hr8 hr7 hr6 hr4 hr3 hr2 hr1 hu hu65 FL
  have ml : (ns.map V.int).length ≤ 63 := by rw [List.length_map]; exact hl
  refine ⟨fun σ Hk => ∃ y2 y3 y4 y5 y6 y7 y8 y9 y10 y11, σ = [some (.ref a), some (.ref p), y2, y3, y4, y5, y6, y7, y8, y9, y10, y11], ?_, ?_⟩
  · refine ⟨_, rfl, a, _, rfl, .inl (S1.seq hS), _, _, rfl, _, _, rfl, rfl, _, rfl, ?lo, ?hi, for_range (lo := 0) (n := ((6 : Int) + (if (((ns.map V.int).length : Nat) : Int) < 6 then (((ns.map V.int).length : Nat) : Int) else 6)).toNat) (fun i σ Hk => ∃ y2 y3 y4 y5 y6 y7 y8 y9 y10 y11, σ = [some (.ref a), some (.ref p), y2, y3, y4, y5, y6, y7, y8, y9, y10, y11] ∧ PenAt Hk p c' ns (i * 5000)) ⟨none, none, none, none, none, none, none, none, none, none, rfl, by rw [Nat.zero_mul]; exact hP1⟩ ?hs ?hd⟩
    case lo => split <;> omega
    case hi => split <;> omega
    case hs => 
      rintro i σ Hk hi ⟨y2, y3, y4, y5, y6, y7, y8, y9, y10, y11, rfl, hP⟩
      have i12 : i < 12 := by
        have : ((6 : Int) + (if (((ns.map V.int).length : Nat) : Int) < 6 then (((ns.map V.int).length : Nat) : Int) else 6)).toNat ≤ 12 := by split <;> omega
        omega
      clear hi hP1 hS kQ
      obtain ⟨ks, hp⟩ := hP.at
      -- the book's own tuple
      refine ⟨fun σ H => ∃ o Bp l d kvs D W3, σ = [some (.ref a), some (.ref p), some (.int (0 + i)), some (.ref o), y4, y5, y6, y7, y8, y9, y10, y11] ∧ PenAt H p c' ns (i * 5000 + 4100) ∧ Bp p ∧ PbAt Bp H o l d kvs D ∧ PbD W3 D, ?_, ?_⟩
      · refine ⟨_, rfl, _, rfl, p, c', ns, _, rfl, hP, by omega, hl, fun an H3 han hN3 hB3 hP3 => ?_⟩
        obtain ⟨kv3, hp3⟩ := hP3.at
        refine ⟨p, c', an, ns, _, rfl, hP3, hN3, by omega, hl, fun W3 o l d kvs D H4 ho hA hD hB4 hP4 => ?_⟩
        obtain ⟨kv4, hp4⟩ := hP4.at
        have hA2 := hA.ref hp4
        exact ⟨o, _, l, d, kvs, D, W3, rfl, hP4.mono (by omega), .inr rfl, hA2, hD⟩
      clear hP hp
      rintro σ H5 ⟨o, Bp, l, d, kvs, D, W3, rfl, hP5, bp, hA5, hD⟩
      obtain ⟨ks5, hp5⟩ := hP5.at
      have hA := hA5.ref hp5
      generalize hB0 : (fun b => H5 b = none ∨ b = p) = B0 at hA
      have B0n : ∀ {a}, H5 a = none → B0 a := fun {a} z => by rw [← hB0]; exact .inl z
      have B0p : B0 p := by rw [← hB0]; exact .inr rfl
      have at0 : ∀ {Hk : Hp}, But p H5 Hk → PbAt B0 Hk o l d kvs D := fun {Hk} b => by
        rw [← hB0] at hA ⊢
        exact hA.at b
      clear hB0 hA5 bp Bp
      have ln := hA.b.len
      have bl := hD.bl
      have rl := hD.rl
      refine ⟨_, rfl, o, _, 1, _, rfl, rfl, SqT.of hA.i, atI_nat rfl, l, _, rfl, .inl (SqL.of hA.r), fun q1 hq1 => ?_⟩
      have e1 : Ext H5 (upd H5 q1 (.lst (D.rs.map V.str))) := Ext.upd hq1
      have h1 : upd H5 q1 (.lst (D.rs.map V.str)) q1 = some (.lst (D.rs.map V.str)) := upd_same
      generalize upd H5 q1 (.lst (D.rs.map V.str)) = H6 at e1 h1 ⊢
      have b6 : But p H5 H6 := But.ofExt e1
      refine ⟨_, rfl, o, _, 1, _, rfl, rfl, SqT.of (at0 b6).i, atI_nat rfl, l, _, rfl, .inl (SqL.of (at0 b6).r), fun q2 hq2 => ?_⟩
      have e2 : Ext H6 (upd H6 q2 (.lst (D.rs.map V.str))) := Ext.upd hq2
      have h2 : upd H6 q2 (.lst (D.rs.map V.str)) q2 = some (.lst (D.rs.map V.str)) := upd_same
      generalize upd H6 q2 (.lst (D.rs.map V.str)) = H7 at e2 h2 ⊢
      have b7 := But.ext b6 e2
      have hP7 := (hP5.same e1).same e2
      obtain ⟨ks7, hp7⟩ := hP7.at
      refine ⟨_, rfl, p, c', ns, _, 2, rfl, hP7, by omega, hl, by decide, by decide, fun d0 H8 d00 d01 hB8 hP8 => ?_⟩
      obtain ⟨ks8, hp8⟩ := hP8.at
      have b8 := b7.trans hB8
      have h2' := hB8 _ _ (ne_of h2 hp7 (by intro z; cases z)) h2
      have h1' := hB8 _ _ (ne_of (e2 _ _ h1) hp7 (by intro z; cases z)) (e2 _ _ h1)
      obtain ⟨k0, rfl⟩ := Int.eq_ofNat_of_zero_le d00
      obtain ⟨k1, hk1, ct⟩ : ∃ k1, k1 ≤ 1 ∧ cutV (D.rs.map V.str) none (some (k0 : Int)) = (D.rs.take k1).map V.str := ⟨min k0 (D.rs.map V.str).length, by have := Nat.min_le_left k0 (D.rs.map V.str).length; omega, by rw [cut_take, List.map_take]⟩
      refine ⟨_, rfl, q2, _, rfl, SqL.of h2', fun q3 hq3 => ?_⟩
      rw [ct]
      have e3 : Ext H8 (upd H8 q3 (.lst ((D.rs.take k1).map V.str))) := Ext.upd hq3
      have h3 : upd H8 q3 (.lst ((D.rs.take k1).map V.str)) q3 = some (.lst ((D.rs.take k1).map V.str)) := upd_same
      generalize upd H8 q3 (.lst ((D.rs.take k1).map V.str)) = H9 at e3 h3 ⊢
      have b9 := But.ext b8 e3
      have hP9 := hP8.same e3
      have h19 := e3 _ _ h1'
      have tk1 : (D.rs.take k1).length ≤ 1 := by rw [List.length_take]; omega
      have rlW : D.rs.length ≤ 3 ∨ True := .inr trivial
      refine ⟨q1, q3, _, _, rfl, rfl, h19, h3, by rw [List.length_map, List.length_map]; show _ ≤ 16777216; omega, fun q4 hq4 => ?_⟩
      rw [← List.map_append]
      have hqs0 : ∀ z ∈ D.rs ++ D.rs.take k1, z ∈ W3 := fun z m => (List.mem_append.mp m).elim (hD.r z) fun m => hD.r z (List.mem_of_mem_take m)
      have ql0 : (D.rs ++ D.rs.take k1).length ≤ 11 := by rw [List.length_append]; omega
      have qm0 : ∀ z, z ∈ D.rs ++ D.rs.take k1 ↔ z ∈ D.rs := fun z => ⟨fun m => (List.mem_append.mp m).elim id List.mem_of_mem_take, fun m => List.mem_append_left _ m⟩
      generalize D.rs ++ D.rs.take k1 = Q0 at hqs0 ql0 qm0 ⊢
      have n4 : H5 q4 = none := b9.fresh hP9.at.choose_spec hq4
      have p4 := hP9.old hq4
      have e4 : Ext H9 (upd H9 q4 (.lst (Q0.map V.str))) := Ext.upd hq4
      have h4 : upd H9 q4 (.lst (Q0.map V.str)) q4 = some (.lst (Q0.map V.str)) := upd_same
      generalize upd H9 q4 (.lst (Q0.map V.str)) = H10 at e4 h4 ⊢
      have b10 := But.ext b9 e4
      have hP10 := hP9.same e4
      clear hq1 hq2 hq3 hq4 h1 h2 h3 h1' h2' h19 e1 e2 e3 e4 hP5 hP7 hP8 hP9 b6 b7 b8 b9 hB8 hp7 hp8 ct tk1 rlW d00 d01 hk1
      -- the bodies
      have hA10 := at0 b10
      refine ⟨_, rfl, _, rfl, o, _, 2, _, rfl, rfl, SqT.of hA10.i, atI_nat rfl, d, kvs, rfl, .inl hA10.d, fun q5 bs hq5 ik => ?_⟩
      have pr := prs_keys ik hA10.b.keys
      have e5 : Ext H10 (upd H10 q5 (.lst (bs.map V.ref))) := Ext.upd hq5
      have h5 : upd H10 q5 (.lst (bs.map V.ref)) q5 = some (.lst (bs.map V.ref)) := upd_same
      generalize upd H10 q5 (.lst (bs.map V.ref)) = H11 at e5 h5 ⊢
      have pr11 := pr.mono (fun q xs z => e5 q _ z)
      have hP11 := hP10.same e5
      have l5 : (bs.map V.ref).length ≤ 20 := by rw [pr.1, List.length_map]; omega
      refine ⟨p, c', q5, ns, _, bs.map V.ref, (D.bs.map (·.1)).map encP, rfl, hP11, h5, prs_dp pr11, ?lay, l5, by omega, hl, fun r ys H12 hr5 hys pm hB12 hP12 => ?_⟩
      case lay =>
        intro z m
        obtain ⟨q, mq, rfl⟩ := List.mem_map.mp m
        obtain ⟨x, mx, rfl⟩ := List.mem_map.mp mq
        have w := hD.ok x mx
        have := Sd.p w.2.2.1 w.2.2.2
        unfold layD
        rw [this.1.c, decide_eq_true (by omega)]
        rfl
      obtain ⟨ks11, hp11⟩ := hP11.at
      have pr12 := pr11.mono (fun q xs z => hB12 q _ (ne_of z hp11 (by intro z; cases z)) z)
      obtain ⟨qs, pmq, prS⟩ := PrsAt.perm pm pr12
      have b12 := (But.ext b10 e5).trans hB12
      have h412 := hB12 _ _ (ne_of (e5 _ _ h4) hp11 (by intro z; cases z)) (e5 _ _ h4)
      have hA12 := at0 b12
      have nd : (D.bs.map (·.1)).Nodup := hA12.b.nodup hA12.n
      have lq : ys.length = qs.length := prS.1
      have lq2 : qs.length = D.bs.length := by rw [← pmq.length_eq, List.length_map]
      clear pr pr11 pr12 h5 l5 hq5 ik hA10 hP10 hP11 hp11 b10 e5 hB12 h4 hr5
      refine ⟨_, rfl, ⟨_, SqL.of hys⟩, fun L hL => ?_⟩
      refine lc_list (xs := ys) (fun i Hk => Ext H12 Hk ∧ ∃ es, Hk L = some (.lst (es.map fun e => .ref e.p)) ∧ EsB W.c Hk es (reB D.bs (qs.take i))) ⟨Ext.upd hL, [], upd_same, .nil⟩ (fun i Hk _ h => SqL.of (h.1 _ _ hys)) ?_ ?_
      · rintro i2 y Hk hyi ⟨eK, es, hLk, hE⟩
        obtain ⟨p0, q, hpi, rfl, hq⟩ := prS.get hyi
        have p0m : p0 ∈ D.bs.map (·.1) := pmq.mem_iff.mpr (List.mem_of_getElem? hpi)
        have hbk := hA12.ext eK
        have i2l : i2 < ys.length := (List.getElem?_eq_some_iff.mp hyi).1
        rcases hbk.b.bval p0 with ⟨_, z⟩ | ⟨L2, vs2, its, v1, v2, nL2, h2, hR⟩
        · exact absurd z (bval_mem p0m)
        · have wp := hD.ok _ (bval_in v2)
          have tk : reB D.bs (qs.take (i2 + 1)) = reB D.bs (qs.take i2) ++ [(p0, its)] := by
            unfold reB
            rw [List.take_add_one, hpi, List.map_append]
            show _ ++ [(p0, (bval D.bs p0).getD [])] = _
            rw [v2]
            rfl
          have le := hE.len
          have lr : (reB D.bs (qs.take i2)).length ≤ 5 := by
            unfold reB
            rw [List.length_map, List.length_take]
            omega
          refine ⟨rfl, _, rfl, _, rfl, o, _, 2, _, rfl, rfl, SqT.of hbk.i, atI_nat rfl, _, rfl, d, .ref L2, rfl, ?_, L2, vs2, its, B0, rfl, h2, hR, wp.1, by have : its.length ≤ 4 := wp.2.1; omega, fun b H5 e5 hbn hbo => ?_⟩
          · rw [← v1]
            exact DGet.t (k := keyP p0) hbk.d (eK _ _ hq)
          · refine ⟨(by show 2 ≤ sizeLine; decide), fun t ht => ?_⟩
            obtain ⟨g1, g2⟩ := es_turn (H := H12) (t := t) hE hLk (eK _ _ hq) e5 hbo ht ((es.map fun e => .ref e.p) ++ [.ref t])
            refine ⟨_, g2 _ _ (e5 _ _ hLk), ?_, ?_, es ++ [⟨t, keyP p0, q, .ref b⟩], ?_, ?_⟩
            · rw [List.length_map]
              show _ < 16777216
              omega
            · intro a o2 ea
              rw [upd_ne (ne_of_none ea hL)]
              exact g2 _ _ (e5 _ _ (eK _ _ ea))
            · rw [upd_same, List.map_append]; rfl
            · rw [tk]; exact g1
      rintro H13 ⟨e13, es, hL13, hE⟩
      rw [List.take_of_length_le (by omega)] at hE
      have le := hE.len
      have lr : (reB D.bs qs).length = D.bs.length := by
        unfold reB
        rw [List.length_map, lq2]
      refine ⟨L, es, rfl, SqL.of hL13, hE.all, by omega, fun d2 hd2 => ?_⟩
      have hB := hE.bods
      have nk := hB.nodupK (by rw [reB_keys]; exact pmq.nodup_iff.mp nd)
      have pmB := reB_perm nd pmq
      generalize reB D.bs qs = BS at hE lr hB pmB
      rw [mergeT_one nk]
      have b13 := But.ext b12 e13
      have hP13 := hP12.same e13
      have n2 : H5 d2 = none := b13.fresh hP13.at.choose_spec hd2
      have p2 := hP13.old hd2
      have e14 : Ext H13 (upd H13 d2 (.dT (es.map fun e => (e.k, e.v)))) := Ext.upd hd2
      have h14 : upd H13 d2 (.dT (es.map fun e => (e.k, e.v))) d2 = some (.dT (es.map fun e => (e.k, e.v))) := upd_same
      generalize upd H13 d2 (.dT (es.map fun e => (e.k, e.v))) = H14 at e14 h14 ⊢
      generalize hkb : (es.map fun e => (e.k, e.v)) = kvb at hB nk h14 ⊢
      have b14 := But.ext b13 e14
      have hP14 := hP13.same e14
      have h414 := e14 _ _ (e13 _ _ h412)
      have hA14 := at0 b14
      have hB14 := hB.keep (.ext' e14)
      have pD := hD.bk11 (qs := Q0) (bs := BS) hqs0 ql0 pmB
      have op1 : o ≠ p := fun z => hA14.no (z ▸ B0p)
      clear hE lr hB hP12 b12 h412 hA12 prS hL13 e13 hP13 b13 e14 hd2 hL hys
      refine ⟨_, rfl, o, _, 0, _, rfl, rfl, SqT.of hA14.i, atI_nat rfl, _, rfl, _, rfl, fun x dx nx1 nx2 nxe => ?_⟩
      refine ⟨H14, x, dx, q4, .ref d2, ⟨D.f, Q0, BS⟩, kvb, rfl, ext_mk nx1 nx2, nx1, upd_same, .inr ⟨d2, rfl, h14⟩, .inl (SqL.of h414), hB14, nk, pD, fun ys2 dx' r' d' H15 e15 as hk ⟨m1, m2, _, _⟩ => ⟨rfl, ?_⟩⟩
      have b15 := But.ext b14 e15
      have hP15 := hP14.same e15
      have h415 := e15 _ _ h414
      have h215 := e15 _ _ h14
      refine ⟨_, rfl, .inl ⟨rfl, _, SqL.of h415⟩, q4, _, _, rfl, rfl, h415, by rw [List.length_map]; show _ < 16777216; omega, ?_⟩
      have n42 : d2 ≠ q4 := ne_of h14 h414 (by intro z; cases z)
      have hk16 := hk.put (ne_of_none h414 nx1) (ne_of_none h414 m1) (ne_of_none h414 m2) (Kept.updL (o := .lst (Q0.map V.str ++ [.str "zzzzzzzz"])) h415)
      have b16 : But p H5 (upd H15 q4 (.lst (Q0.map V.str ++ [.str "zzzzzzzz"]))) := fun a o n e => by rw [upd_ne (ne_of_none e n4)]; exact b15 a o n e
      have hP16 := PenAt.upd (o := .lst (Q0.map V.str ++ [.str "zzzzzzzz"])) hP15 p4.1 p4.2
      have h216 : upd H15 q4 (.lst (Q0.map V.str ++ [.str "zzzzzzzz"])) d2 = some (.dT kvb) := by rw [upd_ne n42]; exact h215
      generalize upd H15 q4 (.lst (Q0.map V.str ++ [.str "zzzzzzzz"])) = H16 at hk16 b16 hP16 h216 ⊢
      have hk17 := hk16.put (ne_of_none h14 nx1) (ne_of_none h14 m1) (ne_of_none h14 m2) (Kept.updT (o := .dT []) h216)
      have b17 : But p H5 (upd H16 d2 (.dT [])) := fun a o n e => by rw [upd_ne (ne_of_none e n2)]; exact b16 a o n e
      have hP17 := PenAt.upd (o := .dT []) hP16 p2.1 p2.2
      refine ⟨LapM W.c W.cb p c' a o i (i * 5000 + 4200) ns, ?_, ?_⟩
      · refine ⟨_, rfl, .inr (.inr (.inl ⟨rfl, .inr ⟨_, h216⟩⟩)), d2, _, rfl, rfl, h216, ⟨x, _, _, _, _, _, _, _, rfl, hP17.mono (by omega), B0, l, d, kvs, D, W3, dx', r', d', kvb, ⟨D.f, ys2, BS⟩, B0p, at0 b17, hD, hk17, rfl, ⟨as.n, as.s, fun z => (as.m z).trans (qm0 z)⟩, pmB, B0n (b14.fresh hP14.at.choose_spec m2)⟩⟩
      rintro σ Ha ⟨b0, y4, y5, y6, y8, y9, y10, y11, rfl, hP20, Bp, l, d, kvs, D, W3, dx, r, db, kvb, DB, hL⟩
      refine ⟨LapM W.c W.cb p c' a o i (i * 5000 + 4200) ns, ?_, ?_⟩
      · have nDB := hL.b.nd
        have hDB := hL.bd
        refine ⟨_, rfl, b0, dx, r, db, kvb, DB, rfl, hL.b, hDB.bk, fun R1 ms1 ks1 Hb eb am1 ak1 dp1 => ?_⟩
        have sd1 := law_sd hDB nDB ⟨hL.r.n, hL.r.s, fun _ => Iff.rfl⟩ am1 ak1
        have hLb := hL.ext eb
        refine ⟨.ref R1, _, rfl, sd1.1.dq dp1, sd1.1.s, by have := sd1.1.z; omega, sd1.2, _, rfl, o, l, d, kvs, D, W3, Bp, rfl, hLb.pl, hL.pd, fun R2 ys2 ms2 ks2 Hc ec ay2 am2 ak2 dp2 => ?_⟩
        have sd2 := law_sd hL.pd hLb.pl.nod ay2 am2 ak2
        have hLc := hLb.ext ec
        refine ⟨.ref R2, _, rfl, sd2.1.dq dp2, sd2.1.s, by have := sd2.1.z; omega, sd2.2, rfl, _, rfl, ?_⟩
        rw [law_eq hL.f hL.r hL.m nDB ay2 am1 ak1 am2 ak2]
        refine ne_same ?_
        have lB : DB.bs.length ≤ 5 := hDB.bl
        have lm := hL.m.length_eq
        have lk := hL.pl.b.len
        refine ⟨_, rfl, b0, dx, _, rfl, hLc.b.i, b0, dx, r, db, kvb, DB, rfl, hLc.b, _, rfl, by omega, by omega, _, rfl, o, _, 2, _, rfl, rfl, SqT.of hLc.pl.i, atI_nat rfl, d, kvs, rfl, hLc.pl.d, rfl, _, rfl, ?_⟩
        rw [show DB.bs.length = kvs.length by omega]
        refine ne_same ?_
        refine ⟨_, rfl, _, rfl, o, l, d, kvs, D, W3, Bp, rfl, hLc.pl, hL.pd, fun x dx' r' d' kvs' ys3 Hd ed nx nr nd' as3 hk3 => ?_⟩
        have hLd := hLc.ext ed
        have eq3 : eqBk DB ⟨D.f, ys3, D.bs⟩ = true := eqBk_of hL.f (hL.r.uniq as3) hL.m hLc.pl.nod
        refine ⟨_, dBook F.BE F.BT hLd.b hDB.bk.w hk3, fun He ee => ⟨_, rfl, ?_⟩⟩
        rw [eq3]
        refine iteF ?_
        exact ⟨b0, _, _, _, _, _, _, _, rfl, (((hP20.same eb).same ec).same ed).same ee, Bp, l, d, kvs, D, W3, dx, r, db, kvb, DB, hLd.ext ee⟩
      clear hL hP20
      rintro σ Ha ⟨b0, y4, y5, y6, y8, y9, y10, y11, rfl, hP20, Bp, l, d, kvs, D, W3, dx, r, db, kvb, DB, hL⟩
      refine ⟨LapM W.c W.cb p c' a o i (i * 5000 + 4200) ns, ?_, ?_⟩
      · have hDB := hL.bd
        have hd0 := hL.pl.d
        have od1 : o ≠ d := ne_of hL.pl.i hd0 (by intro z; cases z)
        refine ⟨d, _, hd0, trivial, fun od => ?_⟩
        refine ⟨_, rfl, o, _, 2, _, rfl, rfl, SqT.of (by rw [upd_ne od1]; exact hL.pl.i), atI_nat rfl, d, od, rfl, .inr ⟨kvs, upd_same, fun L hL1 => lc_it (walk_keysT (d := d) (o := od)) (fun i Hk => But d Ha Hk ∧ Hk d = some (.frz od (.dT kvs)) ∧ L ≠ d ∧ Ha L = none ∧ Hk L = some (.lst [])) ?h0 (fun i Hk _ h => h.2.1) ?turn ?fine⟩⟩
        case h0 =>
          have Ld : L ≠ d := fun z => by rw [z, upd_same] at hL1; cases hL1
          have L1 : Ha L = none := by rw [upd_ne Ld] at hL1; exact hL1
          exact ⟨fun a o n e => by rw [upd_ne (ne_of_none e L1), upd_ne n]; exact e, by rw [upd_ne (fun z => Ld z.symm)]; exact upd_same, Ld, L1, upd_same⟩
        case turn =>
          rintro j x Hk H' lt ⟨bK, hfd, Ld, L1, hLk⟩ ⟨rfl, kk, v, q, e, rfl, hq⟩
          obtain ⟨p0, its, L2, vs2, ep, rfl, rfl, h2, hR⟩ := hL.pl.b.get e
          have w0 := hL.pd.ok _ (List.mem_of_getElem? ep)
          have hbk : Bk W.c W.cb H' b0 dx r db kvb DB := ⟨bK _ _ (ne_of hL.b.i hd0 (by intro z; cases z)) hL.b.i, bK _ _ (ne_of hL.b.r hd0 (by intro z; cases z)) hL.b.r, bK _ _ hL.ne hL.b.d, hL.b.b.keep (Kept.butT bK hd0), hL.b.n⟩
          have mem : inB (DB.bs.map (·.1)) (encP p0) = true := by
            rw [inB_enc, decide_eq_true]
            exact (hL.m.map (·.1)).mem_iff.mpr (List.mem_map.mpr ⟨_, List.mem_of_getElem? ep, rfl⟩)
          refine ⟨rfl, _, rfl, _, rfl, b0, dx, _, rfl, hbk.i, b0, dx, r, db, kvb, DB, _, encP p0, rfl, hbk, hDB.bk.w, val_pair hq w0.2.2.1 w0.2.2.2, fun Hc ec => ⟨_, rfl, _, rfl, ?_⟩⟩
          rw [mem]
          refine iteF ⟨But.ext bK ec, ec _ _ hfd, Ld, L1, ec _ _ hLk⟩
        case fine =>
          rintro Hk ⟨bK, hfd, Ld, L1, hLk⟩
          refine ⟨hfd, ?_⟩
          have eZ := but_unlock hd0 bK
          have hL3 : upd Hk d (.dT kvs) L = some (.lst []) := by rw [upd_ne Ld]; exact hLk
          generalize upd Hk d (.dT kvs) = Hb at eZ hL3 ⊢
          refine ⟨(by show 0 ≤ 16777216; omega), fun e0 he0 => ?_⟩
          have ee : Ext Hb (upd Hb e0 (.lst [])) := Ext.upd he0
          have he1 : upd Hb e0 (.lst []) e0 = some (.lst []) := upd_same
          generalize upd Hb e0 (.lst []) = Hc at ee he1 ⊢
          refine ⟨_, _, .lst (SqL.of (ee _ _ hL3)) .nil, .lst (SqL.of he1) .nil, rfl, rfl, _, rfl, ?_⟩
          rw [SeqAt.eqv_refl _ (show PyData.canLay0 (.list []) = true from rfl)]
          refine iteF ?_
          have eac := eZ.trans ee
          have hLc := hL.ext eac
          have self : Asc DB.rs DB.rs := ⟨hL.r.n, hL.r.s, fun _ => Iff.rfl⟩
          refine ⟨_, rfl, _, rfl, b0, _, _, rfl, hLc.b.i, rfl, b0, dx, r, db, kvb, DB, rfl, hLc.b, hDB.bk, fun x' dx' r' d' ys5 Hd ed nx nr nd as5 hk5 => ?_⟩
          have hLd := hLc.ext ed
          have eq5 : eqBk DB ⟨DB.f, ys5, DB.bs⟩ = true := eqBk_of rfl (self.uniq as5) (.refl _) hL.b.nd
          refine ⟨_, dBook F.BE F.BT hLd.b hDB.bk.w hk5, fun He ee => ⟨_, rfl, ?_⟩⟩
          rw [eq5]
          refine iteF ?_
          have hLe := hLd.ext ee
          refine ⟨_, rfl, _, rfl, false, ⟨b0, dx, _, _, rfl, hLe.b.i, tyT (SqT.of hLe.pl.i), F.nt, .inr ⟨dx, r, db, kvb, DB, _, hLe.b, tyT (SqT.of hLe.pl.i), F.kt, rfl⟩⟩, fun Hf ef => ⟨_, rfl, ?_⟩⟩
          refine iteF ?_
          exact ⟨b0, _, _, _, _, _, _, _, rfl, (((hP20.same eac).same ed).same ee).same ef, Bp, l, d, kvs, D, W3, dx, r, db, kvb, DB, hLe.ext ef⟩
      clear hL hP20
      rintro σ Ha ⟨b0, y4, y5, y6, y8, y9, y10, y11, rfl, hP20, Bp, l, d, kvs, D, W3, dx, r, db, kvb, DB, hL⟩
      have hD := hL.pd
      have bl := hD.bl
      refine ⟨_, rfl, _, rfl, p, c', ns, _, rfl, hP20, by omega, hl, fun v1 Hb gv1 _ bb hPb => ?_⟩
      obtain ⟨ksa, hpa⟩ := hP20.at
      have hLb := hL.but bb hpa
      refine ⟨_, rfl, o, _, 0, _, rfl, rfl, SqT.of hLb.pl.i, atI_nat rfl, (by show 2 ≤ sizeLine; decide), fun t1 ht1 => ?_⟩
      have e1 : Ext Hb (upd Hb t1 (.tup [.str D.f, .str "zzzzzzzz"])) := Ext.upd ht1
      have h1 : upd Hb t1 (.tup [.str D.f, .str "zzzzzzzz"]) t1 = some (.tup ([D.f, "zzzzzzzz"].map V.str)) := upd_same
      generalize upd Hb t1 (.tup [.str D.f, .str "zzzzzzzz"]) = Hc at e1 h1 ⊢
      have g1 : Good K Hc (.ref t1) := good_ws h1 (fun z m => by simp at m; rcases m with rfl | rfl; exact hD.w _ hD.f; exact wd_z) (by show 2 ≤ 10; decide)
      have hLc := hLb.ext e1
      refine ⟨_, rfl, o, _, 0, _, rfl, rfl, SqT.of hLc.pl.i, atI_nat rfl, (by show 1 ≤ sizeLine; decide), fun t2 ht2 => ?_⟩
      have e2 : Ext Hc (upd Hc t2 (.tup [.str D.f])) := Ext.upd ht2
      have h2 : upd Hc t2 (.tup [.str D.f]) t2 = some (.tup ([D.f].map V.str)) := upd_same
      generalize upd Hc t2 (.tup [.str D.f]) = Hd at e2 h2 ⊢
      have g2 : Good K Hd (.ref t2) := good_ws h2 (fun z m => by simp at m; subst m; exact hD.w _ hD.f) (by show 1 ≤ 10; decide)
      have hLd := hLc.ext e2
      refine ⟨_, rfl, o, _, 2, _, rfl, rfl, SqT.of hLd.pl.i, atI_nat rfl, d, kvs, rfl, .inl hLd.pl.d, fun q5 bs hq5 ik => ?_⟩
      have pr := prs_keys ik hLd.pl.b.keys
      have e3 : Ext Hd (upd Hd q5 (.lst (bs.map V.ref))) := Ext.upd hq5
      have h3 : upd Hd q5 (.lst (bs.map V.ref)) q5 = some (.lst (bs.map V.ref)) := upd_same
      generalize upd Hd q5 (.lst (bs.map V.ref)) = He at e3 h3 ⊢
      have pr3 := pr.mono (fun q xs z => e3 q _ z)
      have g3 : Good K He (.ref q5) := good_ps h3 pr3 (fun z m => by
        obtain ⟨x, mx, rfl⟩ := List.mem_map.mp m
        exact ⟨(hD.ok x mx).2.2.1, (hD.ok x mx).2.2.2⟩) (by rw [List.length_map]; exact bl)
      have hLe := hLd.ext e3
      refine ⟨(by show 4 ≤ 16777216; omega), fun Lq hLq => ?_⟩
      have e4 : Ext He (upd He Lq (.lst [v1, .ref t1, .ref t2, .ref q5])) := Ext.upd hLq
      have h4 : upd He Lq (.lst [v1, .ref t1, .ref t2, .ref q5]) Lq = some (.lst [v1, .ref t1, .ref t2, .ref q5]) := upd_same
      generalize upd He Lq (.lst [v1, .ref t1, .ref t2, .ref q5]) = Hf at e4 h4 ⊢
      have hLf := hLe.ext e4
      have hPf := (((hPb.same e1).same e2).same e3).same e4
      obtain ⟨ksf, hpf⟩ := hPf.at
      refine ⟨p, c', _, ns, _, _, rfl, hPf, by omega, hl, .inl ⟨Lq, rfl, SqL.of h4⟩, (by show 0 < 4; decide), (by show 4 < 1073741824; decide), fun x Hg mx bg hPg => ?_⟩
      have gx : Good K Hg x := Good.but hPf bg (by
        simp only [List.mem_cons, List.not_mem_nil, or_false] at mx
        rcases mx with rfl | rfl | rfl | rfl
        · exact Good.same (((e1.trans e2).trans e3).trans e4) gv1
        · exact Good.same ((e2.trans e3).trans e4) g1
        · exact Good.same (e3.trans e4) g2
        · exact Good.same e4 g3)
      have hLg := hLf.but bg hpf
      obtain ⟨e, qe, se, de, le, oe, te⟩ := gx
      have hv : Val K Hg x e := ⟨qe, te⟩
      refine ⟨OddM K W.c W.cb p c' a o i (i * 5000 + 4300) ns, ?_, ?_⟩
      · refine ⟨_, rfl, x, _, _, _, _, rfl, .ty _, hv.prv.ty, kit_tuple e, ?_⟩
        cases ht : isD "tuple" e with
        | false =>
          have ei : inB (D.bs.map (·.1)) e = false := inB_not ht
          refine ⟨false, rfl, ?_⟩
          exact ⟨b0, y4, y5, y6, x, e, y10, y11, Bp, l, d, kvs, D, W3, dx, r, db, kvb, DB, by rw [ei]; rfl, hPg.mono (by omega), hLg, hv, se, de, le, oe⟩
        | true =>
          obtain ⟨ds, rfl⟩ := (isD_tup e).mp ht
          refine ⟨true, rfl, _, rfl, _, rfl, o, _, 2, _, rfl, rfl, SqT.of hLg.pl.i, atI_nat rfl, d, kvs, rfl, .inl hLg.pl.d, fun q6 bs6 hq6 ik6 => ?_⟩
          have pr6 := prs_keys ik6 hLg.pl.b.keys
          have e6 : Ext Hg (upd Hg q6 (.lst (bs6.map V.ref))) := Ext.upd hq6
          have h6 : upd Hg q6 (.lst (bs6.map V.ref)) q6 = some (.lst (bs6.map V.ref)) := upd_same
          generalize upd Hg q6 (.lst (bs6.map V.ref)) = Hh at e6 h6 ⊢
          have hv6 := hv.ext e6
          have q7 := hv6.q
          cases q7 with
          | pl hdp hn hsh heq =>
            refine ⟨.tuple ds, _, hdp, .lst (SqL.of h6) (prs_dp (pr6.mono (fun q xs z => e6 q _ z))), hsh, layD_list (ps_lay hD), ?_⟩
            rw [any_inB]
            exact ⟨b0, y4, y5, y6, x, .tuple ds, y10, y11, Bp, l, d, kvs, D, W3, dx, r, db, kvb, DB, rfl, (hPg.same e6).mono (by omega), hLg.ext e6, hv6, se, de, le, oe⟩
      clear hL hP20 hPg hLg hPf hLf hPb hLb hLc hLd hLe hv qe te se de le oe g1 g2 g3 gv1 e1 e2 e3 e4 h1 h2 h3 h4 pr pr3 ik hD bl
      rintro σ Ha ⟨b0, y4, y5, y6, x, e, y10, y11, Bp, l, d, kvs, D, W3, dx, r, db, kvb, DB, rfl, hP20, hL, hv, se, de, le, oe⟩
      refine ⟨LapM W.c W.cb p c' a o i (i * 5000 + 4300) ns, ?_, ?_⟩
      · have hDB := hL.bd
        have ip := inB_perm (hL.m.map (·.1)) e
        refine ⟨_, rfl, _, rfl, b0, dx, _, rfl, hL.b.i, b0, dx, r, db, kvb, DB, x, e, rfl, hL.b, hDB.bk.w, hv, fun Hb eb => ⟨_, rfl, .bl _, .bool _, rfl, dqB _, rfl, depB _, lenB _, _, rfl, .bl _, .bool _, rfl, dqB _, rfl, depB _, lenB _, rfl, _, rfl, ?_⟩⟩
        rw [if_neg (by decide : ¬ false = true), ip]
        refine ne_same ?_
        have hLb := hL.ext eb
        have hvb := hv.ext eb
        cases hin : inB (D.bs.map (·.1)) e with
        | true =>
          refine ⟨_, rfl, _, rfl, ?_⟩
          exact ⟨b0, y4, y5, y6, _, _, y10, y11, rfl, hP20.same eb, Bp, l, d, kvs, D, W3, dx, r, db, kvb, DB, hLb⟩
        | false =>
          refine ⟨_, rfl, _, rfl, ?_⟩
          refine ⟨_, rfl, _, rfl, b0, dx, r, db, kvb, DB, x, e, rfl, hLb.b, hDB.bk.w, hvb, se, by omega, by omega, by rw [ip]; exact hin, fun q Hc ec hq => ?_⟩
          refine ⟨_, rfl, x, e, rfl, (hvb.ext ec).q, se, by omega, by omega, (by show 3 ≤ sizeLine; decide), fun t ht => ?_⟩
          have ed : Ext Hc (upd Hc t (.tup [.str "unknown", .str e.shown, .bl true])) := Ext.upd ht
          refine ⟨_, _, .tup (SqT.of (ed _ _ hq)) (.cons (.str _) (.cons (.str _) (.cons (.bl _) .nil))), .tup (SqT.of upd_same) (.cons (.str _) (.cons (.str _) (.cons (.bl _) .nil))), shp_unk oe, shp_unk oe, _, rfl, ?_⟩
          rw [SeqAt.eqv_refl _ (lay_unk oe)]
          refine iteF ?_
          exact ⟨b0, y4, y5, y6, _, _, y10, y11, rfl, ((hP20.same eb).same ec).same ed, Bp, l, d, kvs, D, W3, dx, r, db, kvb, DB, (hLb.ext ec).ext ed⟩
      clear hL hP20 hv se de le oe
      rintro σ Ha ⟨b0, y4, y5, y6, y8, y9, y10, y11, rfl, hP20, Bp, l, d, kvs, D, W3, dx, r, db, kvb, DB, hL⟩
      have hDB := hL.bd
      have hD := hL.pd
      have bl := hD.bl
      refine ⟨_, rfl, b0, _, _, rfl, hL.b.i, rfl, b0, dx, r, db, kvb, DB, rfl, hL.b, hDB.bk, fun x' dx' r' d' ys5 Hd ed nx nr nd as5 hk5 => ?_⟩
      refine ⟨CopM K W.c W.cb p c' a o i (i * 5000 + 4300) ns, ?_, ?_⟩
      · refine ⟨_, rfl, x', dx', _, rfl, hk5.i, rfl, Nat.zero_le _, fun le hle => ⟨rfl, ?_⟩⟩
        have ee : Ext Hd (upd Hd le (.lst [])) := Ext.upd hle
        have he : upd Hd le (.lst []) le = some (.lst []) := upd_same
        generalize upd Hd le (.lst []) = He at ee he ⊢
        have hk6 := hk5.ext ee
        have bw : BkW ⟨DB.f, [], DB.bs⟩ := (hDB.re (qs := []) (bs := DB.bs) (fun z m => by cases m) (by decide) (.refl _)).bk
        refine ⟨x', dx', r', d', kvb, ⟨DB.f, ys5, DB.bs⟩, le, [], rfl, hk6, bw, .inl (SqL.of he), fun t ys6 Hf ef htn ht6 as6 => ?_⟩
        have hk7 := hk6.ext ef
        have tx : t ≠ x' := fun z => by rw [z, hk6.i] at htn; cases htn
        have dx7 : d' ≠ x' := ne_of hk7.d hk7.i (by intro z; cases z)
        have ea : Ext Ha (upd Hf x' (.ins W.cb dx' (fBook DB.f t d'))) := fun q o2 h => by
          rw [upd_ne (ne_of_none h nx)]
          exact ef _ _ (ee _ _ (ed _ _ h))
        have ysn := as6.nil
        subst ysn
        exact ⟨b0, y4, y5, y6, y8, y9, y11, Bp, l, d, kvs, D, W3, dx, r, db, kvb, DB, x', dx', t, d', rfl, hP20.same ea, hL.ext ea, ⟨upd_same, by rw [upd_ne tx]; exact ht6, by rw [upd_ne dx7]; exact hk7.d, hk7.b.keep (Kept.updB hk7.i), hk7.n⟩⟩
      clear hL hP20 hDB hD bl hk5 as5 ed
      rintro σ Ha ⟨b0, y4, y5, y6, y8, y9, y11, Bp, l, d, kvs, D, W3, dx, r, db, kvb, DB, cp, cx, cr, cd, rfl, hP20, hL, hC⟩
      have hDB := hL.bd
      have nDB := hL.b.nd
      refine ⟨_, rfl, _, rfl, _, dBook F.BE F.BT hC hDB.bk.w hL.b, fun Hb eb => ?_⟩
      have hLb := hL.ext eb
      refine ⟨_, rfl, o, _, 1, _, rfl, rfl, SqT.of hLb.pl.i, atI_nat rfl, l, _, rfl, .inl (SqL.of hLb.pl.r), fun q1 hq1 => ?_⟩
      have e1 : Ext Hb (upd Hb q1 (.lst (D.rs.map V.str))) := Ext.upd hq1
      have h1 : upd Hb q1 (.lst (D.rs.map V.str)) q1 = some (.lst (D.rs.map V.str)) := upd_same
      generalize upd Hb q1 (.lst (D.rs.map V.str)) = Hc at e1 h1 ⊢
      refine ⟨Nat.zero_le _, fun le hle => ?_⟩
      have e2 : Ext Hc (upd Hc le (.lst [])) := Ext.upd hle
      have h2 : upd Hc le (.lst []) le = some (.lst []) := upd_same
      generalize upd Hc le (.lst []) = Hd at e2 h2 ⊢
      have shr : SeqAt.shaped (.list (D.rs.map PyData.str)) = true := layD_list (fun z m => by
        obtain ⟨y, my, rfl⟩ := List.mem_map.mp m
        have := Sd.w (hL.pd.w _ (hL.pd.r y my)) 0
        unfold layD
        rw [this.1.c, decide_eq_true (by omega)]
        rfl)
      refine ⟨_, _, .lst (SqL.of (e2 _ _ h1)) (strs_dp _), .lst (SqL.of h2) .nil, shr, rfl, rfl, _, rfl, ?_⟩
      rw [copy_eq hL.r nDB, eqv_nil]
      refine ne_same ?_
      have hLd := (hLb.ext e1).ext e2
      have eD := (eb.trans e1).trans e2
      refine ⟨_, rfl, b0, dx, r, db, kvb, DB, rfl, hLd.b, hDB.bk, fun R1 ms1 ks1 He ee am1 ak1 dp1 => ?_⟩
      have sd1 := law_sd hDB nDB ⟨hL.r.n, hL.r.s, fun _ => Iff.rfl⟩ am1 ak1
      have hLe := hLd.ext ee
      refine ⟨.ref R1, _, rfl, sd1.1.dq dp1, sd1.1.s, by have := sd1.1.z; omega, sd1.2, _, rfl, o, l, d, kvs, D, W3, Bp, rfl, hLe.pl, hL.pd, fun R2 ys2 ms2 ks2 Hf ef ay2 am2 ak2 dp2 => ?_⟩
      have sd2 := law_sd hL.pd hLe.pl.nod ay2 am2 ak2
      refine ⟨.ref R2, _, rfl, sd2.1.dq dp2, sd2.1.s, by have := sd2.1.z; omega, sd2.2, rfl, _, rfl, ?_⟩
      rw [law_eq hL.f hL.r hL.m nDB ay2 am1 ak1 am2 ak2]
      refine ne_same ?_
      exact ⟨_, _, _, _, _, _, _, _, _, _, rfl, (((hP20.same eD).same ee).same ef).mono (by omega)⟩
    case hd =>
      rintro σ H2 ⟨y2, y3, y4, y5, y6, y7, y8, y9, y10, y11, rfl, hP2⟩
      exact ⟨_, _, _, _, _, _, _, _, _, _, rfl⟩
  · rintro σ H2 ⟨y2, y3, y4, y5, y6, y7, y8, y9, y10, y11, rfl⟩
    -- a book's strokes, in order
    refine ⟨Nat.zero_le _, fun l0 hl0 => ?_⟩
    have e1 : Ext H2 (upd H2 l0 (.lst [])) := Ext.upd hl0
    have h1 : upd H2 l0 (.lst []) l0 = some (.lst []) := upd_same
    generalize upd H2 l0 (.lst []) = H3 at e1 h1 ⊢
    refine fun dp hdp => ?_
    have e2 : Ext H3 (upd H3 dp (.dT [])) := Ext.upd hdp
    have h2 : upd H3 dp (.dT []) dp = some (.dT []) := upd_same
    generalize upd H3 dp (.dT []) = H4 at e2 h2 ⊢
    have k1 := e2 _ _ h1
    refine ⟨(by show 2 ≤ sizeLine; decide), fun t1 ht1 => ?_⟩
    have e3 : Ext H4 (upd H4 t1 (.tup [.str "ab", .str "a"])) := Ext.upd ht1
    have h3 : upd H4 t1 (.tup [.str "ab", .str "a"]) t1 = some (.tup [.str "ab", .str "a"]) := upd_same
    generalize upd H4 t1 (.tup [.str "ab", .str "a"]) = H5 at e3 h3 ⊢
    refine fun b1 db1 nb1 ndb1 neb1 => mk_bodyN nb1 ndb1 fun H6 e4 hb1 => ?_
    refine ⟨(by show 2 ≤ sizeLine; decide), fun t2 ht2 => ?_⟩
    have f2 : Ext H6 (upd H6 t2 (.tup [.str "a", .str "c"])) := Ext.upd ht2
    have g2 : upd H6 t2 (.tup [.str "a", .str "c"]) t2 = some (.tup [.str "a", .str "c"]) := upd_same
    generalize upd H6 t2 (.tup [.str "a", .str "c"]) = H7 at f2 g2 ⊢
    refine fun b2 db2 nb2 ndb2 neb2 => mk_bodyN nb2 ndb2 fun H8 q2 hb2 => ?_
    refine ⟨(by show 2 ≤ sizeLine; decide), fun t3 ht3 => ?_⟩
    have f3 : Ext H8 (upd H8 t3 (.tup [.str "a", .str "b"])) := Ext.upd ht3
    have g3 : upd H8 t3 (.tup [.str "a", .str "b"]) t3 = some (.tup [.str "a", .str "b"]) := upd_same
    generalize upd H8 t3 (.tup [.str "a", .str "b"]) = H9 at f3 g3 ⊢
    refine fun b3 db3 nb3 ndb3 neb3 => mk_bodyN nb3 ndb3 fun H10 q3 hb3 => ?_
    refine ⟨(by show 2 ≤ sizeLine; decide), fun t4 ht4 => ?_⟩
    have f4 : Ext H10 (upd H10 t4 (.tup [.str "aa", .str "a"])) := Ext.upd ht4
    have g4 : upd H10 t4 (.tup [.str "aa", .str "a"]) t4 = some (.tup [.str "aa", .str "a"]) := upd_same
    generalize upd H10 t4 (.tup [.str "aa", .str "a"]) = H11 at f4 g4 ⊢
    refine fun b4 db4 nb4 ndb4 neb4 => mk_bodyN nb4 ndb4 fun H12 q4 hb4 => ?_
    have s2 : Ext H6 H8 := f2.trans q2
    have s3 : Ext H8 H10 := f3.trans q3
    have s4 : Ext H10 H12 := f4.trans q4
    have x2 := (((((e3.trans e4).trans s2).trans s3).trans s4) _ _ h2)
    refine ⟨x2, [⟨t1, keyP ("ab", "a"), .ref b1⟩, ⟨t2, keyP ("a", "c"), .ref b2⟩, ⟨t3, keyP ("a", "b"), .ref b3⟩, ⟨t4, keyP ("aa", "a"), .ref b4⟩], rfl, ?_, (by show 4 ≤ 15; decide), ?_⟩
    · intro e me
      simp only [List.mem_cons, List.not_mem_nil, or_false] at me
      rcases me with rfl | rfl | rfl | rfl
      · exact (((e4.trans s2).trans s3).trans s4) _ _ h3
      · exact ((q2.trans s3).trans s4) _ _ g2
      · exact (q3.trans s4) _ _ g3
      · exact q4 _ _ g4
    have nk := gl_nd (b1 := .ref b1) (b2 := .ref b2) (b3 := .ref b3) (b4 := .ref b4)
    show _
    rw [show (mergeT [] (([⟨t1, keyP ("ab", "a"), .ref b1⟩, ⟨t2, keyP ("a", "c"), .ref b2⟩, ⟨t3, keyP ("a", "b"), .ref b3⟩, ⟨t4, keyP ("aa", "a"), .ref b4⟩] : List Kq).map fun e => (e.k, e.v))) = [(keyP ("ab", "a"), V.ref b1), (keyP ("a", "c"), V.ref b2), (keyP ("a", "b"), V.ref b3), (keyP ("aa", "a"), V.ref b4)] from mergeT_one nk]
    have hB12 : Bods W.c H12 [(keyP ("ab", "a"), V.ref b1), (keyP ("a", "c"), V.ref b2), (keyP ("a", "b"), V.ref b3), (keyP ("aa", "a"), V.ref b4)] glB := .cons (hb1.keep (.ext' ((s2.trans s3).trans s4))) (.cons (hb2.keep (.ext' (s3.trans s4))) (.cons (hb3.keep (.ext' s4)) (.cons hb4 .nil)))
    have hB13 := hB12.keep (Kept.updT (o := .dT [(keyP ("ab", "a"), V.ref b1), (keyP ("a", "c"), V.ref b2), (keyP ("a", "b"), V.ref b3), (keyP ("aa", "a"), V.ref b4)]) x2)
    have l12 := ((((e3.trans e4).trans s2).trans s3).trans s4) _ _ k1
    have l13 : upd H12 dp (.dT [(keyP ("ab", "a"), V.ref b1), (keyP ("a", "c"), V.ref b2), (keyP ("a", "b"), V.ref b3), (keyP ("aa", "a"), V.ref b4)]) l0 = some (.lst []) := by rw [upd_ne (ne_of l12 x2 (by intro z; cases z))]; exact l12
    have d13 : upd H12 dp (.dT [(keyP ("ab", "a"), V.ref b1), (keyP ("a", "c"), V.ref b2), (keyP ("a", "b"), V.ref b3), (keyP ("aa", "a"), V.ref b4)]) dp = some (.dT [(keyP ("ab", "a"), V.ref b1), (keyP ("a", "c"), V.ref b2), (keyP ("a", "b"), V.ref b3), (keyP ("aa", "a"), V.ref b4)]) := upd_same
    generalize upd H12 dp (.dT [(keyP ("ab", "a"), V.ref b1), (keyP ("a", "c"), V.ref b2), (keyP ("a", "b"), V.ref b3), (keyP ("aa", "a"), V.ref b4)]) = H13 at hB13 l13 d13 ⊢
    refine fun x dx nx ndx nex => ?_
    refine ⟨H13, x, dx, l0, .ref dp, ⟨"a", [], glB⟩, _, rfl, ext_mk nx ndx, nx, upd_same, .inr ⟨dp, rfl, d13⟩, .inl (SqL.of l13), hB13, nk, gl_w, fun ys dx' r' d' H14 e14 as hk _ => ⟨rfl, ?_⟩⟩
    have yn := as.nil
    subst yn
    refine ⟨fun _ _ => True, ?_, ?_⟩
    · refine ⟨_, rfl, x, dx', _, rfl, hk.i, x, dx', r', d', _, _, rfl, hk, gl_w, fun t us Ha ea htn hus pr => ?_⟩
      rw [show sortP ((⟨"a", [], glB⟩ : BkD).bs.map (·.1)) = glS from gl_sort] at pr
      refine ⟨(by show 2 ≤ sizeLine; decide), fun u1 hu1 => ⟨(by show 2 ≤ sizeLine; decide), fun u2 hu2 => ⟨(by show 2 ≤ sizeLine; decide), fun u3 hu3 => ⟨(by show 2 ≤ sizeLine; decide), fun u4 hu4 => ⟨(by show 4 ≤ sizeLine; decide), fun u5 hu5 => ?_⟩⟩⟩⟩⟩
      have v1 : Ext Ha (upd Ha u1 (.tup [.str "a", .str "b"])) := Ext.upd hu1
      have w1 : upd Ha u1 (.tup [.str "a", .str "b"]) u1 = some (.tup [.str "a", .str "b"]) := upd_same
      generalize upd Ha u1 (.tup [.str "a", .str "b"]) = Hb at v1 w1 hu2 hu3 hu4 hu5 ⊢
      have v2 : Ext Hb (upd Hb u2 (.tup [.str "a", .str "c"])) := Ext.upd hu2
      have w2 : upd Hb u2 (.tup [.str "a", .str "c"]) u2 = some (.tup [.str "a", .str "c"]) := upd_same
      generalize upd Hb u2 (.tup [.str "a", .str "c"]) = Hc at v2 w2 hu3 hu4 hu5 ⊢
      have v3 : Ext Hc (upd Hc u3 (.tup [.str "aa", .str "a"])) := Ext.upd hu3
      have w3 : upd Hc u3 (.tup [.str "aa", .str "a"]) u3 = some (.tup [.str "aa", .str "a"]) := upd_same
      generalize upd Hc u3 (.tup [.str "aa", .str "a"]) = Hd at v3 w3 hu4 hu5 ⊢
      have v4 : Ext Hd (upd Hd u4 (.tup [.str "ab", .str "a"])) := Ext.upd hu4
      have w4 : upd Hd u4 (.tup [.str "ab", .str "a"]) u4 = some (.tup [.str "ab", .str "a"]) := upd_same
      generalize upd Hd u4 (.tup [.str "ab", .str "a"]) = He at v4 w4 hu5 ⊢
      have v5 : Ext He (upd He u5 (.tup [.ref u1, .ref u2, .ref u3, .ref u4])) := Ext.upd hu5
      have w5 : upd He u5 (.tup [.ref u1, .ref u2, .ref u3, .ref u4]) u5 = some (.tup [.ref u1, .ref u2, .ref u3, .ref u4]) := upd_same
      generalize upd He u5 (.tup [.ref u1, .ref u2, .ref u3, .ref u4]) = Hf at v5 w5 ⊢
      have vv := (((v1.trans v2).trans v3).trans v4).trans v5
      refine ⟨_, _, .tup (SqT.of (vv _ _ hus)) (prs_dp (pr.mono (fun q xs z => vv q _ z))), .tup (ds := glS.map encP) (SqT.of w5) (.cons (.tup (SqT.of ((((v2.trans v3).trans v4).trans v5) _ _ w1)) (.cons (.str _) (.cons (.str _) .nil))) (.cons (.tup (SqT.of (((v3.trans v4).trans v5) _ _ w2)) (.cons (.str _) (.cons (.str _) .nil))) (.cons (.tup (SqT.of ((v4.trans v5) _ _ w3)) (.cons (.str _) (.cons (.str _) .nil))) (.cons (.tup (SqT.of (v5 _ _ w4)) (.cons (.str _) (.cons (.str _) .nil))) .nil)))), gl_shp, gl_shp, _, rfl, ?_⟩
      rw [SeqAt.eqv_refl _ (SeqAt.canLay_of_shaped gl_shp)]
      exact iteF trivial
    clear hk as hB13 hB12 l13 d13 l12 x2 nk
    rintro σ Ha _
    have sq0 : ∀ {Hx : Hp}, SqT K Hx W.e0 (([] : List PySem.Str).map V.str) := fun {Hx} => F.e0.same (fun q o z => by cases z)
    refine ⟨fun _ _ => True, ?_, ?_⟩
    · refine fun x1 dx1 n1 m1 _ => mk_bookN n1 m1 (.inl rfl) (.inr sq0) bkw_m fun ys1 a1 r1 d1 Hb eb as1 hk1 => ?_
      refine ⟨Nat.zero_le _, fun le2 hle2 => fun x2 dx2 n2 m2 _ => mk_bookN n2 m2 (.inl rfl) (.inl (SqL.of upd_same)) bkw_m fun ys2 a2 r2 d2 Hc ec as2 hk2 => ?_⟩
      have e12 := (Ext.upd (o := .lst []) hle2).trans ec
      refine ⟨_, dBook F.BE F.BT (hk1.ext e12) bkw_m.w hk2, fun Hd ed => ⟨_, rfl, ?_⟩⟩
      rw [eq_m0 as1 as2]
      refine iteF ?_
      refine fun x3 dx3 n3 m3 _ => mk_bookN n3 m3 (.inl rfl) (.inr sq0) bkw_m fun ys3 a3 r3 d3 He ee as3 hk3 => ?_
      refine fun x4 dx4 n4 m4 _ => mk_bookN n4 m4 (.inl rfl) (.inr sq0) bkw_n fun ys4 a4 r4 d4 Hf ef as4 hk4 => ?_
      refine ⟨_, dBook F.BE F.BT (hk3.ext ef) bkw_m.w hk4, fun Hg eg => ⟨_, rfl, ?_⟩⟩
      rw [eq_mn]
      refine iteF ?_
      refine fun x5 dx5 n5 m5 _ => mk_bookN n5 m5 (.inl rfl) (.inr sq0) bkw_m fun ys5 a5 r5 d5 Hh eh as5 hk5 => ?_
      refine ⟨(by show 1 ≤ 16777216; omega), fun le6 hle6 => fun x6 dx6 n6 m6 _ => mk_bookN n6 m6 (.inl rfl) (.inl (SqL.of upd_same)) bkw_mm fun ys6 a6 r6 d6 Hi ei as6 hk6 => ?_⟩
      have e56 := (Ext.upd (o := .lst [.str "m"]) hle6).trans ei
      refine ⟨_, dBook F.BE F.BT (hk5.ext e56) bkw_m.w hk6, fun Hj ej => ⟨_, rfl, ?_⟩⟩
      rw [eq_m1 as5 as6]
      exact iteF trivial
    rintro σ Hb _
    refine ⟨(by show 2 ≤ 16777216; omega), fun le1 hle1 => fun x1 dx1 n1 m1 _ => mk_bookN n1 m1 (.inl rfl) (.inl (SqL.of upd_same)) bkw_nm fun ys1 a1 r1 d1 Hc ec as1 hk1 => ?_⟩
    refine ⟨(by show 3 ≤ sizeLine; decide), fun t2 ht2 => fun x2 dx2 n2 m2 _ => mk_bookN n2 m2 (.inl rfl) (.inr (SqT.of upd_same)) bkw_mnm fun ys2 a2 r2 d2 Hd ed as2 hk2 => ?_⟩
    have e12 := (Ext.upd (o := .tup [.str "m", .str "n", .str "m"]) ht2).trans ed
    refine ⟨_, dBook F.BE F.BT (hk1.ext e12) bkw_nm.w hk2, fun He ee => ?_⟩
    rw [eq_nm as1 as2]
    refine ⟨_, rfl, ?_⟩
    rw [if_pos rfl]
    refine fun d3 hd3 => ?_
    have v1 : Ext He (upd He d3 (.dT [])) := Ext.upd hd3
    have w1 : upd He d3 (.dT []) d3 = some (.dT []) := upd_same
    generalize upd He d3 (.dT []) = Hf at v1 w1 ⊢
    refine ⟨Nat.zero_le _, fun t3 ht3 => ?_⟩
    have v2 : Ext Hf (upd Hf t3 (.tup [])) := Ext.upd ht3
    have w2 : upd Hf t3 (.tup []) t3 = some (.tup []) := upd_same
    generalize upd Hf t3 (.tup []) = Hg at v2 w2 ⊢
    refine ⟨rfl, fun x3 dx3 n3 m3 _ => ?_⟩
    show spBookI K W.c W.cb [.ref x3, .str "m", .ref t3, .ref d3] _ _ _
    refine mk_bookN (rs := []) n3 m3 (.inr ⟨d3, rfl, v2 _ _ w1⟩) (.inr (SqT.of w2)) bkw_m fun ys3 a3 r3 d3 Hh eh as3 hk3 => ?_
    refine fun x4 dx4 n4 m4 _ => mk_bookN n4 m4 (.inl rfl) (.inr sq0) bkw_m fun ys4 a4 r4 d4 Hi ei as4 hk4 => ?_
    refine ⟨_, dBook F.BE F.BT (hk3.ext ei) bkw_m.w hk4, fun Hj ej => ?_⟩
    rw [eq_m0 as3 as4]
    exact kQ _
end
end KP
end

section
set_option Elab.async false
set_option linter.all false
set_option maxRecDepth 100000
set_option maxHeartbeats 8000000
/-! The end of a law in whose defs lambdas stand: the tables of their code objects are in the abstract heap. -/
namespace L2
open PySem PySem.Spec PyProof.Rows
/-- a def's code at c, its table at P, still empty -/
structure Tab1 (K : PySem.W.Frag) (mg : Str → Option Value) (h : Heap) (c P : Addr) : Prop where
  hd : PySem.W.CodeHd h c P
  at_ : h.get? P = some (PySem.W.tabObj #[])
  noK : K.lookup P = none
  bm : h.BuiltinsAt mg P
  gP : mainGlobals ≠ P
section
variable {P : Program} {w : World} {K : PySem.W.Frag} {mg mb : Str → Option Value} {k : Nat} {fa a : Addr} {fd : FuncData} {x : Str} {sp : Sp} {s1 : Shared} {vs : List Value} {ns : List Int} {TS : List (Addr × Addr)}
theorem lawRunT (hT : ∀ q ∈ TS, Tab1 K mg s1.heap q.1 q.2) (KX : K.In s1.heap) (hns : s1.heap.Ns mainGlobals mg) (hb : s1.heap.Ns builtinsNs mb) (hbb : ∀ x : Str, x ≠ "__name__" → mb x = bootBuiltins x) (hlim : s1.heap.NoLimit) (hg : s1.gens = #[])
    (ha : s1.heap.get? a = some { cls := .type "list", data := .seq vs.toArray }) (hr : Room k callerA)
    (F : ∀ base : Heap, K.In base → base.Ns mainGlobals mg → (∀ q ∈ TS, LamX.TabB base mg q.1 q.2) → FnG P w K mg base CX0 k fa fd [x] sp) (hbind : ∀ (s : Shared) (u : Value), BindsTo s fd ⟨[u], []⟩ [(x, u)])
    (H : Hp) (hok : HOk P w H s1.heap) (one : ∀ b, H b = none ∨ (b = a ∧ K.lookup a = none ∧ ∃ o xs, H b = some (.frz o (.lst xs))) ∨ ∃ c, (c, b) ∈ TS ∧ H b = some (.tbl #[])) (hsp : sp [.ref a] H (fun v _ => v = .bl true) fun _ _ _ => False) :
    codeAny (model P w) callerA (.call (.ref fa) ⟨[.ref a], []⟩) (Came s1) s1 := by
  have free : ∀ {b : Addr} {o : Obj}, s1.heap.get? b = some o → o.cls ≠ .type "list" → o.cls ≠ .none → H b = none := fun {b o} e n1 n2 => by
    rcases one b with z | ⟨z, _⟩ | ⟨c, m, _⟩
    · exact z
    · rw [z, ha] at e
      cases e
      exact absurd rfl n1
    · rw [(hT _ m).at_] at e
      cases e
      exact absurd rfl n2
  have ofDict : ∀ {b : Addr} {o : Obj} {es : Array DictEntry} {ep : Nat}, s1.heap.get? b = some o → o.data = .dict es ep → H b = none := fun {b o es ep} e d => by
    rcases one b with z | ⟨z, _⟩ | ⟨c, m, _⟩
    · exact z
    · rw [z, ha] at e
      cases e
      cases (show Data.seq vs.toArray _ = Data.dict es ep from d)
    · rw [(hT _ m).at_] at e
      cases e
      cases (show Data.fields _ = Data.dict es ep from d)
  have ns' : ∀ {b : Addr} {m : Str → Option Value}, s1.heap.Ns b m → (hidT s1.heap H).Ns b m := fun ⟨o, es, ep, e, d, r⟩ => ⟨o, es, ep, hidT_get e (ofDict e d), d, r⟩
  have kin : K.In (hidT s1.heap H) := fun b o e => hidT_get (KX b o e) (by
    rcases one b with z | ⟨z, l, _⟩ | ⟨c, m, _⟩
    · exact z
    · rw [z, l] at e; cases e
    · rw [(hT _ m).noK] at e; cases e)
  have M : Mod K mg (hidT s1.heap H) := ⟨kin, ns' hns, ⟨mb, ns' hb, hbb⟩, let ⟨mc, h1, h2⟩ := hlim; ⟨mc, ns' h1, h2⟩⟩
  have E0 : Env0 P w K mg (hidT s1.heap H) callerA [] s1 H := ⟨rfl, M, fun b o e => of_hidT e, Nat.le_of_eq (hidT_size _ _), trivial, fun b hb => absurd (show b ∈ ([] : List Addr) from hb) (by simp), hok, .of_eq hg⟩
  have tabs : ∀ q ∈ TS, LamX.TabB (hidT s1.heap H) mg q.1 q.2 := fun q hq => by
    have t := hT q hq
    refine ⟨?_, ?_, t.gP⟩
    · obtain ⟨o, vs', file, tf, flags, tg, inF, text, tt, e, c1, r⟩ := t.hd
      exact ⟨o, vs', file, tf, flags, tg, inF, text, tt, hidT_get e (free e (by rw [c1]; exact fun z => absurd (Value.type.inj z) (by decide)) (by rw [c1]; intro z; cases z)), c1, r⟩
    · obtain ⟨bm, o, e1, e2, e3, e4, e, c1, r⟩ := t.bm
      exact ⟨bm, o, e1, e2, e3, e4, hidT_get e (free e (by rw [c1]; exact fun z => absurd (Value.type.inj z) (by decide)) (by rw [c1]; intro z; cases z)), c1, r⟩
  refine codeAny_mono ((F _ kin (ns' hns) tabs).run callerA [] s1 H ⟨[.ref a], []⟩ [.ref a] [.ref a] _ _ rfl hr E0 (hbind s1 (.ref a)) (.cons rfl .nil) hsp) fun r s' h => ?_
  cases r with
  | error e => exact False.elim h
  | ok fl => ?_
  cases fl with
  | next => exact False.elim h
  | brk => exact False.elim h
  | cont => exact False.elim h
  | ret u => ?_
  obtain ⟨v, H', os, bare, un, hok', rv, q⟩ := h
  cases (show v = .bl true from q)
  cases (show u = Value.bool true from rv)
  have old : ∀ b o, s1.heap.get? b = some o → asItWas s1.heap s'.heap b o ∧ ∃ o', s'.heap.get? b = some o' := fun b o e => by
    rcases one b with z | ⟨_, _, ob, xs, z⟩ | ⟨c, m, z⟩
    · have := un.keep b o e z (by intro z; exact absurd (show b ∈ ([] : List Addr) from z) (by simp)) (by simp)
      exact ⟨.inl this, _, this⟩
    · have e1 := (hok b _ z).1
      have e2 := (hok' b _ (un.frzs b ob _ z)).1
      rw [e] at e1
      cases e1
      exact ⟨.inl e2, _, e2⟩
    · have t := hT _ m
      have e1 := t.at_
      rw [show (c, b).2 = b from rfl, e] at e1
      cases e1
      obtain ⟨more, z2⟩ := un.tbls b #[] z
      have e2 : s'.heap.get? b = some { cls := Value.none, data := Data.fields (#[] ++ more) } := hok' b _ z2
      refine ⟨.inr (.inl ⟨?_, rfl, #[], more, rfl, e2⟩), _, e2⟩
      obtain ⟨o, vs', file, tf, flags, tg, inF, text, tt, e, c1, c2, c3, r⟩ := t.hd
      exact ⟨c, o, vs', e, c1, c2, c3⟩
  exact ⟨rfl, ⟨fun b o e => (old b o e).1, fun b o e => (old b o e).2⟩, os, bare⟩
theorem lawCallT (hT : ∀ q ∈ TS, Tab1 K mg s1.heap q.1 q.2) (KX : K.In s1.heap) (hns : s1.heap.Ns mainGlobals mg) (hb : s1.heap.Ns builtinsNs mb) (hbb : ∀ x : Str, x ≠ "__name__" → mb x = bootBuiltins x) (hlim : s1.heap.NoLimit) (hg : s1.gens = #[])
    (ha : s1.heap.get? a = some { cls := .type "list", data := .seq vs.toArray }) (hi : IntsAre vs ns) (hl : ns.length ≤ sizeLine) (hr : Room k callerA)
    (F : ∀ base : Heap, K.In base → base.Ns mainGlobals mg → (∀ q ∈ TS, LamX.TabB base mg q.1 q.2) → FnG P w K mg base CX0 k fa fd [x] sp) (hbind : ∀ (s : Shared) (u : Value), BindsTo s fd ⟨[u], []⟩ [(x, u)])
    (hsp : ∀ H : Hp, SqL K H a (ns.map V.int) → (∀ q ∈ TS, H q.2 = some (.tbl #[])) → sp [.ref a] H (fun v _ => v = .bl true) fun _ _ _ => False) :
    codeAny (model P w) callerA (.call (.ref fa) ⟨[.ref a], []⟩) (Came s1) s1 := by
  classical
  have rv := vals_ints hi
  have aT : ∀ q ∈ TS, q.2 ≠ a := fun q hq z => by
    have e := (hT q hq).at_
    rw [z, ha] at e
    cases e
  cases hk : K.lookup a with
  | some o =>
    have e := KX a o hk
    rw [ha] at e
    cases e
    refine lawRunT hT KX hns hb hbb hlim hg ha hr F hbind (fun b => if (∃ c, (c, b) ∈ TS) then some (.tbl #[]) else none) (fun b u z => ?_) (fun b => ?_) (hsp _ (.inr ⟨_, vs.toArray, _, hk, rfl, rfl, rfl, by rw [List.size_toArray, hi.length]; exact hl, by simpa using rv⟩) (fun q hq => if_pos ⟨q.1, hq⟩))
    · dsimp only at z
      by_cases e : ∃ c, (c, b) ∈ TS
      · rw [if_pos e] at z
        cases z
        obtain ⟨c, m⟩ := e
        exact (hT _ m).at_
      · rw [if_neg e] at z
        cases z
    · by_cases e : ∃ c, (c, b) ∈ TS
      · obtain ⟨c, m⟩ := e
        exact .inr (.inr ⟨c, m, if_pos ⟨c, m⟩⟩)
      · exact .inl (if_neg e)
  | none =>
    refine lawRunT hT KX hns hb hbb hlim hg ha hr F hbind (fun b => if (∃ c, (c, b) ∈ TS) then some (.tbl #[]) else if b = a then some (HO.frz { cls := .type "list", data := .seq vs.toArray } (.lst (ns.map V.int))) else none) (fun b u z => ?_) (fun b => ?_) (hsp _ (.inl (.inr ⟨{ cls := .type "list", data := .seq vs.toArray }, ?_⟩)) (fun q hq => if_pos ⟨q.1, hq⟩))
    · dsimp only at z
      by_cases e : ∃ c, (c, b) ∈ TS
      · rw [if_pos e] at z
        cases z
        obtain ⟨c, m⟩ := e
        exact (hT _ m).at_
      · rw [if_neg e] at z
        by_cases e2 : b = a
        · rw [if_pos e2] at z
          cases z
          subst e2
          exact ⟨ha, by rw [List.length_map]; exact hl, vs, _, rv, ha⟩
        · rw [if_neg e2] at z
          cases z
    · by_cases e : ∃ c, (c, b) ∈ TS
      · obtain ⟨c, m⟩ := e
        exact .inr (.inr ⟨c, m, if_pos ⟨c, m⟩⟩)
      · by_cases e2 : b = a
        · exact .inr (.inl ⟨e2, hk, _, _, by rw [if_neg e, if_pos e2]⟩)
        · exact .inl (by rw [if_neg e, if_neg e2])
    · dsimp only
      rw [if_neg (fun ⟨c, m⟩ => aT _ m rfl), if_pos rfl]
end
theorem tab1 {q : Program} {loose : List Str} {mean : ExcName → Option Value} {mg mb : Str → Option Value} {h : Heap} {K : PySem.W.Frag} {x : Str} {d : DefRec} {c P : Addr} (G : Top q loose mean mg mb h) (KX : K.In h) (hf : List.find? (fun e => e.name == x) (recsOf q) = some d)
    (ht : PySem.W.tabIn K x = some (c, P)) (hn : K.lookup P = none) : Tab1 K mg h c P := by
  obtain ⟨hd, hp⟩ := PySem.W.tab_of G KX hf ht
  obtain ⟨bm, ob, e1, e2, e3, e4, e5, e6⟩ := G.bmain
  obtain ⟨og, es, ep, g1, g2, _⟩ := G.g
  refine ⟨hd, hp, hn, ⟨bm, ob, e1, e2, fun z => ?_, fun z => ?_, e3, e4, e5, e6⟩, fun z => ?_⟩
  · rw [z, g1] at e3
    cases e3
    rw [e6] at g2
    cases g2
  · rw [z, hp] at e3
    cases e3
    cases e4
  · rw [z, hp] at g1
    cases g1
    cases g2
/-- the goal that k_head leaves, from such a promise, where lambdas stand in some defs -/
theorem walkGT {l : PySem.W.OpenLaw} {n k : Nat} {q : Program} {loose : List Str} {XP : (Str → Option Value) → Heap → Prop} {YP : World → Heap → Prop} {d : DefRec} {K : Params → PySem.W.Frag} {sp : PySem.W.Frag → Sp} {x : Str} (TS : List (Addr × Addr))
    (hTS : ∀ w : World, ∀ t ∈ TS, ∃ y e, List.find? (fun e => e.name == y) (recsOf q) = some e ∧ PySem.W.tabIn (K w.params) y = some t ∧ (K w.params).lookup t.2 = none)
    (hn : l.most = some n) (hn2 : n ≤ sizeLine) (hdf : d.params.defaults = []) (hr : Room k callerA) (hY : ∀ (w : World) (h : Heap), YP w h → (K w.params).In h)
    (F : ∀ (w : World) (mg : Str → Option Value) (fa : Addr) (h : Heap), (K w.params).In h → h.Ns mainGlobals mg → mg d.name = some (.ref fa) →
      ∃ fd : FuncData, (∀ (s : Shared) (u : Value), BindsTo s fd ⟨[u], []⟩ [(x, u)]) ∧ ∀ base : Heap, (K w.params).In base → base.Ns mainGlobals mg → (∀ t ∈ TS, LamX.TabB base mg t.1 t.2) → FnG l.prog w (K w.params) mg base CX0 k fa fd [x] (sp (K w.params)))
    (hsp : ∀ (K : PySem.W.Frag) (H : Hp) (a : Addr) (ns : List Int), ns.length ≤ n → SqL K H a (ns.map V.int) → (∀ t ∈ TS, H t.2 = some (.tbl #[])) → sp K [.ref a] H (fun v _ => v = .bl true) fun _ _ _ => False) :
    PySem.W.WalkO q loose XP YP l.row.toRowW d [] (fun f vs => PySem.call f vs) := by
  refine Att.attach_call hn hdf fun w s₀ s₁ mg mb fa o pm cd doc a vs ns G Y ho hd hcd hmg hobj hints hlen hg => ?_
  have KX := hY w _ Y
  obtain ⟨fd, hb, hF⟩ := F w mg fa _ KX G.T.g hmg
  have hT : ∀ t ∈ TS, Tab1 (K w.params) mg s₁.heap t.1 t.2 := fun t ht => by
    obtain ⟨y, e, h1, h2, h3⟩ := hTS w t ht
    exact tab1 G.T KX h1 (by rw [h2]) h3
  exact lawCallT hT KX G.T.g G.T.b G.T.builtins G.T.nolimit hg hobj hints (Nat.le_trans hlen hn2) hr hF hb fun H hS hH => hsp _ H a ns hlen hS hH
end L2
end

section
set_option Elab.async false
set_option linter.all false
set_option maxRecDepth 100000
set_option maxHeartbeats 4000000
/-! A def whose own code object is known. -/
namespace L2
open PySem PySem.Spec PyProof.Rows
structure FunC (K : PySem.W.Frag) (x qual : Str) (st : Stmt) (f : Addr) (fd : FuncData) (c : Addr) : Prop where
  ex : ∃ (oc : Value) (od : Option Addr) (kV doc pm : Value) (an : Option Addr) (ct : Value) (osl : Array (Option Value)),
    fd = PySem.W.fnOf x qual (defArgs st) (defBody st) (defScope st) .none kV doc pm an (.ref c) ct ∧ K.lookup f = some ⟨oc, od, .func fd, osl⟩ ∧ PySem.W.codeIn K (.ref c) qual = true
section
variable {P : Program} {w : World} {K : PySem.W.Frag} {mg : Str → Option Value} {base : Heap}
theorem FunC.okG {x qual : Str} {st : Stmt} {f cc : Addr} {fd : FuncData} {N ps : List Str} {k : Nat} {sp : Sp} (F : FunC K x qual st f fd cc) (S : FnScope N ps (defScope st)) (len : ∀ vs H Q E, sp vs H Q E → vs.length = ps.length)
    (hbody : ∀ (A : Around) (outer : List Env) (s : Shared) (H : Hp) (vs : List V) (Q : VK) (E : XK), A.guards = some [] → Room k (A.deeper (envOfC qual (defScope st) s.heap.objs.size f (.ref cc))) → sp vs H Q E →
      ∃ t, PSs (cxOf CX0 P w K mg base N qual (defScope st) f (.ref cc) A outer s H E).nox (defBody st) t ∧ t { nx := fun _ H' => Q .non H', rt := Q } (start N vs) H) : FnG P w K mg base CX0 (k + 1) f fd ps sp := by
  obtain ⟨oc, od, kV, doc, pm, an, ct, osl, rfl, lk, hcd⟩ := F.ex
  refine ⟨len, fun A outer s H args us vs Q E hg hr e0 hb r hsp => ?_⟩
  have KX : K.In s.heap := e0.mod.kin.keeps fun b o e => (e0.bs b o e).1
  have lim : s.heap.NoLimit := e0.mod.nolimit.keeps fun b o e => (e0.bs b o e).1
  have kinds : ∀ y ∈ ps.zip us, (defScope st).names.lookup y.1 = some .local ∨ ((defScope st).names.lookup y.1 = some .cell ∧ ((cellsFrom (s.heap.objs.size + 1) (defScope st).names []).lookup y.1).isSome = true) := by
    rintro ⟨n, v⟩ hy
    exact (S.par n (List.of_mem_zip hy).1).imp id fun q => ⟨q, PySem.W.cellsFrom_some _ _ _ (.inl q)⟩
  refine codeAny_call_function hr.depth (KX _ _ lk) rfl S.co S.gen rfl (PySem.W.codeRec_of KX hcd) (hb _ _ _ _ (wpAny_newFunctionEnv_cells S.kind kinds fun env he s1 x => ?_))
  subst he
  obtain ⟨t, ht0, hq⟩ := hbody A outer s H vs Q E hg (hr.deeper _) hsp
  have ht : PSs (cxOf CX0 P w K mg base N qual (defScope st) f (.ref cc) A outer s H E) (defBody st) t := ht0.nox
  have I : Inv (cxOf CX0 P w K mg base N qual (defScope st) f (.ref cc) A outer s H E) [] (start N vs) H s1 := inv_start S hr.hd e0 (len _ _ _ _ hsp) r x
  refine ⟨lim.keeps x.toInCall.keep, codeAny_func (wpAny_mono (ht.run [] s1 (start N vs) H _ I hq) (fun fl s' hs => ?_) fun e s' hs => hs)⟩
  cases fl with
  | ret u =>
    obtain ⟨v, σ', H', J, rv, q⟩ := hs
    exact ⟨v, H', J.os, J.bare, J.base, J.hok, rv, q⟩
  | next =>
    obtain ⟨σ', H', J, q⟩ := hs
    exact ⟨.non, H', J.os, J.bare, J.base, J.hok, rfl, q⟩
  | brk =>
    obtain ⟨_, _, _, q⟩ := hs
    exact q.elim
  | cont =>
    obtain ⟨_, _, _, q⟩ := hs
    exact q.elim
end
end L2
end

section
set_option Elab.async false
set_option linter.all false
set_option maxRecDepth 100000
set_option maxHeartbeats 4000000
/-! The facts of a top, looked up at once: exceptions with one field, classes, their methods, defs. -/
namespace Tp
open PySem PySem.Spec PyProof.Rows L2 Pn
def exB (K : PySem.W.Frag) (C : Addr) (bm : List Value) (nw : String) : Bool :=
  decide (PySem.W.findIn K (.ref C) "__setattr__" = some (some (.builtin "object.__setattr__"))) && PySem.W.excOver K C bm && PySem.W.hasDictIn K C &&
  decide (PySem.W.findIn K (.ref C) "__getattribute__" = some (some (.builtin "BaseException.__getattribute__"))) && decide (PySem.W.findIn K (.ref C) "__getattr__" = some none) &&
  decide (PySem.W.subIn K (.ref C) (.type "BaseException") = some true) && decide (PySem.W.findIn K (.ref C) "__class__" = some (some (.builtin "object.__class__"))) &&
  decide (PySem.W.specialIn K (.builtin "object.__class__") "__get__" = some (some (.builtin "getset_descriptor.__get__"))) && decide (PySem.W.takesIn K (.builtin "object.__class__") = some true) &&
  decide (PySem.W.mroIn K C (.type "object") = some true) && (PySem.W.clsIn K C).isSome && PySem.W.keepIn K (.ref C) && PySem.W.excInitIn K C bm nw
theorem exB_ok {K : PySem.W.Frag} {C : Addr} {bm : List Value} {nw : String} (h : exB K C bm nw = true) : Exk K C bm nw := by
  simp only [exB, Bool.and_eq_true, decide_eq_true_eq] at h
  obtain ⟨⟨⟨⟨⟨⟨⟨⟨⟨⟨⟨⟨h1, h2⟩, h3⟩, h4⟩, h5⟩, h6⟩, h7⟩, h8⟩, h9⟩, h10⟩, h11⟩, h12⟩, h13⟩ := h
  exact ⟨⟨h1, h2, h3⟩, h4, h5, h6, h7, h8, h9, h10, h11, h12, h13⟩
def noB (K : PySem.W.Frag) (C : Addr) (f : Str) : Bool := decide (PySem.W.findIn K (.ref C) f = some none) && decide (PySem.W.takerIn K C f = some none)
structure Ini (K : PySem.W.Frag) (C : Addr) (st : Stmt) (qual : Str) : Prop where
  h : ∃ (f : Addr) (oc doc pm cdv ct : Value) (od an : Option Addr) (osl : Array (Option Value)), PySem.W.findIn K (.ref C) "__init__" = some (some (.ref f)) ∧ PySem.W.typeIn K (.ref f) = some (.type "function") ∧
    K.lookup f = some ⟨oc, od, .func (PySem.W.fnOf "__init__" qual (defArgs st) (defBody st) (defScope st) .none .none doc pm an cdv ct), osl⟩ ∧ PySem.W.codeIn K cdv qual = true
structure Sh1 (st : Stmt) (f : Str) : Prop where
  h : ∃ p1 p2 q1 q2 q3 q4 : Pos, defArgs st = PySem.Xv.a1 f p1 p2 ∧ defBody st = PySem.Xv.b1 f q1 q2 q3 q4 ∧ defScope st = PySem.Xv.s1 f
theorem one_of {K : PySem.W.Frag} {C : Addr} {bm : List Value} {nw : String} {f : Str} {st : Stmt} {qual : Str} (e : Exk K C bm nw) (ff : PySem.Xv.Field f) (n : noB K C f = true) (s : Sh1 st f) (i : Ini K C st qual) : One K C bm nw f := by
  obtain ⟨fI, oc, doc, pm, cdv, ct, od, an, osl, i1, i2, i3, i4⟩ := i.h
  obtain ⟨p1, p2, q1, q2, q3, q4, a, b, c⟩ := s.h
  rw [a, b, c] at i3
  simp only [noB, Bool.and_eq_true, decide_eq_true_eq] at n
  exact ⟨e, ff, n.1, n.2, fI, qual, oc, doc, pm, cdv, ct, od, an, osl, p1, p2, q1, q2, q3, q4, i1, i2, i3, i4⟩
theorem Ini.mk1 {K : PySem.W.Frag} {C f : Addr} {st : Stmt} {qual : Str} {oc doc pm cdv ct : Value} {od an : Option Addr} {osl : Array (Option Value)} (i : PySem.W.findIn K (.ref C) "__init__" = some (some (.ref f))) (t : PySem.W.typeIn K (.ref f) = some (.type "function"))
    (l : K.lookup f = some ⟨oc, od, .func (PySem.W.fnOf "__init__" qual (defArgs st) (defBody st) (defScope st) .none .none doc pm an cdv ct), osl⟩) (c : PySem.W.codeIn K cdv qual = true) : Ini K C st qual := ⟨_, _, _, _, _, _, _, _, _, i, t, l, c⟩
theorem field_of : ∀ j, PySem.Xv.Field (errF j)
  | 0 => .inr (.inl rfl)
  | 1 => .inr (.inr (.inl rfl))
  | _ + 2 => .inr (.inr (.inr (.inl rfl)))
/-- an own class -/
def clsB (K : PySem.W.Frag) (C : Addr) : Bool :=
  PySem.W.plainGet K C Str.empty && PySem.W.hasDictIn K C && PySem.W.plainOver K C && decide (PySem.W.findIn K (.ref C) "__setattr__" = some (some (.builtin "object.__setattr__"))) &&
  decide (PySem.W.findIn K (.ref C) "__class__" = some (some (.builtin "object.__class__"))) && decide (PySem.W.specialIn K (.builtin "object.__class__") "__get__" = some (some (.builtin "getset_descriptor.__get__"))) &&
  decide (PySem.W.takesIn K (.builtin "object.__class__") = some true) && decide (PySem.W.mroIn K C (.type "object") = some true)
theorem clsB_ok {K : PySem.W.Frag} {C : Addr} (h : clsB K C = true) : TyC K C := by
  simp only [clsB, Bool.and_eq_true, decide_eq_true_eq] at h
  obtain ⟨⟨⟨⟨⟨⟨⟨h1, h2⟩, h3⟩, h4⟩, h5⟩, h6⟩, h7⟩, h8⟩ := h
  exact ⟨⟨h1, h2, h3, h4⟩, h5, h6, h7, h8⟩
def mkB (K : PySem.W.Frag) (C f : Addr) : Bool := PySem.W.makesIn K C && PySem.W.isFn K (.ref f) && PySem.W.keepIn K (.ref C)
theorem mkB_ok {K : PySem.W.Frag} {C f : Addr} (i : PySem.W.findIn K (.ref C) "__init__" = some (some (.ref f))) (h : mkB K C f = true) : Mk K C f := by
  simp only [mkB, Bool.and_eq_true] at h
  exact ⟨h.1.1, i, h.1.2, h.2⟩
def fnB (K : PySem.W.Frag) (f : Addr) : Bool := PySem.W.isFn K (.ref f) && PySem.W.keepIn K (.ref f)
theorem fnB_ok {K : PySem.W.Frag} {C f : Addr} {m : Str} (i : PySem.W.findIn K (.ref C) m = some (some (.ref f))) (h : fnB K f = true) : Meth K C m f := by
  simp only [fnB, Bool.and_eq_true] at h
  exact ⟨i, h.1, h.2⟩
/-- a property -/
def prB (K : PySem.W.Frag) (p : Addr) : Bool := decide (PySem.W.specialIn K (.ref p) "__get__" = some (some (.builtin "property.__get__"))) && decide (PySem.W.takesIn K (.ref p) = some true)
theorem prB_ok {K : PySem.W.Frag} {C p g : Addr} {f : Str} {rest : List Value} (i : PySem.W.findIn K (.ref C) f = some (some (.ref p))) (r : PySem.W.recIn K p "property" = some (.ref g :: rest)) (h : prB K p = true) : PropOf K C f p g := by
  simp only [prB, Bool.and_eq_true, decide_eq_true_eq] at h
  exact ⟨i, h.1, h.2, _, r⟩
/-- a class method -/
def cmB (K : PySem.W.Frag) (C g : Addr) (mc : Value) : Bool := PySem.W.readsIn K C mc && decide (PySem.W.specialIn K (.ref C) "__getattribute__" = some (some (.builtin "type.__getattribute__"))) && PySem.W.fnIn K g
theorem cmB_ok {K : PySem.W.Frag} {C p g : Addr} {mc : Value} {m : Str} {rest : List Value} (i : PySem.W.findCls K (.ref C) mc m = some (.get (.builtin "classmethod.__get__") (.ref p) .none (.ref C))) (r : PySem.W.recIn K p "classmethod" = some (.ref g :: rest)) (h : cmB K C g mc = true) :
    ClX.CRead K C mc ∧ ClX.CMet K C mc m p g := by
  simp only [cmB, Bool.and_eq_true, decide_eq_true_eq] at h
  exact ⟨⟨h.1.1, h.1.2⟩, ⟨i, ⟨_, r⟩, h.2⟩⟩
/-- no name of the module -/
def noN (K : PySem.W.Frag) (x : Str) : Bool := decide (PySem.W.nsIn K mainGlobals x = some none)
theorem noN_ok {K : PySem.W.Frag} {mg : Str → Option Value} {h : Heap} {x : Str} (X : K.In h) (G : h.Ns mainGlobals mg) (n : noN K x = true) : mg x = none := PySem.W.mg_none_of X G (of_decide_eq_true n)
theorem all_lt {n : Nat} {p : Nat → Bool} (h : (List.range n).all p = true) {i : Nat} (hi : i < n) : p i = true := List.all_eq_true.mp h i (List.mem_range.mpr hi)
/-- errors told by except clauses -/
def xcB (K : PySem.W.Frag) (cs : List Addr) (n : Nat) (tb : Nat → String) : Bool :=
  (List.range n).all (fun i => exB K (cs.getD i 0) (bM i) (bN i) && noB K (cs.getD i 0) (errF i) && decide (PySem.W.typeIn K (.ref (cs.getD i 0)) = some (.type "type")) && decide (PySem.W.kitOne K (.ref (cs.getD i 0)) (.type (tb i)) = some true)) &&
  (List.range n).all (fun i => (List.range n).all fun j => decide (PySem.W.exmOne K (.ref (cs.getD i 0)) (.ref (cs.getD j 0)) = some (decide (i = j))))
/-- the classes of items, one beside the other -/
def itB (K : PySem.W.Frag) (c : Cs) : Bool :=
  clsB K c.say && clsB K c.press && clsB K c.go && clsB K c.times && clsB K c.body &&
  [c.say, c.press, c.go, c.times, c.body].all (fun C => [c.say, c.press, c.go, c.times].all fun D => decide (PySem.W.kitOne K (.ref C) (.ref D) = some (decide (C = D)))) &&
  ["NoneType", "bool", "int", "str", "list", "tuple", "dict"].all (fun s => [c.say, c.press, c.go, c.times].all fun D => decide (PySem.W.kitOne K (.type s) (.ref D) = some false)) &&
  [(c.say, "command"), (c.press, "key"), (c.go, "mode"), (c.times, "number"), (c.times, "body"), (c.times, "_text"), (c.body, "_entries"), (c.body, "_depth"), (c.body, "_text")].all (fun q => decide (PySem.W.findIn K (.ref q.1) (Str.ofString q.2) = some none)) &&
  decide (c.say ≠ c.times ∧ c.press ≠ c.times ∧ c.go ≠ c.times) && decide (c.body ≠ c.say ∧ c.body ≠ c.press ∧ c.body ≠ c.go ∧ c.body ≠ c.times)
theorem itB_ok {K : PySem.W.Frag} {mg : Str → Option Value} {c : Cs} (h : itB K c = true) (g1 : mg "Say" = some (.ref c.say)) (g2 : mg "Press" = some (.ref c.press)) (g3 : mg "Go" = some (.ref c.go)) (g4 : mg "Times" = some (.ref c.times)) (g5 : mg "Body" = some (.ref c.body))
    (k1 : ∃ t, mg "DEPTH" = some (.int 2 t)) (k2 : ∃ t, mg "ITEMS" = some (.int 6 t)) (k3 : ∃ t, mg "NUMBER_limits" = some (.int 1000000000 t)) : BodT K mg c := by
  unfold itB at h
  rw [Bool.and_eq_true, Bool.and_eq_true, Bool.and_eq_true, Bool.and_eq_true, Bool.and_eq_true, Bool.and_eq_true, Bool.and_eq_true, Bool.and_eq_true, Bool.and_eq_true, decide_eq_true_eq, decide_eq_true_eq] at h
  obtain ⟨⟨⟨⟨⟨⟨⟨⟨⟨h1, h2⟩, h3⟩, h4⟩, h5⟩, h6⟩, h7⟩, h8⟩, h9⟩, h10⟩ := h
  rw [List.all_eq_true] at h6 h7 h8
  have n : ∀ C f, (C, f) ∈ [(c.say, "command"), (c.press, "key"), (c.go, "mode"), (c.times, "number"), (c.times, "body"), (c.times, "_text"), (c.body, "_entries"), (c.body, "_depth"), (c.body, "_text")] → NoAttr K C (Str.ofString f) := fun C f m => (show PySem.W.findIn K (.ref C) (Str.ofString f) = some none from of_decide_eq_true (h8 (C, f) m))
  refine ⟨clsB_ok h1, clsB_ok h2, clsB_ok h3, clsB_ok h4, clsB_ok h5, g1, g2, g3, g4, g5, n _ _ (by simp), n _ _ (by simp), n _ _ (by simp), n _ _ (by simp), n _ _ (by simp), n _ _ (by simp), n _ _ (by simp), n _ _ (by simp), n _ _ (by simp), fun C hC D hD => ?_, fun s hs D hD => ?_, h9.1, h9.2.1, h9.2.2, h10, k1, k2, k3⟩
  · have a := h6 C (by rcases hC with h | h | h | h | h <;> simp [h])
    rw [List.all_eq_true] at a
    exact of_decide_eq_true (a D (by rcases hD with h | h | h | h <;> simp [h]))
  · have a := h7 s hs
    rw [List.all_eq_true] at a
    exact of_decide_eq_true (a D (by rcases hD with h | h | h | h <;> simp [h]))
end Tp
end

section
set_option Elab.async false
set_option linter.all false
set_option maxRecDepth 100000
set_option maxHeartbeats 8000000
namespace KP
open PySem PySem.Spec PyProof.Rows L2 Pn Tp
/-- Book.__init__ with its defaults -/
theorem bookI_mk {K : PySem.W.Frag} {f T e0 : Addr} {oc kV doc pm cdv ct ocT : Value} {od an odT : Option Addr} {osl slT : Array (Option Value)} {nT : Nat}
    (l : K.lookup f = some ⟨oc, od, .func (PySem.W.fnOf "__init__" "Book.__init__" (defArgs sBookI) (defBody sBookI) (defScope sBookI) (.ref T) kV doc pm an cdv ct), osl⟩) (c : PySem.W.codeIn K cdv "Book.__init__" = true) (k : PySem.W.keepIn K (.ref f) = true)
    (lT : K.lookup T = some ⟨ocT, odT, .seq #[.ref e0, .none] nT, slT⟩) :
    FunD K "__init__" "Book.__init__" (defArgs sBookI) (defBody sBookI) (defScope sBookI) [.ref e0, .non] [] f (PySem.W.fnOf "__init__" "Book.__init__" (defArgs sBookI) (defBody sBookI) (defScope sBookI) (.ref T) kV doc pm an cdv ct) :=
  ⟨⟨oc, od, .ref T, kV, doc, pm, an, cdv, ct, osl, rfl, l, c, .inr ⟨by simp, T, _, [.ref e0, .none], nT, rfl, lT, rfl, .cons rfl (.cons rfl .nil)⟩, .inl rfl⟩, k⟩
section
variable {K : PySem.W.Frag} {f e0 : Addr} {fd : FuncData}
theorem bookI_b (F : FunD K "__init__" "Book.__init__" (defArgs sBookI) (defBody sBookI) (defScope sBookI) [.ref e0, .non] [] f fd) : Binds K fd ["self", "first", "rest", "bodies"] [] := by
  obtain ⟨ds, r, b⟩ := F.binds1 (ps := ["self", "first", "rest", "bodies"]) 4 2 (by simp) rfl (fun T kV doc pm an cdv ct us its h1 h2 => match us, its, h1, h2 with | [_, _, _, _], [_, _], _, _ => ⟨_, rfl, rfl⟩)
  cases r
  exact b
theorem bookI_b2 (F : FunD K "__init__" "Book.__init__" (defArgs sBookI) (defBody sBookI) (defScope sBookI) [.ref e0, .non] [] f fd) : ∃ ds, Vals [V.non] ds ∧ Binds K fd ["self", "first", "rest", "bodies"] ds := 
  F.binds1 (ps := ["self", "first", "rest", "bodies"]) 3 1 (by simp) rfl (fun T kV doc pm an cdv ct us its h1 h2 => match us, its, h1, h2 with | [_, _, _], [_, _], _, _ => ⟨_, rfl, rfl⟩)
theorem bookI_b1 (F : FunD K "__init__" "Book.__init__" (defArgs sBookI) (defBody sBookI) (defScope sBookI) [.ref e0, .non] [] f fd) : ∃ ds, Vals [V.ref e0, V.non] ds ∧ Binds K fd ["self", "first", "rest", "bodies"] ds := 
  F.binds1 (ps := ["self", "first", "rest", "bodies"]) 2 0 (by simp) rfl (fun T kV doc pm an cdv ct us its h1 h2 => match us, its, h1, h2 with | [_, _], [_, _], _, _ => ⟨_, rfl, rfl⟩)
theorem kw3_rel {vs zs : List V} {us ws : List Value} (h : Vals vs us) (g : Vals zs ws) : Vals (kw3 vs zs) (kw3 us ws) := by
  cases g with
  | nil => exact h
  | cons a g => cases g with
    | nil => exact h
    | cons b g => cases g with
      | nil => exact h
      | cons c g => cases g with
        | nil => exact h.append (.cons c (.cons b (.cons a .nil)))
        | cons d g => exact h
theorem bookI_b3 (F : FunD K "__init__" "Book.__init__" (defArgs sBookI) (defBody sBookI) (defScope sBookI) [.ref e0, .non] [] f fd) : KBn K fd ["self", "first", "rest", "bodies"] 1 ["bodies", "rest", "first"] kw3 kw3 := by
  obtain ⟨its, h⟩ := F.kbindsD (ps := ["self", "first", "rest", "bodies"]) 1 ["bodies", "rest", "first"] (fun us _ ws => kw3 us ws) (by simp) (fun a _ c => kw3_rel a c) (fun T kV doc pm an cdv ct us its ws h1 h2 h3 => match us, its, ws, h1, h2, h3 with | [_], [_, _], [_, _, _], _, _, _ => ⟨_, rfl, rfl⟩)
  exact h
theorem setRest_b {d : FuncData} (F : Fun K "set_rest" "Book.set_rest" sSetRest f d) : KBn K d ["self", "modes"] 1 ["modes"] kw1 kw1 := by
  obtain ⟨oc, od, kV, doc, pm, an, cdv, ct, osl, rfl, lk, hcd⟩ := F.ex
  exact ⟨fun s us ws X l1 l2 => match us, ws, l1, l2 with | [_], [_], _, _ => .of_eq rfl, fun r1 r2 => r1.append r2⟩
theorem e0_ok {e0 : Addr} {odE : Option Addr} {slE : Array (Option Value)} {nE : Nat} (l : K.lookup e0 = some ⟨.type "tuple", odE, .seq #[] nE, slE⟩) : SqT K (fun _ => none) e0 [] :=
  .inr ⟨_, #[], nE, l, rfl, rfl, by decide, .nil⟩
end
end KP
end

section
set_option Elab.async false
set_option linter.all false
set_option maxRecDepth 100000
set_option maxHeartbeats 8000000
namespace KP
open PySem PySem.Spec PyProof.Rows L2 Pn Tp
theorem sh4 : Sh1 (inClass (top 12) 0) "value" := ⟨_, _, _, _, _, _, rfl, rfl, rfl⟩
theorem sh0 : Sh1 (inClass (top 2) 0) (errF 0) := ⟨_, _, _, _, _, _, rfl, rfl, rfl⟩
theorem sh1 : Sh1 (inClass (top 8) 0) (errF 1) := ⟨_, _, _, _, _, _, rfl, rfl, rfl⟩
theorem sh2 : Sh1 (inClass (top 13) 0) (errF 2) := ⟨_, _, _, _, _, _, rfl, rfl, rfl⟩
theorem sh3 : Sh1 (inClass (top 15) 0) (errF 3) := ⟨_, _, _, _, _, _, rfl, rfl, rfl⟩
def outB (K : PySem.W.Frag) (C : Addr) : Bool := exB K C bmL "LookupError.__new__" && noB K C "value" && decide (PySem.W.typeIn K (.ref C) = some (.type "type")) && decide (PySem.W.kitOne K (.ref C) (.type "LookupError") = some true) && decide (PySem.W.exmOne K (.ref C) (.ref C) = some true)
def bookB (K : PySem.W.Frag) (C : Addr) : Bool := clsB K C && (decide (PySem.W.findIn K (.ref C) "_first" = some none) && (decide (PySem.W.findIn K (.ref C) "_rest" = some none) && (decide (PySem.W.findIn K (.ref C) "_bodies" = some none) && (decide (PySem.W.kitOne K (.ref C) (.ref C) = some true) && (PySem.W.notFirst K C (.ref C) && (PySem.W.notFirst K C (.type "tuple") && decide (PySem.W.kitOne K (.type "tuple") (.ref C) = some false)))))))
def eqmB (K : PySem.W.Frag) (C f : Addr) : Bool := PySem.W.isFn K (.ref f) && decide (PySem.W.mroIn K C (.type "object") = some true) && decide (PySem.W.findIn K (.ref C) "__ne__" = some (some (.builtin "object.__ne__")))
theorem eqB_ok {K : PySem.W.Frag} {C f : Addr} (i : PySem.W.findIn K (.ref C) "__eq__" = some (some (.ref f))) (h : eqmB K C f = true) : EqM K C f := by
  simp only [eqmB, Bool.and_eq_true, decide_eq_true_eq] at h
  exact ⟨i, h.1.1, h.1.2, h.2⟩
def apB (K : PySem.W.Frag) (c : Cs) : Bool := decide (c.say ≠ c.press) && decide (c.say ≠ c.go) && decide (c.press ≠ c.go) && [c.say, c.press, c.go, c.times, c.body].all (fun C => [c.say, c.press, c.go, c.times, c.body].all fun D => PySem.W.notFirst K C (.ref D)) && decide (PySem.W.kitOne K (.ref c.body) (.ref c.body) = some true)
theorem apB_ok {K : PySem.W.Frag} {c : Cs} (h : apB K c = true) : Ap K c := by
  simp only [apB, Bool.and_eq_true, decide_eq_true_eq] at h
  obtain ⟨⟨⟨⟨h1, h2⟩, h3⟩, h4⟩, h5⟩ := h
  refine ⟨h1, h2, h3, fun C hC D hD => ?_, h5⟩
  rw [List.all_eq_true] at h4
  have a := h4 C (by rcases hC with h | h | h | h | h <;> simp [h])
  rw [List.all_eq_true] at a
  exact a D (by rcases hD with h | h | h | h | h <;> simp [h])
def allB (K : PySem.W.Frag) (cs : List Addr) (c : Cs) (x4 cb iS iP iG iT iB tS tP tG tT tB qS qP qG qT qB kG kC kL kE kP kS fD fEn uF uR uM uB uS gO gB kI pD pEn vF vR vM vB vS : Addr) : Bool :=
  (xcB K cs 4 tbase && (itB K c && (mkB K c.say iS && (mkB K c.press iP && (mkB K c.go iG && (mkB K c.times iT && (mkB K c.body iB && (fnB K tS && (fnB K tP && (fnB K tG && (fnB K tT && (fnB K tB && (prB K pD && (prB K pEn && (cmB K c.times gO (.type "type") && (cmB K c.body gB (.type "type") && (apB K c && (eqmB K c.say qS && (eqmB K c.press qP && (eqmB K c.go qG && (eqmB K c.times qT && (eqmB K c.body qB && (outB K x4 && (bookB K cb && (mkB K cb kI && (fnB K kP && (fnB K kS && (fnB K kL && (fnB K kC && (PySem.W.fnIn K kG && (PySem.W.isFn K (.ref kG) && (eqmB K cb kE && (prB K vF && (prB K vR && (prB K vM && (prB K vB && (prB K vS && (["list", "int", "len", "range", "repr", "isinstance", "str", "bool", "max", "enumerate", "min", "all", "tuple", "dict", "set", "sorted", "LookupError"].all (fun x => noN K (Str.ofString x)) && ([iS, iP, iG, iT, iB, tS, tP, tG, tT, tB, qS, qP, qG, qT, qB, kG, kC, kL, kE, kP, kS, fD, fEn, uF, uR, uM, uB, uS, gO, gB, kI].all (fun f => PySem.W.keepIn K (.ref f)))))))))))))))))))))))))))))))))))))))))
/-- the data of a def that stands -/
def fdOf {K : PySem.W.Frag} {x qual : Str} {st : Stmt} {f : Addr} {fd : FuncData} (_ : Fun K x qual st f fd) : FuncData := fd
def fdO2 {K : PySem.W.Frag} {x qual : Str} {params : Arguments} {body : List Stmt} {scope : Scope} {dvs : List V} {kws : List (Str × V)} {f : Addr} {fd : FuncData} (_ : FunD K x qual params body scope dvs kws f fd) : FuncData := fd
theorem all_mk {P : Program} {w : World} {K : PySem.W.Frag} {h : Heap} {mg : Str → Option Value} {fa : Addr} (X : K.In h) (G : h.Ns mainGlobals mg) (hfa : mg "law" = some (.ref fa)) {x0 x1 x2 x3 x4 cSay cPress cGo cTimes cBody cBook : Addr}
    (a0 : PySem.W.nsIn K mainGlobals "InvalidItem" = some (some (.ref x0)))
    (a1 : PySem.W.nsIn K mainGlobals "NotAnItem" = some (some (.ref x1)))
    (a2 : PySem.W.nsIn K mainGlobals "TooMany" = some (some (.ref x2)))
    (a3 : PySem.W.nsIn K mainGlobals "TooDeep" = some (some (.ref x3)))
    (a4 : PySem.W.nsIn K mainGlobals "UnknownStroke" = some (some (.ref x4)))
    (bSay : PySem.W.nsIn K mainGlobals "Say" = some (some (.ref cSay)))
    (bPress : PySem.W.nsIn K mainGlobals "Press" = some (some (.ref cPress)))
    (bGo : PySem.W.nsIn K mainGlobals "Go" = some (some (.ref cGo)))
    (bTimes : PySem.W.nsIn K mainGlobals "Times" = some (some (.ref cTimes)))
    (bBody : PySem.W.nsIn K mainGlobals "Body" = some (some (.ref cBody)))
    (bBook : PySem.W.nsIn K mainGlobals "Book" = some (some (.ref cBook)))
    {e0 : Addr} {oc_e0 dc_e0 pm_e0 cv_e0 ct_e0 : Value} {od_e0 an_e0 : Option Addr} {sl_e0 : Array (Option Value)} (i_e0 : PySem.W.findIn K (.ref x0) "__init__" = some (some (.ref e0))) (t_e0 : PySem.W.typeIn K (.ref e0) = some (.type "function")) (l_e0 : K.lookup e0 = some ⟨oc_e0, od_e0, .func (PySem.W.fnOf "__init__" "InvalidItem.__init__" (defArgs (inClass (top 2) 0)) (defBody (inClass (top 2) 0)) (defScope (inClass (top 2) 0)) .none .none dc_e0 pm_e0 an_e0 cv_e0 ct_e0), sl_e0⟩) (d_e0 : PySem.W.codeIn K cv_e0 "InvalidItem.__init__" = true)
    {e1 : Addr} {oc_e1 dc_e1 pm_e1 cv_e1 ct_e1 : Value} {od_e1 an_e1 : Option Addr} {sl_e1 : Array (Option Value)} (i_e1 : PySem.W.findIn K (.ref x1) "__init__" = some (some (.ref e1))) (t_e1 : PySem.W.typeIn K (.ref e1) = some (.type "function")) (l_e1 : K.lookup e1 = some ⟨oc_e1, od_e1, .func (PySem.W.fnOf "__init__" "NotAnItem.__init__" (defArgs (inClass (top 8) 0)) (defBody (inClass (top 8) 0)) (defScope (inClass (top 8) 0)) .none .none dc_e1 pm_e1 an_e1 cv_e1 ct_e1), sl_e1⟩) (d_e1 : PySem.W.codeIn K cv_e1 "NotAnItem.__init__" = true)
    {e2 : Addr} {oc_e2 dc_e2 pm_e2 cv_e2 ct_e2 : Value} {od_e2 an_e2 : Option Addr} {sl_e2 : Array (Option Value)} (i_e2 : PySem.W.findIn K (.ref x2) "__init__" = some (some (.ref e2))) (t_e2 : PySem.W.typeIn K (.ref e2) = some (.type "function")) (l_e2 : K.lookup e2 = some ⟨oc_e2, od_e2, .func (PySem.W.fnOf "__init__" "TooMany.__init__" (defArgs (inClass (top 13) 0)) (defBody (inClass (top 13) 0)) (defScope (inClass (top 13) 0)) .none .none dc_e2 pm_e2 an_e2 cv_e2 ct_e2), sl_e2⟩) (d_e2 : PySem.W.codeIn K cv_e2 "TooMany.__init__" = true)
    {e3 : Addr} {oc_e3 dc_e3 pm_e3 cv_e3 ct_e3 : Value} {od_e3 an_e3 : Option Addr} {sl_e3 : Array (Option Value)} (i_e3 : PySem.W.findIn K (.ref x3) "__init__" = some (some (.ref e3))) (t_e3 : PySem.W.typeIn K (.ref e3) = some (.type "function")) (l_e3 : K.lookup e3 = some ⟨oc_e3, od_e3, .func (PySem.W.fnOf "__init__" "TooDeep.__init__" (defArgs (inClass (top 15) 0)) (defBody (inClass (top 15) 0)) (defScope (inClass (top 15) 0)) .none .none dc_e3 pm_e3 an_e3 cv_e3 ct_e3), sl_e3⟩) (d_e3 : PySem.W.codeIn K cv_e3 "TooDeep.__init__" = true)
    {e4 : Addr} {oc_e4 dc_e4 pm_e4 cv_e4 ct_e4 : Value} {od_e4 an_e4 : Option Addr} {sl_e4 : Array (Option Value)} (i_e4 : PySem.W.findIn K (.ref x4) "__init__" = some (some (.ref e4))) (t_e4 : PySem.W.typeIn K (.ref e4) = some (.type "function")) (l_e4 : K.lookup e4 = some ⟨oc_e4, od_e4, .func (PySem.W.fnOf "__init__" "UnknownStroke.__init__" (defArgs (inClass (top 12) 0)) (defBody (inClass (top 12) 0)) (defScope (inClass (top 12) 0)) .none .none dc_e4 pm_e4 an_e4 cv_e4 ct_e4), sl_e4⟩) (d_e4 : PySem.W.codeIn K cv_e4 "UnknownStroke.__init__" = true)
    {iS : Addr} {oc_iS kv_iS dc_iS pm_iS cv_iS ct_iS : Value} {od_iS an_iS : Option Addr} {sl_iS : Array (Option Value)} (i_iS : PySem.W.findIn K (.ref cSay) "__init__" = some (some (.ref iS))) (l_iS : K.lookup iS = some ⟨oc_iS, od_iS, .func (PySem.W.fnOf "__init__" "Say.__init__" (defArgs sSayI) (defBody sSayI) (defScope sSayI) .none kv_iS dc_iS pm_iS an_iS cv_iS ct_iS), sl_iS⟩) (d_iS : PySem.W.codeIn K cv_iS "Say.__init__" = true)
    {iP : Addr} {oc_iP kv_iP dc_iP pm_iP cv_iP ct_iP : Value} {od_iP an_iP : Option Addr} {sl_iP : Array (Option Value)} (i_iP : PySem.W.findIn K (.ref cPress) "__init__" = some (some (.ref iP))) (l_iP : K.lookup iP = some ⟨oc_iP, od_iP, .func (PySem.W.fnOf "__init__" "Press.__init__" (defArgs sPressI) (defBody sPressI) (defScope sPressI) .none kv_iP dc_iP pm_iP an_iP cv_iP ct_iP), sl_iP⟩) (d_iP : PySem.W.codeIn K cv_iP "Press.__init__" = true)
    {iG : Addr} {oc_iG kv_iG dc_iG pm_iG cv_iG ct_iG : Value} {od_iG an_iG : Option Addr} {sl_iG : Array (Option Value)} (i_iG : PySem.W.findIn K (.ref cGo) "__init__" = some (some (.ref iG))) (l_iG : K.lookup iG = some ⟨oc_iG, od_iG, .func (PySem.W.fnOf "__init__" "Go.__init__" (defArgs sGoI) (defBody sGoI) (defScope sGoI) .none kv_iG dc_iG pm_iG an_iG cv_iG ct_iG), sl_iG⟩) (d_iG : PySem.W.codeIn K cv_iG "Go.__init__" = true)
    {iT : Addr} {oc_iT kv_iT dc_iT pm_iT cv_iT ct_iT : Value} {od_iT an_iT : Option Addr} {sl_iT : Array (Option Value)} (i_iT : PySem.W.findIn K (.ref cTimes) "__init__" = some (some (.ref iT))) (l_iT : K.lookup iT = some ⟨oc_iT, od_iT, .func (PySem.W.fnOf "__init__" "Times.__init__" (defArgs sTimesI) (defBody sTimesI) (defScope sTimesI) .none kv_iT dc_iT pm_iT an_iT cv_iT ct_iT), sl_iT⟩) (d_iT : PySem.W.codeIn K cv_iT "Times.__init__" = true)
    {iB : Addr} {oc_iB kv_iB dc_iB pm_iB cv_iB ct_iB : Value} {od_iB an_iB : Option Addr} {sl_iB : Array (Option Value)} (i_iB : PySem.W.findIn K (.ref cBody) "__init__" = some (some (.ref iB))) (l_iB : K.lookup iB = some ⟨oc_iB, od_iB, .func (PySem.W.fnOf "__init__" "Body.__init__" (defArgs sBodyI) (defBody sBodyI) (defScope sBodyI) .none kv_iB dc_iB pm_iB an_iB cv_iB ct_iB), sl_iB⟩) (d_iB : PySem.W.codeIn K cv_iB "Body.__init__" = true)
    {tS : Addr} {oc_tS kv_tS dc_tS pm_tS cv_tS ct_tS : Value} {od_tS an_tS : Option Addr} {sl_tS : Array (Option Value)} (i_tS : PySem.W.findIn K (.ref cSay) "text" = some (some (.ref tS))) (l_tS : K.lookup tS = some ⟨oc_tS, od_tS, .func (PySem.W.fnOf "text" "Say.text" (defArgs sSayT) (defBody sSayT) (defScope sSayT) .none kv_tS dc_tS pm_tS an_tS cv_tS ct_tS), sl_tS⟩) (d_tS : PySem.W.codeIn K cv_tS "Say.text" = true)
    {tP : Addr} {oc_tP kv_tP dc_tP pm_tP cv_tP ct_tP : Value} {od_tP an_tP : Option Addr} {sl_tP : Array (Option Value)} (i_tP : PySem.W.findIn K (.ref cPress) "text" = some (some (.ref tP))) (l_tP : K.lookup tP = some ⟨oc_tP, od_tP, .func (PySem.W.fnOf "text" "Press.text" (defArgs sPressT) (defBody sPressT) (defScope sPressT) .none kv_tP dc_tP pm_tP an_tP cv_tP ct_tP), sl_tP⟩) (d_tP : PySem.W.codeIn K cv_tP "Press.text" = true)
    {tG : Addr} {oc_tG kv_tG dc_tG pm_tG cv_tG ct_tG : Value} {od_tG an_tG : Option Addr} {sl_tG : Array (Option Value)} (i_tG : PySem.W.findIn K (.ref cGo) "text" = some (some (.ref tG))) (l_tG : K.lookup tG = some ⟨oc_tG, od_tG, .func (PySem.W.fnOf "text" "Go.text" (defArgs sGoT) (defBody sGoT) (defScope sGoT) .none kv_tG dc_tG pm_tG an_tG cv_tG ct_tG), sl_tG⟩) (d_tG : PySem.W.codeIn K cv_tG "Go.text" = true)
    {tT : Addr} {oc_tT kv_tT dc_tT pm_tT cv_tT ct_tT : Value} {od_tT an_tT : Option Addr} {sl_tT : Array (Option Value)} (i_tT : PySem.W.findIn K (.ref cTimes) "text" = some (some (.ref tT))) (l_tT : K.lookup tT = some ⟨oc_tT, od_tT, .func (PySem.W.fnOf "text" "Times.text" (defArgs sTimesT) (defBody sTimesT) (defScope sTimesT) .none kv_tT dc_tT pm_tT an_tT cv_tT ct_tT), sl_tT⟩) (d_tT : PySem.W.codeIn K cv_tT "Times.text" = true)
    {tB : Addr} {oc_tB kv_tB dc_tB pm_tB cv_tB ct_tB : Value} {od_tB an_tB : Option Addr} {sl_tB : Array (Option Value)} (i_tB : PySem.W.findIn K (.ref cBody) "text" = some (some (.ref tB))) (l_tB : K.lookup tB = some ⟨oc_tB, od_tB, .func (PySem.W.fnOf "text" "Body.text" (defArgs sBodyT) (defBody sBodyT) (defScope sBodyT) .none kv_tB dc_tB pm_tB an_tB cv_tB ct_tB), sl_tB⟩) (d_tB : PySem.W.codeIn K cv_tB "Body.text" = true)
    {qS : Addr} {oc_qS kv_qS dc_qS pm_qS cv_qS ct_qS : Value} {od_qS an_qS : Option Addr} {sl_qS : Array (Option Value)} (i_qS : PySem.W.findIn K (.ref cSay) "__eq__" = some (some (.ref qS))) (l_qS : K.lookup qS = some ⟨oc_qS, od_qS, .func (PySem.W.fnOf "__eq__" "Say.__eq__" (defArgs sSayE) (defBody sSayE) (defScope sSayE) .none kv_qS dc_qS pm_qS an_qS cv_qS ct_qS), sl_qS⟩) (d_qS : PySem.W.codeIn K cv_qS "Say.__eq__" = true)
    {qP : Addr} {oc_qP kv_qP dc_qP pm_qP cv_qP ct_qP : Value} {od_qP an_qP : Option Addr} {sl_qP : Array (Option Value)} (i_qP : PySem.W.findIn K (.ref cPress) "__eq__" = some (some (.ref qP))) (l_qP : K.lookup qP = some ⟨oc_qP, od_qP, .func (PySem.W.fnOf "__eq__" "Press.__eq__" (defArgs sPressE) (defBody sPressE) (defScope sPressE) .none kv_qP dc_qP pm_qP an_qP cv_qP ct_qP), sl_qP⟩) (d_qP : PySem.W.codeIn K cv_qP "Press.__eq__" = true)
    {qG : Addr} {oc_qG kv_qG dc_qG pm_qG cv_qG ct_qG : Value} {od_qG an_qG : Option Addr} {sl_qG : Array (Option Value)} (i_qG : PySem.W.findIn K (.ref cGo) "__eq__" = some (some (.ref qG))) (l_qG : K.lookup qG = some ⟨oc_qG, od_qG, .func (PySem.W.fnOf "__eq__" "Go.__eq__" (defArgs sGoE) (defBody sGoE) (defScope sGoE) .none kv_qG dc_qG pm_qG an_qG cv_qG ct_qG), sl_qG⟩) (d_qG : PySem.W.codeIn K cv_qG "Go.__eq__" = true)
    {qT : Addr} {oc_qT kv_qT dc_qT pm_qT cv_qT ct_qT : Value} {od_qT an_qT : Option Addr} {sl_qT : Array (Option Value)} (i_qT : PySem.W.findIn K (.ref cTimes) "__eq__" = some (some (.ref qT))) (l_qT : K.lookup qT = some ⟨oc_qT, od_qT, .func (PySem.W.fnOf "__eq__" "Times.__eq__" (defArgs sTimesE) (defBody sTimesE) (defScope sTimesE) .none kv_qT dc_qT pm_qT an_qT cv_qT ct_qT), sl_qT⟩) (d_qT : PySem.W.codeIn K cv_qT "Times.__eq__" = true)
    {qB : Addr} {oc_qB kv_qB dc_qB pm_qB cv_qB ct_qB : Value} {od_qB an_qB : Option Addr} {sl_qB : Array (Option Value)} (i_qB : PySem.W.findIn K (.ref cBody) "__eq__" = some (some (.ref qB))) (l_qB : K.lookup qB = some ⟨oc_qB, od_qB, .func (PySem.W.fnOf "__eq__" "Body.__eq__" (defArgs sBodyE) (defBody sBodyE) (defScope sBodyE) .none kv_qB dc_qB pm_qB an_qB cv_qB ct_qB), sl_qB⟩) (d_qB : PySem.W.codeIn K cv_qB "Body.__eq__" = true)
    {kG : Addr} {oc_kG kv_kG dc_kG pm_kG cv_kG ct_kG : Value} {od_kG an_kG : Option Addr} {sl_kG : Array (Option Value)} (i_kG : PySem.W.findIn K (.ref cBook) "__getitem__" = some (some (.ref kG))) (l_kG : K.lookup kG = some ⟨oc_kG, od_kG, .func (PySem.W.fnOf "__getitem__" "Book.__getitem__" (defArgs sGetB) (defBody sGetB) (defScope sGetB) .none kv_kG dc_kG pm_kG an_kG cv_kG ct_kG), sl_kG⟩) (d_kG : PySem.W.codeIn K cv_kG "Book.__getitem__" = true)
    {kC : Addr} {oc_kC kv_kC dc_kC pm_kC cv_kC ct_kC : Value} {od_kC an_kC : Option Addr} {sl_kC : Array (Option Value)} (i_kC : PySem.W.findIn K (.ref cBook) "__contains__" = some (some (.ref kC))) (l_kC : K.lookup kC = some ⟨oc_kC, od_kC, .func (PySem.W.fnOf "__contains__" "Book.__contains__" (defArgs sCon) (defBody sCon) (defScope sCon) .none kv_kC dc_kC pm_kC an_kC cv_kC ct_kC), sl_kC⟩) (d_kC : PySem.W.codeIn K cv_kC "Book.__contains__" = true)
    {kL : Addr} {oc_kL kv_kL dc_kL pm_kL cv_kL ct_kL : Value} {od_kL an_kL : Option Addr} {sl_kL : Array (Option Value)} (i_kL : PySem.W.findIn K (.ref cBook) "__len__" = some (some (.ref kL))) (l_kL : K.lookup kL = some ⟨oc_kL, od_kL, .func (PySem.W.fnOf "__len__" "Book.__len__" (defArgs sLenB) (defBody sLenB) (defScope sLenB) .none kv_kL dc_kL pm_kL an_kL cv_kL ct_kL), sl_kL⟩) (d_kL : PySem.W.codeIn K cv_kL "Book.__len__" = true)
    {kE : Addr} {oc_kE kv_kE dc_kE pm_kE cv_kE ct_kE : Value} {od_kE an_kE : Option Addr} {sl_kE : Array (Option Value)} (i_kE : PySem.W.findIn K (.ref cBook) "__eq__" = some (some (.ref kE))) (l_kE : K.lookup kE = some ⟨oc_kE, od_kE, .func (PySem.W.fnOf "__eq__" "Book.__eq__" (defArgs sBookE) (defBody sBookE) (defScope sBookE) .none kv_kE dc_kE pm_kE an_kE cv_kE ct_kE), sl_kE⟩) (d_kE : PySem.W.codeIn K cv_kE "Book.__eq__" = true)
    {kP : Addr} {oc_kP kv_kP dc_kP pm_kP cv_kP ct_kP : Value} {od_kP an_kP : Option Addr} {sl_kP : Array (Option Value)} (i_kP : PySem.W.findIn K (.ref cBook) "copied" = some (some (.ref kP))) (l_kP : K.lookup kP = some ⟨oc_kP, od_kP, .func (PySem.W.fnOf "copied" "Book.copied" (defArgs sCopied) (defBody sCopied) (defScope sCopied) .none kv_kP dc_kP pm_kP an_kP cv_kP ct_kP), sl_kP⟩) (d_kP : PySem.W.codeIn K cv_kP "Book.copied" = true)
    {kS : Addr} {oc_kS kv_kS dc_kS pm_kS cv_kS ct_kS : Value} {od_kS an_kS : Option Addr} {sl_kS : Array (Option Value)} (i_kS : PySem.W.findIn K (.ref cBook) "set_rest" = some (some (.ref kS))) (l_kS : K.lookup kS = some ⟨oc_kS, od_kS, .func (PySem.W.fnOf "set_rest" "Book.set_rest" (defArgs sSetRest) (defBody sSetRest) (defScope sSetRest) .none kv_kS dc_kS pm_kS an_kS cv_kS ct_kS), sl_kS⟩) (d_kS : PySem.W.codeIn K cv_kS "Book.set_rest" = true)
    {kI dT ez : Addr} {oc_kI kv_kI dc_kI pm_kI cv_kI ct_kI : Value} {od_kI an_kI : Option Addr} {sl_kI : Array (Option Value)} (i_kI : PySem.W.findIn K (.ref cBook) "__init__" = some (some (.ref kI))) (l_kI : K.lookup kI = some ⟨oc_kI, od_kI, .func (PySem.W.fnOf "__init__" "Book.__init__" (defArgs sBookI) (defBody sBookI) (defScope sBookI) (.ref dT) kv_kI dc_kI pm_kI an_kI cv_kI ct_kI), sl_kI⟩) (d_kI : PySem.W.codeIn K cv_kI "Book.__init__" = true)
    {oc_T : Value} {od_T od_E : Option Addr} {sl_T sl_E : Array (Option Value)} {n_T n_E : Nat} (l_T : K.lookup dT = some ⟨oc_T, od_T, .seq #[.ref ez, .none] n_T, sl_T⟩) (l_E : K.lookup ez = some ⟨.type "tuple", od_E, .seq #[] n_E, sl_E⟩)
    {fD pD : Addr} {r_fD : List Value} {oc_fD kv_fD dc_fD pm_fD cv_fD ct_fD : Value} {od_fD an_fD : Option Addr} {sl_fD : Array (Option Value)} (i_fD : PySem.W.findIn K (.ref cBody) "depth" = some (some (.ref pD))) (p_fD : PySem.W.recIn K pD "property" = some (.ref fD :: r_fD)) (l_fD : K.lookup fD = some ⟨oc_fD, od_fD, .func (PySem.W.fnOf "depth" "Body.depth" (defArgs sBodyD) (defBody sBodyD) (defScope sBodyD) .none kv_fD dc_fD pm_fD an_fD cv_fD ct_fD), sl_fD⟩) (d_fD : PySem.W.codeIn K cv_fD "Body.depth" = true)
    {fEn pEn : Addr} {r_fEn : List Value} {oc_fEn kv_fEn dc_fEn pm_fEn cv_fEn ct_fEn : Value} {od_fEn an_fEn : Option Addr} {sl_fEn : Array (Option Value)} (i_fEn : PySem.W.findIn K (.ref cBody) "entries" = some (some (.ref pEn))) (p_fEn : PySem.W.recIn K pEn "property" = some (.ref fEn :: r_fEn)) (l_fEn : K.lookup fEn = some ⟨oc_fEn, od_fEn, .func (PySem.W.fnOf "entries" "Body.entries" (defArgs sBodyEn) (defBody sBodyEn) (defScope sBodyEn) .none kv_fEn dc_fEn pm_fEn an_fEn cv_fEn ct_fEn), sl_fEn⟩) (d_fEn : PySem.W.codeIn K cv_fEn "Body.entries" = true)
    {uF vF : Addr} {r_uF : List Value} {oc_uF kv_uF dc_uF pm_uF cv_uF ct_uF : Value} {od_uF an_uF : Option Addr} {sl_uF : Array (Option Value)} (i_uF : PySem.W.findIn K (.ref cBook) "first" = some (some (.ref vF))) (p_uF : PySem.W.recIn K vF "property" = some (.ref uF :: r_uF)) (l_uF : K.lookup uF = some ⟨oc_uF, od_uF, .func (PySem.W.fnOf "first" "Book.first" (defArgs sFst) (defBody sFst) (defScope sFst) .none kv_uF dc_uF pm_uF an_uF cv_uF ct_uF), sl_uF⟩) (d_uF : PySem.W.codeIn K cv_uF "Book.first" = true)
    {uR vR : Addr} {r_uR : List Value} {oc_uR kv_uR dc_uR pm_uR cv_uR ct_uR : Value} {od_uR an_uR : Option Addr} {sl_uR : Array (Option Value)} (i_uR : PySem.W.findIn K (.ref cBook) "rest" = some (some (.ref vR))) (p_uR : PySem.W.recIn K vR "property" = some (.ref uR :: r_uR)) (l_uR : K.lookup uR = some ⟨oc_uR, od_uR, .func (PySem.W.fnOf "rest" "Book.rest" (defArgs sRst) (defBody sRst) (defScope sRst) .none kv_uR dc_uR pm_uR an_uR cv_uR ct_uR), sl_uR⟩) (d_uR : PySem.W.codeIn K cv_uR "Book.rest" = true)
    {uM vM : Addr} {r_uM : List Value} {oc_uM kv_uM dc_uM pm_uM cv_uM ct_uM : Value} {od_uM an_uM : Option Addr} {sl_uM : Array (Option Value)} (i_uM : PySem.W.findIn K (.ref cBook) "modes" = some (some (.ref vM))) (p_uM : PySem.W.recIn K vM "property" = some (.ref uM :: r_uM)) (l_uM : K.lookup uM = some ⟨oc_uM, od_uM, .func (PySem.W.fnOf "modes" "Book.modes" (defArgs sMds) (defBody sMds) (defScope sMds) .none kv_uM dc_uM pm_uM an_uM cv_uM ct_uM), sl_uM⟩) (d_uM : PySem.W.codeIn K cv_uM "Book.modes" = true)
    {uB vB : Addr} {r_uB : List Value} {oc_uB kv_uB dc_uB pm_uB cv_uB ct_uB : Value} {od_uB an_uB : Option Addr} {sl_uB : Array (Option Value)} (i_uB : PySem.W.findIn K (.ref cBook) "bound" = some (some (.ref vB))) (p_uB : PySem.W.recIn K vB "property" = some (.ref uB :: r_uB)) (l_uB : K.lookup uB = some ⟨oc_uB, od_uB, .func (PySem.W.fnOf "bound" "Book.bound" (defArgs sBnd) (defBody sBnd) (defScope sBnd) .none kv_uB dc_uB pm_uB an_uB cv_uB ct_uB), sl_uB⟩) (d_uB : PySem.W.codeIn K cv_uB "Book.bound" = true)
    {uS vS : Addr} {r_uS : List Value} {oc_uS kv_uS dc_uS pm_uS cv_uS ct_uS : Value} {od_uS an_uS : Option Addr} {sl_uS : Array (Option Value)} (i_uS : PySem.W.findIn K (.ref cBook) "strokes" = some (some (.ref vS))) (p_uS : PySem.W.recIn K vS "property" = some (.ref uS :: r_uS)) (l_uS : K.lookup uS = some ⟨oc_uS, od_uS, .func (PySem.W.fnOf "strokes" "Book.strokes" (defArgs sStr) (defBody sStr) (defScope sStr) .none kv_uS dc_uS pm_uS an_uS cv_uS ct_uS), sl_uS⟩) (d_uS : PySem.W.codeIn K cv_uS "Book.strokes" = true)
    {gO pO : Addr} {r_gO : List Value} {oc_gO kv_gO dc_gO pm_gO cv_gO ct_gO : Value} {od_gO an_gO : Option Addr} {sl_gO : Array (Option Value)} (i_gO : PySem.W.findCls K (.ref cTimes) (.type "type") "of" = some (.get (.builtin "classmethod.__get__") (.ref pO) .none (.ref cTimes))) (p_gO : PySem.W.recIn K pO "classmethod" = some (.ref gO :: r_gO)) (l_gO : K.lookup gO = some ⟨oc_gO, od_gO, .func (PySem.W.fnOf "of" "Times.of" (defArgs sTimesO) (defBody sTimesO) (defScope sTimesO) .none kv_gO dc_gO pm_gO an_gO cv_gO ct_gO), sl_gO⟩) (d_gO : PySem.W.codeIn K cv_gO "Times.of" = true)
    {gB pB : Addr} {r_gB : List Value} {oc_gB kv_gB dc_gB pm_gB cv_gB ct_gB : Value} {od_gB an_gB : Option Addr} {sl_gB : Array (Option Value)} (i_gB : PySem.W.findCls K (.ref cBody) (.type "type") "of" = some (.get (.builtin "classmethod.__get__") (.ref pB) .none (.ref cBody))) (p_gB : PySem.W.recIn K pB "classmethod" = some (.ref gB :: r_gB)) (l_gB : K.lookup gB = some ⟨oc_gB, od_gB, .func (PySem.W.fnOf "of" "Body.of" (defArgs sBodyO) (defBody sBodyO) (defScope sBodyO) .none kv_gB dc_gB pm_gB an_gB cv_gB ct_gB), sl_gB⟩) (d_gB : PySem.W.codeIn K cv_gB "Body.of" = true)
    {fW : Addr} {oc_fW kv_fW dc_fW pm_fW cv_fW ct_fW : Value} {od_fW an_fW : Option Addr} {sl_fW : Array (Option Value)} (g_fW : PySem.W.nsIn K mainGlobals "is_word" = some (some (.ref fW))) (l_fW : K.lookup fW = some ⟨oc_fW, od_fW, .func (PySem.W.fnOf "is_word" "is_word" (defArgs sIsWordV) (defBody sIsWordV) (defScope sIsWordV) .none kv_fW dc_fW pm_fW an_fW cv_fW ct_fW), sl_fW⟩) (d_fW : PySem.W.codeIn K cv_fW "is_word" = true) (k_fW : PySem.W.keepIn K (.ref fW) = true)
    {fN : Addr} {oc_fN kv_fN dc_fN pm_fN cv_fN ct_fN : Value} {od_fN an_fN : Option Addr} {sl_fN : Array (Option Value)} (g_fN : PySem.W.nsIn K mainGlobals "is_within" = some (some (.ref fN))) (l_fN : K.lookup fN = some ⟨oc_fN, od_fN, .func (PySem.W.fnOf "is_within" "is_within" (defArgs sWithin) (defBody sWithin) (defScope sWithin) .none kv_fN dc_fN pm_fN an_fN cv_fN ct_fN), sl_fN⟩) (d_fN : PySem.W.codeIn K cv_fN "is_within" = true) (k_fN : PySem.W.keepIn K (.ref fN) = true)
    {fH : Addr} {oc_fH kv_fH dc_fH pm_fH cv_fH ct_fH : Value} {od_fH an_fH : Option Addr} {sl_fH : Array (Option Value)} (g_fH : PySem.W.nsIn K mainGlobals "is_whole" = some (some (.ref fH))) (l_fH : K.lookup fH = some ⟨oc_fH, od_fH, .func (PySem.W.fnOf "is_whole" "is_whole" (defArgs sWhole) (defBody sWhole) (defScope sWhole) .none kv_fH dc_fH pm_fH an_fH cv_fH ct_fH), sl_fH⟩) (d_fH : PySem.W.codeIn K cv_fH "is_whole" = true) (k_fH : PySem.W.keepIn K (.ref fH) = true)
    {fO : Addr} {oc_fO kv_fO dc_fO pm_fO cv_fO ct_fO : Value} {od_fO an_fO : Option Addr} {sl_fO : Array (Option Value)} (g_fO : PySem.W.nsIn K mainGlobals "depth_of" = some (some (.ref fO))) (l_fO : K.lookup fO = some ⟨oc_fO, od_fO, .func (PySem.W.fnOf "depth_of" "depth_of" (defArgs sDepthOf) (defBody sDepthOf) (defScope sDepthOf) .none kv_fO dc_fO pm_fO an_fO cv_fO ct_fO), sl_fO⟩) (d_fO : PySem.W.codeIn K cv_fO "depth_of" = true) (k_fO : PySem.W.keepIn K (.ref fO) = true)
    {fC : Addr} {oc_fC kv_fC dc_fC pm_fC cv_fC ct_fC : Value} {od_fC an_fC : Option Addr} {sl_fC : Array (Option Value)} (g_fC : PySem.W.nsIn K mainGlobals "check_items" = some (some (.ref fC))) (l_fC : K.lookup fC = some ⟨oc_fC, od_fC, .func (PySem.W.fnOf "check_items" "check_items" (defArgs sCheck) (defBody sCheck) (defScope sCheck) .none kv_fC dc_fC pm_fC an_fC cv_fC ct_fC), sl_fC⟩) (d_fC : PySem.W.codeIn K cv_fC "check_items" = true) (k_fC : PySem.W.keepIn K (.ref fC) = true)
    {wA : Addr} {oc_wA kv_wA dc_wA pm_wA cv_wA ct_wA : Value} {od_wA an_wA : Option Addr} {sl_wA : Array (Option Value)} (g_wA : PySem.W.nsIn K mainGlobals "are_all_words" = some (some (.ref wA))) (l_wA : K.lookup wA = some ⟨oc_wA, od_wA, .func (PySem.W.fnOf "are_all_words" "are_all_words" (defArgs sAllW) (defBody sAllW) (defScope sAllW) .none kv_wA dc_wA pm_wA an_wA cv_wA ct_wA), sl_wA⟩) (d_wA : PySem.W.codeIn K cv_wA "are_all_words" = true) (k_wA : PySem.W.keepIn K (.ref wA) = true)
    {wP : Addr} {oc_wP kv_wP dc_wP pm_wP cv_wP ct_wP : Value} {od_wP an_wP : Option Addr} {sl_wP : Array (Option Value)} (g_wP : PySem.W.nsIn K mainGlobals "is_pair_of_words" = some (some (.ref wP))) (l_wP : K.lookup wP = some ⟨oc_wP, od_wP, .func (PySem.W.fnOf "is_pair_of_words" "is_pair_of_words" (defArgs sPairW) (defBody sPairW) (defScope sPairW) .none kv_wP dc_wP pm_wP an_wP cv_wP ct_wP), sl_wP⟩) (d_wP : PySem.W.codeIn K cv_wP "is_pair_of_words" = true) (k_wP : PySem.W.keepIn K (.ref wP) = true)
    {wM : Addr} {oc_wM kv_wM dc_wM pm_wM cv_wM ct_wM : Value} {od_wM an_wM : Option Addr} {sl_wM : Array (Option Value)} (g_wM : PySem.W.nsIn K mainGlobals "check_mode" = some (some (.ref wM))) (l_wM : K.lookup wM = some ⟨oc_wM, od_wM, .func (PySem.W.fnOf "check_mode" "check_mode" (defArgs sChkMode) (defBody sChkMode) (defScope sChkMode) .none kv_wM dc_wM pm_wM an_wM cv_wM ct_wM), sl_wM⟩) (d_wM : PySem.W.codeIn K cv_wM "check_mode" = true) (k_wM : PySem.W.keepIn K (.ref wM) = true)
    {wS : Addr} {oc_wS kv_wS dc_wS pm_wS cv_wS ct_wS : Value} {od_wS an_wS : Option Addr} {sl_wS : Array (Option Value)} (g_wS : PySem.W.nsIn K mainGlobals "check_modes" = some (some (.ref wS))) (l_wS : K.lookup wS = some ⟨oc_wS, od_wS, .func (PySem.W.fnOf "check_modes" "check_modes" (defArgs sChkModes) (defBody sChkModes) (defScope sChkModes) .none kv_wS dc_wS pm_wS an_wS cv_wS ct_wS), sl_wS⟩) (d_wS : PySem.W.codeIn K cv_wS "check_modes" = true) (k_wS : PySem.W.keepIn K (.ref wS) = true)
    {wB : Addr} {oc_wB kv_wB dc_wB pm_wB cv_wB ct_wB : Value} {od_wB an_wB : Option Addr} {sl_wB : Array (Option Value)} (g_wB : PySem.W.nsIn K mainGlobals "check_bodies" = some (some (.ref wB))) (l_wB : K.lookup wB = some ⟨oc_wB, od_wB, .func (PySem.W.fnOf "check_bodies" "check_bodies" (defArgs sChkBods) (defBody sChkBods) (defScope sChkBods) .none kv_wB dc_wB pm_wB an_wB cv_wB ct_wB), sl_wB⟩) (d_wB : PySem.W.codeIn K cv_wB "check_bodies" = true) (k_wB : PySem.W.keepIn K (.ref wB) = true)
    {wX : Addr} {oc_wX kv_wX dc_wX pm_wX cv_wX ct_wX : Value} {od_wX an_wX : Option Addr} {sl_wX : Array (Option Value)} (g_wX : PySem.W.nsIn K mainGlobals "excess" = some (some (.ref wX))) (l_wX : K.lookup wX = some ⟨oc_wX, od_wX, .func (PySem.W.fnOf "excess" "excess" (defArgs sExcess) (defBody sExcess) (defScope sExcess) .none kv_wX dc_wX pm_wX an_wX cv_wX ct_wX), sl_wX⟩) (d_wX : PySem.W.codeIn K cv_wX "excess" = true) (k_wX : PySem.W.keepIn K (.ref wX) = true)
    {wL : Addr} {oc_wL kv_wL dc_wL pm_wL cv_wL ct_wL : Value} {od_wL an_wL : Option Addr} {sl_wL : Array (Option Value)} (g_wL : PySem.W.nsIn K mainGlobals "check_limits" = some (some (.ref wL))) (l_wL : K.lookup wL = some ⟨oc_wL, od_wL, .func (PySem.W.fnOf "check_limits" "check_limits" (defArgs sChkLim) (defBody sChkLim) (defScope sChkLim) .none kv_wL dc_wL pm_wL an_wL cv_wL ct_wL), sl_wL⟩) (d_wL : PySem.W.codeIn K cv_wL "check_limits" = true) (k_wL : PySem.W.keepIn K (.ref wL) = true)
    {wW : Addr} {oc_wW kv_wW dc_wW pm_wW cv_wW ct_wW : Value} {od_wW an_wW : Option Addr} {sl_wW : Array (Option Value)} (g_wW : PySem.W.nsIn K mainGlobals "with_bodies" = some (some (.ref wW))) (l_wW : K.lookup wW = some ⟨oc_wW, od_wW, .func (PySem.W.fnOf "with_bodies" "with_bodies" (defArgs sWith) (defBody sWith) (defScope sWith) .none kv_wW dc_wW pm_wW an_wW cv_wW ct_wW), sl_wW⟩) (d_wW : PySem.W.codeIn K cv_wW "with_bodies" = true) (k_wW : PySem.W.keepIn K (.ref wW) = true)
    {mM : Addr} {oc_mM kv_mM dc_mM pm_mM cv_mM ct_mM : Value} {od_mM an_mM : Option Addr} {sl_mM : Array (Option Value)} (g_mM : PySem.W.nsIn K mainGlobals "modes_of" = some (some (.ref mM))) (l_mM : K.lookup mM = some ⟨oc_mM, od_mM, .func (PySem.W.fnOf "modes_of" "modes_of" (defArgs sModes) (defBody sModes) (defScope sModes) .none kv_mM dc_mM pm_mM an_mM cv_mM ct_mM), sl_mM⟩) (d_mM : PySem.W.codeIn K cv_mM "modes_of" = true) (k_mM : PySem.W.keepIn K (.ref mM) = true)
    {mG : Addr} {oc_mG kv_mG dc_mG pm_mG cv_mG ct_mG : Value} {od_mG an_mG : Option Addr} {sl_mG : Array (Option Value)} (g_mG : PySem.W.nsIn K mainGlobals "goes_of" = some (some (.ref mG))) (l_mG : K.lookup mG = some ⟨oc_mG, od_mG, .func (PySem.W.fnOf "goes_of" "goes_of" (defArgs sGoes) (defBody sGoes) (defScope sGoes) .none kv_mG dc_mG pm_mG an_mG cv_mG ct_mG), sl_mG⟩) (d_mG : PySem.W.codeIn K cv_mG "goes_of" = true) (k_mG : PySem.W.keepIn K (.ref mG) = true)
    {mA : Addr} {oc_mA kv_mA dc_mA pm_mA cv_mA ct_mA : Value} {od_mA an_mA : Option Addr} {sl_mA : Array (Option Value)} (g_mA : PySem.W.nsIn K mainGlobals "ascending" = some (some (.ref mA))) (l_mA : K.lookup mA = some ⟨oc_mA, od_mA, .func (PySem.W.fnOf "ascending" "ascending" (defArgs sAsc) (defBody sAsc) (defScope sAsc) .none kv_mA dc_mA pm_mA an_mA cv_mA ct_mA), sl_mA⟩) (d_mA : PySem.W.codeIn K cv_mA "ascending" = true) (k_mA : PySem.W.keepIn K (.ref mA) = true)
    {mK : Addr} {oc_mK kv_mK dc_mK pm_mK cv_mK ct_mK : Value} {od_mK an_mK : Option Addr} {sl_mK : Array (Option Value)} (g_mK : PySem.W.nsIn K mainGlobals "keys_of" = some (some (.ref mK))) (l_mK : K.lookup mK = some ⟨oc_mK, od_mK, .func (PySem.W.fnOf "keys_of" "keys_of" (defArgs sKeysOf) (defBody sKeysOf) (defScope sKeysOf) .none kv_mK dc_mK pm_mK an_mK cv_mK ct_mK), sl_mK⟩) (d_mK : PySem.W.codeIn K cv_mK "keys_of" = true) (k_mK : PySem.W.keepIn K (.ref mK) = true)
    {wT : Addr} {oc_wT kv_wT dc_wT pm_wT cv_wT ct_wT : Value} {od_wT an_wT : Option Addr} {sl_wT : Array (Option Value)} (g_wT : PySem.W.nsIn K mainGlobals "told_by" = some (some (.ref wT))) (l_wT : K.lookup wT = some ⟨oc_wT, od_wT, .func (PySem.W.fnOf "told_by" "told_by" (defArgs sToldBy) (defBody sToldBy) (defScope sToldBy) .none kv_wT dc_wT pm_wT an_wT cv_wT ct_wT), sl_wT⟩) (d_wT : PySem.W.codeIn K cv_wT "told_by" = true) (k_wT : PySem.W.keepIn K (.ref wT) = true)
    {ya : Addr} {oc_ya kv_ya dc_ya pm_ya cv_ya ct_ya : Value} {od_ya an_ya : Option Addr} {sl_ya : Array (Option Value)} (g_ya : PySem.W.nsIn K mainGlobals "_law_pen" = some (some (.ref ya))) (l_ya : K.lookup ya = some ⟨oc_ya, od_ya, .func (PySem.W.fnOf "_law_pen" "_law_pen" (defArgs sPen) (defBody sPen) (defScope sPen) .none kv_ya dc_ya pm_ya an_ya cv_ya ct_ya), sl_ya⟩) (d_ya : PySem.W.codeIn K cv_ya "_law_pen" = true) (k_ya : PySem.W.keepIn K (.ref ya) = true)
    {yb : Addr} {oc_yb kv_yb dc_yb pm_yb cv_yb ct_yb : Value} {od_yb an_yb : Option Addr} {sl_yb : Array (Option Value)} (g_yb : PySem.W.nsIn K mainGlobals "_law_draw" = some (some (.ref yb))) (l_yb : K.lookup yb = some ⟨oc_yb, od_yb, .func (PySem.W.fnOf "_law_draw" "_law_draw" (defArgs sDraw) (defBody sDraw) (defScope sDraw) .none kv_yb dc_yb pm_yb an_yb cv_yb ct_yb), sl_yb⟩) (d_yb : PySem.W.codeIn K cv_yb "_law_draw" = true) (k_yb : PySem.W.keepIn K (.ref yb) = true)
    {yc : Addr} {oc_yc kv_yc dc_yc pm_yc cv_yc ct_yc : Value} {od_yc an_yc : Option Addr} {sl_yc : Array (Option Value)} (g_yc : PySem.W.nsIn K mainGlobals "_law_pick" = some (some (.ref yc))) (l_yc : K.lookup yc = some ⟨oc_yc, od_yc, .func (PySem.W.fnOf "_law_pick" "_law_pick" (defArgs sPick) (defBody sPick) (defScope sPick) .none kv_yc dc_yc pm_yc an_yc cv_yc ct_yc), sl_yc⟩) (d_yc : PySem.W.codeIn K cv_yc "_law_pick" = true) (k_yc : PySem.W.keepIn K (.ref yc) = true)
    {yd : Addr} {oc_yd kv_yd dc_yd pm_yd cv_yd ct_yd : Value} {od_yd an_yd : Option Addr} {sl_yd : Array (Option Value)} (g_yd : PySem.W.nsIn K mainGlobals "_law_shuffled" = some (some (.ref yd))) (l_yd : K.lookup yd = some ⟨oc_yd, od_yd, .func (PySem.W.fnOf "_law_shuffled" "_law_shuffled" (defArgs sShuffled) (defBody sShuffled) (defScope sShuffled) .none kv_yd dc_yd pm_yd an_yd cv_yd ct_yd), sl_yd⟩) (d_yd : PySem.W.codeIn K cv_yd "_law_shuffled" = true) (k_yd : PySem.W.keepIn K (.ref yd) = true)
    {ye : Addr} {oc_ye kv_ye dc_ye pm_ye cv_ye ct_ye : Value} {od_ye an_ye : Option Addr} {sl_ye : Array (Option Value)} (g_ye : PySem.W.nsIn K mainGlobals "_law_words" = some (some (.ref ye))) (l_ye : K.lookup ye = some ⟨oc_ye, od_ye, .func (PySem.W.fnOf "_law_words" "_law_words" (defArgs sWords) (defBody sWords) (defScope sWords) .none kv_ye dc_ye pm_ye an_ye cv_ye ct_ye), sl_ye⟩) (d_ye : PySem.W.codeIn K cv_ye "_law_words" = true) (k_ye : PySem.W.keepIn K (.ref ye) = true)
    {yf : Addr} {oc_yf kv_yf dc_yf pm_yf cv_yf ct_yf : Value} {od_yf an_yf : Option Addr} {sl_yf : Array (Option Value)} (g_yf : PySem.W.nsIn K mainGlobals "_law_any_value" = some (some (.ref yf))) (l_yf : K.lookup yf = some ⟨oc_yf, od_yf, .func (PySem.W.fnOf "_law_any_value" "_law_any_value" (defArgs sAny) (defBody sAny) (defScope sAny) .none kv_yf dc_yf pm_yf an_yf cv_yf ct_yf), sl_yf⟩) (d_yf : PySem.W.codeIn K cv_yf "_law_any_value" = true) (k_yf : PySem.W.keepIn K (.ref yf) = true)
    {yg : Addr} {oc_yg kv_yg dc_yg pm_yg cv_yg ct_yg : Value} {od_yg an_yg : Option Addr} {sl_yg : Array (Option Value)} (g_yg : PySem.W.nsIn K mainGlobals "_law_item" = some (some (.ref yg))) (l_yg : K.lookup yg = some ⟨oc_yg, od_yg, .func (PySem.W.fnOf "_law_item" "_law_item" (defArgs sItem) (defBody sItem) (defScope sItem) .none kv_yg dc_yg pm_yg an_yg cv_yg ct_yg), sl_yg⟩) (d_yg : PySem.W.codeIn K cv_yg "_law_item" = true) (k_yg : PySem.W.keepIn K (.ref yg) = true)
    {yh : Addr} {oc_yh kv_yh dc_yh pm_yh cv_yh ct_yh : Value} {od_yh an_yh : Option Addr} {sl_yh : Array (Option Value)} (g_yh : PySem.W.nsIn K mainGlobals "_law_items" = some (some (.ref yh))) (l_yh : K.lookup yh = some ⟨oc_yh, od_yh, .func (PySem.W.fnOf "_law_items" "_law_items" (defArgs sItems) (defBody sItems) (defScope sItems) .none kv_yh dc_yh pm_yh an_yh cv_yh ct_yh), sl_yh⟩) (d_yh : PySem.W.codeIn K cv_yh "_law_items" = true) (k_yh : PySem.W.keepIn K (.ref yh) = true)
    {yi : Addr} {oc_yi kv_yi dc_yi pm_yi cv_yi ct_yi : Value} {od_yi an_yi : Option Addr} {sl_yi : Array (Option Value)} (g_yi : PySem.W.nsIn K mainGlobals "_law_names" = some (some (.ref yi))) (l_yi : K.lookup yi = some ⟨oc_yi, od_yi, .func (PySem.W.fnOf "_law_names" "_law_names" (defArgs sNames) (defBody sNames) (defScope sNames) .none kv_yi dc_yi pm_yi an_yi cv_yi ct_yi), sl_yi⟩) (d_yi : PySem.W.codeIn K cv_yi "_law_names" = true) (k_yi : PySem.W.keepIn K (.ref yi) = true)
    {yj : Addr} {oc_yj kv_yj dc_yj pm_yj cv_yj ct_yj : Value} {od_yj an_yj : Option Addr} {sl_yj : Array (Option Value)} (g_yj : PySem.W.nsIn K mainGlobals "_law_made" = some (some (.ref yj))) (l_yj : K.lookup yj = some ⟨oc_yj, od_yj, .func (PySem.W.fnOf "_law_made" "_law_made" (defArgs sMade) (defBody sMade) (defScope sMade) .none kv_yj dc_yj pm_yj an_yj cv_yj ct_yj), sl_yj⟩) (d_yj : PySem.W.codeIn K cv_yj "_law_made" = true) (k_yj : PySem.W.keepIn K (.ref yj) = true)
    {yk : Addr} {oc_yk kv_yk dc_yk pm_yk cv_yk ct_yk : Value} {od_yk an_yk : Option Addr} {sl_yk : Array (Option Value)} (g_yk : PySem.W.nsIn K mainGlobals "_law_plain" = some (some (.ref yk))) (l_yk : K.lookup yk = some ⟨oc_yk, od_yk, .func (PySem.W.fnOf "_law_plain" "_law_plain" (defArgs sPlain) (defBody sPlain) (defScope sPlain) .none kv_yk dc_yk pm_yk an_yk cv_yk ct_yk), sl_yk⟩) (d_yk : PySem.W.codeIn K cv_yk "_law_plain" = true) (k_yk : PySem.W.keepIn K (.ref yk) = true)
    {yl : Addr} {oc_yl kv_yl dc_yl pm_yl cv_yl ct_yl : Value} {od_yl an_yl : Option Addr} {sl_yl : Array (Option Value)} (g_yl : PySem.W.nsIn K mainGlobals "_law_book" = some (some (.ref yl))) (l_yl : K.lookup yl = some ⟨oc_yl, od_yl, .func (PySem.W.fnOf "_law_book" "_law_book" (defArgs sLBook) (defBody sLBook) (defScope sLBook) .none kv_yl dc_yl pm_yl an_yl cv_yl ct_yl), sl_yl⟩) (d_yl : PySem.W.codeIn K cv_yl "_law_book" = true) (k_yl : PySem.W.keepIn K (.ref yl) = true)
    {ym : Addr} {oc_ym kv_ym dc_ym pm_ym cv_ym ct_ym : Value} {od_ym an_ym : Option Addr} {sl_ym : Array (Option Value)} (g_ym : PySem.W.nsIn K mainGlobals "_law_made_body" = some (some (.ref ym))) (l_ym : K.lookup ym = some ⟨oc_ym, od_ym, .func (PySem.W.fnOf "_law_made_body" "_law_made_body" (defArgs sMadeB) (defBody sMadeB) (defScope sMadeB) .none kv_ym dc_ym pm_ym an_ym cv_ym ct_ym), sl_ym⟩) (d_ym : PySem.W.codeIn K cv_ym "_law_made_body" = true) (k_ym : PySem.W.keepIn K (.ref ym) = true)
    {yn : Addr} {oc_yn kv_yn dc_yn pm_yn cv_yn ct_yn : Value} {od_yn an_yn : Option Addr} {sl_yn : Array (Option Value)} (g_yn : PySem.W.nsIn K mainGlobals "_law_made_book" = some (some (.ref yn))) (l_yn : K.lookup yn = some ⟨oc_yn, od_yn, .func (PySem.W.fnOf "_law_made_book" "_law_made_book" (defArgs sMadeBk) (defBody sMadeBk) (defScope sMadeBk) .none kv_yn dc_yn pm_yn an_yn cv_yn ct_yn), sl_yn⟩) (d_yn : PySem.W.codeIn K cv_yn "_law_made_book" = true) (k_yn : PySem.W.keepIn K (.ref yn) = true)
    {yo : Addr} {oc_yo kv_yo dc_yo pm_yo cv_yo ct_yo : Value} {od_yo an_yo : Option Addr} {sl_yo : Array (Option Value)} (g_yo : PySem.W.nsIn K mainGlobals "_law_gone" = some (some (.ref yo))) (l_yo : K.lookup yo = some ⟨oc_yo, od_yo, .func (PySem.W.fnOf "_law_gone" "_law_gone" (defArgs sGone) (defBody sGone) (defScope sGone) .none kv_yo dc_yo pm_yo an_yo cv_yo ct_yo), sl_yo⟩) (d_yo : PySem.W.codeIn K cv_yo "_law_gone" = true) (k_yo : PySem.W.keepIn K (.ref yo) = true)
    {yp : Addr} {oc_yp kv_yp dc_yp pm_yp cv_yp ct_yp : Value} {od_yp an_yp : Option Addr} {sl_yp : Array (Option Value)} (g_yp : PySem.W.nsIn K mainGlobals "_law_modes" = some (some (.ref yp))) (l_yp : K.lookup yp = some ⟨oc_yp, od_yp, .func (PySem.W.fnOf "_law_modes" "_law_modes" (defArgs sLModes) (defBody sLModes) (defScope sLModes) .none kv_yp dc_yp pm_yp an_yp cv_yp ct_yp), sl_yp⟩) (d_yp : PySem.W.codeIn K cv_yp "_law_modes" = true) (k_yp : PySem.W.keepIn K (.ref yp) = true)
    {yq : Addr} {oc_yq kv_yq dc_yq pm_yq cv_yq ct_yq : Value} {od_yq an_yq : Option Addr} {sl_yq : Array (Option Value)} (g_yq : PySem.W.nsIn K mainGlobals "_law_shown" = some (some (.ref yq))) (l_yq : K.lookup yq = some ⟨oc_yq, od_yq, .func (PySem.W.fnOf "_law_shown" "_law_shown" (defArgs sShown) (defBody sShown) (defScope sShown) .none kv_yq dc_yq pm_yq an_yq cv_yq ct_yq), sl_yq⟩) (d_yq : PySem.W.codeIn K cv_yq "_law_shown" = true) (k_yq : PySem.W.keepIn K (.ref yq) = true)
    {yr : Addr} {oc_yr kv_yr dc_yr pm_yr cv_yr ct_yr : Value} {od_yr an_yr : Option Addr} {sl_yr : Array (Option Value)} (g_yr : PySem.W.nsIn K mainGlobals "_law_due" = some (some (.ref yr))) (l_yr : K.lookup yr = some ⟨oc_yr, od_yr, .func (PySem.W.fnOf "_law_due" "_law_due" (defArgs sDue) (defBody sDue) (defScope sDue) .none kv_yr dc_yr pm_yr an_yr cv_yr ct_yr), sl_yr⟩) (d_yr : PySem.W.codeIn K cv_yr "_law_due" = true) (k_yr : PySem.W.keepIn K (.ref yr) = true)
    {ys : Addr} {oc_ys kv_ys dc_ys pm_ys cv_ys ct_ys : Value} {od_ys an_ys : Option Addr} {sl_ys : Array (Option Value)} (g_ys : PySem.W.nsIn K mainGlobals "_law_at" = some (some (.ref ys))) (l_ys : K.lookup ys = some ⟨oc_ys, od_ys, .func (PySem.W.fnOf "_law_at" "_law_at" (defArgs sAtB) (defBody sAtB) (defScope sAtB) .none kv_ys dc_ys pm_ys an_ys cv_ys ct_ys), sl_ys⟩) (d_ys : PySem.W.codeIn K cv_ys "_law_at" = true) (k_ys : PySem.W.keepIn K (.ref ys) = true)
    {aLaw : Addr} {oc_aLaw kv_aLaw dc_aLaw pm_aLaw cv_aLaw ct_aLaw : Value} {od_aLaw an_aLaw : Option Addr} {sl_aLaw : Array (Option Value)} (g_aLaw : PySem.W.nsIn K mainGlobals "law" = some (some (.ref aLaw))) (l_aLaw : K.lookup aLaw = some ⟨oc_aLaw, od_aLaw, .func (PySem.W.fnOf "law" "law" (defArgs sLaw) (defBody sLaw) (defScope sLaw) .none kv_aLaw dc_aLaw pm_aLaw an_aLaw cv_aLaw ct_aLaw), sl_aLaw⟩) (d_aLaw : PySem.W.codeIn K cv_aLaw "law" = true) (k_aLaw : PySem.W.keepIn K (.ref aLaw) = true)
    {z0 : Int} {tk0 : Tok} (q0 : PySem.W.nsIn K mainGlobals "DEPTH" = some (some (.int z0 tk0)))
    {z1 : Int} {tk1 : Tok} (q1 : PySem.W.nsIn K mainGlobals "ITEMS" = some (some (.int z1 tk1)))
    {z2 : Int} {tk2 : Tok} (q2 : PySem.W.nsIn K mainGlobals "NUMBER_limits" = some (some (.int z2 tk2)))
    {z3 : Int} {tk3 : Tok} (q3 : PySem.W.nsIn K mainGlobals "MODES" = some (some (.int z3 tk3)))
    {z4 : Int} {tk4 : Tok} (q4 : PySem.W.nsIn K mainGlobals "KEYS" = some (some (.int z4 tk4)))
    (vv : [z0, z1, z2, z3, z4] = [2, 6, 1000000000, 6, 6])
    (ck : allB K [x0, x1, x2, x3] ⟨cSay, cPress, cGo, cTimes, cBody⟩ x4 cBook iS iP iG iT iB tS tP tG tT tB qS qP qG qT qB kG kC kL kE kP kS fD fEn uF uR uM uB uS gO gB kI pD pEn vF vR vM vB vS = true) :
    ∃ fd : FuncData, (∀ (s : Shared) (v : Value), BindsTo s fd ⟨[v], []⟩ [("_law_script", v)]) ∧ ∀ base : Heap, K.In base → base.Ns mainGlobals mg → FnG P w K mg base CX0 20 fa fd ["_law_script"] (spLaw K) := by
  unfold allB at ck
  rw [Bool.and_eq_true, Bool.and_eq_true, Bool.and_eq_true, Bool.and_eq_true, Bool.and_eq_true, Bool.and_eq_true, Bool.and_eq_true, Bool.and_eq_true, Bool.and_eq_true, Bool.and_eq_true, Bool.and_eq_true, Bool.and_eq_true, Bool.and_eq_true, Bool.and_eq_true, Bool.and_eq_true, Bool.and_eq_true, Bool.and_eq_true, Bool.and_eq_true, Bool.and_eq_true, Bool.and_eq_true, Bool.and_eq_true, Bool.and_eq_true, Bool.and_eq_true, Bool.and_eq_true, Bool.and_eq_true, Bool.and_eq_true, Bool.and_eq_true, Bool.and_eq_true, Bool.and_eq_true, Bool.and_eq_true, Bool.and_eq_true, Bool.and_eq_true, Bool.and_eq_true, Bool.and_eq_true, Bool.and_eq_true, Bool.and_eq_true, Bool.and_eq_true, Bool.and_eq_true] at ck
  obtain ⟨h0, h1, h2, h3, h4, h5, h6, h7, h8, h9, h10, h11, h12, h13, h14, h15, h16, h17, h18, h19, h20, h21, h22, h23, h24, h25, h26, h27, h28, h29, h30, h31, h32, h33, h34, h35, h36, h37, h38⟩ := ck
  rw [List.all_eq_true] at h37 h38
  have no : ∀ x, x ∈ ["list", "int", "len", "range", "repr", "isinstance", "str", "bool", "max", "enumerate", "min", "all", "tuple", "dict", "set", "sorted", "LookupError"] → mg (Str.ofString x) = none := fun x m => noN_ok X G (h37 x m)
  simp only [List.cons.injEq, and_true] at vv
  obtain ⟨rfl, rfl, rfl, rfl, rfl⟩ := vv
  unfold xcB at h0
  rw [Bool.and_eq_true] at h0
  have k1a : ∀ i, i < 4 → Exk K (([x0, x1, x2, x3] : List Addr).getD i 0) (bM i) (bN i) ∧ noB K (([x0, x1, x2, x3] : List Addr).getD i 0) (errF i) = true ∧ PySem.W.typeIn K (.ref (([x0, x1, x2, x3] : List Addr).getD i 0)) = some (.type "type") ∧ PySem.W.kitOne K (.ref (([x0, x1, x2, x3] : List Addr).getD i 0)) (.type (tbase i)) = some true := fun i hi => by
    have a := all_lt h0.1 hi
    simp only [Bool.and_eq_true, decide_eq_true_eq] at a
    exact ⟨exB_ok a.1.1.1, a.1.1.2, a.1.2, a.2⟩
  have k1b : ∀ i j, i < 4 → j < 4 → PySem.W.exmOne K (.ref (([x0, x1, x2, x3] : List Addr).getD i 0)) (.ref (([x0, x1, x2, x3] : List Addr).getD j 0)) = some (decide (i = j)) := fun i j hi hj => of_decide_eq_true (all_lt (all_lt h0.2 hi) hj)
  have gx : ∀ j, j < 4 → mg (PySem.Str.ofString (tclass j)) = some (.ref (([x0, x1, x2, x3] : List Addr).getD j 0)) := fun j hj => by
    match j, hj with
    | 0, _ => exact PySem.W.mg_of X G a0
    | 1, _ => exact PySem.W.mg_of X G a1
    | 2, _ => exact PySem.W.mg_of X G a2
    | 3, _ => exact PySem.W.mg_of X G a3
  have R : ErrT K mg (fun j => ([x0, x1, x2, x3] : List Addr).getD j 0) tclass := ⟨gx, fun j hj => by
    match j, hj with
    | 0, _ => exact one_of (k1a 0 (by decide)).1 (field_of 0) (k1a 0 (by decide)).2.1 sh0 (Ini.mk1 i_e0 t_e0 l_e0 d_e0)
    | 1, _ => exact one_of (k1a 1 (by decide)).1 (field_of 1) (k1a 1 (by decide)).2.1 sh1 (Ini.mk1 i_e1 t_e1 l_e1 d_e1)
    | 2, _ => exact one_of (k1a 2 (by decide)).1 (field_of 2) (k1a 2 (by decide)).2.1 sh2 (Ini.mk1 i_e2 t_e2 l_e2 d_e2)
    | 3, _ => exact one_of (k1a 3 (by decide)).1 (field_of 3) (k1a 3 (by decide)).2.1 sh3 (Ini.mk1 i_e3 t_e3 l_e3 d_e3), fun j hj => (k1a j hj).2.2.1⟩
  have B : BodT K mg ⟨cSay, cPress, cGo, cTimes, cBody⟩ := itB_ok h1 (PySem.W.mg_of X G bSay) (PySem.W.mg_of X G bPress) (PySem.W.mg_of X G bGo) (PySem.W.mg_of X G bTimes) (PySem.W.mg_of X G bBody) ⟨_, PySem.W.mg_of X G q0⟩ ⟨_, PySem.W.mg_of X G q1⟩ ⟨_, PySem.W.mg_of X G q2⟩
  have FiS := fun_mk (st := sSayI) l_iS d_iS (h38 iS (by simp))
  have FiP := fun_mk (st := sPressI) l_iP d_iP (h38 iP (by simp))
  have FiG := fun_mk (st := sGoI) l_iG d_iG (h38 iG (by simp))
  have FiT := fun_mk (st := sTimesI) l_iT d_iT (h38 iT (by simp))
  have FiB := fun_mk (st := sBodyI) l_iB d_iB (h38 iB (by simp))
  have FtS := fun_mk (st := sSayT) l_tS d_tS (h38 tS (by simp))
  have FtP := fun_mk (st := sPressT) l_tP d_tP (h38 tP (by simp))
  have FtG := fun_mk (st := sGoT) l_tG d_tG (h38 tG (by simp))
  have FtT := fun_mk (st := sTimesT) l_tT d_tT (h38 tT (by simp))
  have FtB := fun_mk (st := sBodyT) l_tB d_tB (h38 tB (by simp))
  have FqS := fun_mk (st := sSayE) l_qS d_qS (h38 qS (by simp))
  have FqP := fun_mk (st := sPressE) l_qP d_qP (h38 qP (by simp))
  have FqG := fun_mk (st := sGoE) l_qG d_qG (h38 qG (by simp))
  have FqT := fun_mk (st := sTimesE) l_qT d_qT (h38 qT (by simp))
  have FqB := fun_mk (st := sBodyE) l_qB d_qB (h38 qB (by simp))
  have FkG := fun_mk (st := sGetB) l_kG d_kG (h38 kG (by simp))
  have FkC := fun_mk (st := sCon) l_kC d_kC (h38 kC (by simp))
  have FkL := fun_mk (st := sLenB) l_kL d_kL (h38 kL (by simp))
  have FkE := fun_mk (st := sBookE) l_kE d_kE (h38 kE (by simp))
  have FkP := fun_mk (st := sCopied) l_kP d_kP (h38 kP (by simp))
  have FkS := fun_mk (st := sSetRest) l_kS d_kS (h38 kS (by simp))
  have FfD := fun_mk (st := sBodyD) l_fD d_fD (h38 fD (by simp))
  have FfEn := fun_mk (st := sBodyEn) l_fEn d_fEn (h38 fEn (by simp))
  have FuF := fun_mk (st := sFst) l_uF d_uF (h38 uF (by simp))
  have FuR := fun_mk (st := sRst) l_uR d_uR (h38 uR (by simp))
  have FuM := fun_mk (st := sMds) l_uM d_uM (h38 uM (by simp))
  have FuB := fun_mk (st := sBnd) l_uB d_uB (h38 uB (by simp))
  have FuS := fun_mk (st := sStr) l_uS d_uS (h38 uS (by simp))
  have FgO := fun_mk (st := sTimesO) l_gO d_gO (h38 gO (by simp))
  have FgB := fun_mk (st := sBodyO) l_gB d_gB (h38 gB (by simp))
  have FkI := bookI_mk l_kI d_kI (h38 kI (by simp)) l_T
  obtain ⟨ds1, v1, w1⟩ := bookI_b1 FkI
  obtain ⟨ds2, v2, w2⟩ := bookI_b2 FkI
  have FfW := fun_mk (st := sIsWordV) l_fW d_fW k_fW
  have GfW : Fn K mg "is_word" fW := ⟨PySem.W.mg_of X G g_fW, k_fW⟩
  have FfN := fun_mk (st := sWithin) l_fN d_fN k_fN
  have GfN : Fn K mg "is_within" fN := ⟨PySem.W.mg_of X G g_fN, k_fN⟩
  have FfH := fun_mk (st := sWhole) l_fH d_fH k_fH
  have GfH : Fn K mg "is_whole" fH := ⟨PySem.W.mg_of X G g_fH, k_fH⟩
  have FfO := fun_mk (st := sDepthOf) l_fO d_fO k_fO
  have GfO : Fn K mg "depth_of" fO := ⟨PySem.W.mg_of X G g_fO, k_fO⟩
  have FfC := fun_mk (st := sCheck) l_fC d_fC k_fC
  have GfC : Fn K mg "check_items" fC := ⟨PySem.W.mg_of X G g_fC, k_fC⟩
  have FwA := fun_mk (st := sAllW) l_wA d_wA k_wA
  have GwA : Fn K mg "are_all_words" wA := ⟨PySem.W.mg_of X G g_wA, k_wA⟩
  have FwP := fun_mk (st := sPairW) l_wP d_wP k_wP
  have GwP : Fn K mg "is_pair_of_words" wP := ⟨PySem.W.mg_of X G g_wP, k_wP⟩
  have FwM := fun_mk (st := sChkMode) l_wM d_wM k_wM
  have GwM : Fn K mg "check_mode" wM := ⟨PySem.W.mg_of X G g_wM, k_wM⟩
  have FwS := fun_mk (st := sChkModes) l_wS d_wS k_wS
  have GwS : Fn K mg "check_modes" wS := ⟨PySem.W.mg_of X G g_wS, k_wS⟩
  have FwB := fun_mk (st := sChkBods) l_wB d_wB k_wB
  have GwB : Fn K mg "check_bodies" wB := ⟨PySem.W.mg_of X G g_wB, k_wB⟩
  have FwX := fun_mk (st := sExcess) l_wX d_wX k_wX
  have GwX : Fn K mg "excess" wX := ⟨PySem.W.mg_of X G g_wX, k_wX⟩
  have FwL := fun_mk (st := sChkLim) l_wL d_wL k_wL
  have GwL : Fn K mg "check_limits" wL := ⟨PySem.W.mg_of X G g_wL, k_wL⟩
  have FwW := fun_mk (st := sWith) l_wW d_wW k_wW
  have GwW : Fn K mg "with_bodies" wW := ⟨PySem.W.mg_of X G g_wW, k_wW⟩
  have FmM := fun_mk (st := sModes) l_mM d_mM k_mM
  have GmM : Fn K mg "modes_of" mM := ⟨PySem.W.mg_of X G g_mM, k_mM⟩
  have FmG := fun_mk (st := sGoes) l_mG d_mG k_mG
  have GmG : Fn K mg "goes_of" mG := ⟨PySem.W.mg_of X G g_mG, k_mG⟩
  have FmA := fun_mk (st := sAsc) l_mA d_mA k_mA
  have GmA : Fn K mg "ascending" mA := ⟨PySem.W.mg_of X G g_mA, k_mA⟩
  have FmK := fun_mk (st := sKeysOf) l_mK d_mK k_mK
  have GmK : Fn K mg "keys_of" mK := ⟨PySem.W.mg_of X G g_mK, k_mK⟩
  have FwT := fun_mk (st := sToldBy) l_wT d_wT k_wT
  have GwT : Fn K mg "told_by" wT := ⟨PySem.W.mg_of X G g_wT, k_wT⟩
  have Fya := fun_mk (st := sPen) l_ya d_ya k_ya
  have Gya : Fn K mg "_law_pen" ya := ⟨PySem.W.mg_of X G g_ya, k_ya⟩
  have Fyb := fun_mk (st := sDraw) l_yb d_yb k_yb
  have Gyb : Fn K mg "_law_draw" yb := ⟨PySem.W.mg_of X G g_yb, k_yb⟩
  have Fyc := fun_mk (st := sPick) l_yc d_yc k_yc
  have Gyc : Fn K mg "_law_pick" yc := ⟨PySem.W.mg_of X G g_yc, k_yc⟩
  have Fyd := fun_mk (st := sShuffled) l_yd d_yd k_yd
  have Gyd : Fn K mg "_law_shuffled" yd := ⟨PySem.W.mg_of X G g_yd, k_yd⟩
  have Fye := fun_mk (st := sWords) l_ye d_ye k_ye
  have Gye : Fn K mg "_law_words" ye := ⟨PySem.W.mg_of X G g_ye, k_ye⟩
  have Fyf := fun_mk (st := sAny) l_yf d_yf k_yf
  have Gyf : Fn K mg "_law_any_value" yf := ⟨PySem.W.mg_of X G g_yf, k_yf⟩
  have Fyg := fun_mk (st := sItem) l_yg d_yg k_yg
  have Gyg : Fn K mg "_law_item" yg := ⟨PySem.W.mg_of X G g_yg, k_yg⟩
  have Fyh := fun_mk (st := sItems) l_yh d_yh k_yh
  have Gyh : Fn K mg "_law_items" yh := ⟨PySem.W.mg_of X G g_yh, k_yh⟩
  have Fyi := fun_mk (st := sNames) l_yi d_yi k_yi
  have Gyi : Fn K mg "_law_names" yi := ⟨PySem.W.mg_of X G g_yi, k_yi⟩
  have Fyj := fun_mk (st := sMade) l_yj d_yj k_yj
  have Gyj : Fn K mg "_law_made" yj := ⟨PySem.W.mg_of X G g_yj, k_yj⟩
  have Fyk := fun_mk (st := sPlain) l_yk d_yk k_yk
  have Gyk : Fn K mg "_law_plain" yk := ⟨PySem.W.mg_of X G g_yk, k_yk⟩
  have Fyl := fun_mk (st := sLBook) l_yl d_yl k_yl
  have Gyl : Fn K mg "_law_book" yl := ⟨PySem.W.mg_of X G g_yl, k_yl⟩
  have Fym := fun_mk (st := sMadeB) l_ym d_ym k_ym
  have Gym : Fn K mg "_law_made_body" ym := ⟨PySem.W.mg_of X G g_ym, k_ym⟩
  have Fyn := fun_mk (st := sMadeBk) l_yn d_yn k_yn
  have Gyn : Fn K mg "_law_made_book" yn := ⟨PySem.W.mg_of X G g_yn, k_yn⟩
  have Fyo := fun_mk (st := sGone) l_yo d_yo k_yo
  have Gyo : Fn K mg "_law_gone" yo := ⟨PySem.W.mg_of X G g_yo, k_yo⟩
  have Fyp := fun_mk (st := sLModes) l_yp d_yp k_yp
  have Gyp : Fn K mg "_law_modes" yp := ⟨PySem.W.mg_of X G g_yp, k_yp⟩
  have Fyq := fun_mk (st := sShown) l_yq d_yq k_yq
  have Gyq : Fn K mg "_law_shown" yq := ⟨PySem.W.mg_of X G g_yq, k_yq⟩
  have Fyr := fun_mk (st := sDue) l_yr d_yr k_yr
  have Gyr : Fn K mg "_law_due" yr := ⟨PySem.W.mg_of X G g_yr, k_yr⟩
  have Fys := fun_mk (st := sAtB) l_ys d_ys k_ys
  have Gys : Fn K mg "_law_at" ys := ⟨PySem.W.mg_of X G g_ys, k_ys⟩
  have biS : Binds K _ ["self", "command"] [] := FiS.binds fun _ _ _ _ _ _ us hl => match us, hl with | [_, _], _ => rfl
  have biP : Binds K _ ["self", "key"] [] := FiP.binds fun _ _ _ _ _ _ us hl => match us, hl with | [_, _], _ => rfl
  have biG : Binds K _ ["self", "mode"] [] := FiG.binds fun _ _ _ _ _ _ us hl => match us, hl with | [_, _], _ => rfl
  have btS : Binds K _ ["self"] [] := FtS.binds fun _ _ _ _ _ _ us hl => match us, hl with | [_], _ => rfl
  have btP : Binds K _ ["self"] [] := FtP.binds fun _ _ _ _ _ _ us hl => match us, hl with | [_], _ => rfl
  have btG : Binds K _ ["self"] [] := FtG.binds fun _ _ _ _ _ _ us hl => match us, hl with | [_], _ => rfl
  have btT : Binds K _ ["self"] [] := FtT.binds fun _ _ _ _ _ _ us hl => match us, hl with | [_], _ => rfl
  have btB : Binds K _ ["self"] [] := FtB.binds fun _ _ _ _ _ _ us hl => match us, hl with | [_], _ => rfl
  have bfD : Binds K _ ["self"] [] := FfD.binds fun _ _ _ _ _ _ us hl => match us, hl with | [_], _ => rfl
  have bgO : Binds K _ ["cls", "number", "items"] [] := FgO.binds fun _ _ _ _ _ _ us hl => match us, hl with | [_, _, _], _ => rfl
  have bgB : Binds K _ ["cls", "items"] [] := FgB.binds fun _ _ _ _ _ _ us hl => match us, hl with | [_, _], _ => rfl
  have bfEn : Binds K _ ["self"] [] := FfEn.binds fun _ _ _ _ _ _ us hl => match us, hl with | [_], _ => rfl
  have bqS : Binds K _ ["self", "other"] [] := FqS.binds fun _ _ _ _ _ _ us hl => match us, hl with | [_, _], _ => rfl
  have bqP : Binds K _ ["self", "other"] [] := FqP.binds fun _ _ _ _ _ _ us hl => match us, hl with | [_, _], _ => rfl
  have bqG : Binds K _ ["self", "other"] [] := FqG.binds fun _ _ _ _ _ _ us hl => match us, hl with | [_, _], _ => rfl
  have bqT : Binds K _ ["self", "other"] [] := FqT.binds fun _ _ _ _ _ _ us hl => match us, hl with | [_, _], _ => rfl
  have bqB : Binds K _ ["self", "other"] [] := FqB.binds fun _ _ _ _ _ _ us hl => match us, hl with | [_, _], _ => rfl
  have bkG : Binds K _ ["self", "pair"] [] := FkG.binds fun _ _ _ _ _ _ us hl => match us, hl with | [_, _], _ => rfl
  have bkC : Binds K _ ["self", "pair"] [] := FkC.binds fun _ _ _ _ _ _ us hl => match us, hl with | [_, _], _ => rfl
  have bkL : Binds K _ ["self"] [] := FkL.binds fun _ _ _ _ _ _ us hl => match us, hl with | [_], _ => rfl
  have bkE : Binds K _ ["self", "other"] [] := FkE.binds fun _ _ _ _ _ _ us hl => match us, hl with | [_, _], _ => rfl
  have bkP : Binds K _ ["self"] [] := FkP.binds fun _ _ _ _ _ _ us hl => match us, hl with | [_], _ => rfl
  have buF : Binds K _ ["self"] [] := FuF.binds fun _ _ _ _ _ _ us hl => match us, hl with | [_], _ => rfl
  have buR : Binds K _ ["self"] [] := FuR.binds fun _ _ _ _ _ _ us hl => match us, hl with | [_], _ => rfl
  have buM : Binds K _ ["self"] [] := FuM.binds fun _ _ _ _ _ _ us hl => match us, hl with | [_], _ => rfl
  have buB : Binds K _ ["self"] [] := FuB.binds fun _ _ _ _ _ _ us hl => match us, hl with | [_], _ => rfl
  have buS : Binds K _ ["self"] [] := FuS.binds fun _ _ _ _ _ _ us hl => match us, hl with | [_], _ => rfl
  have bfW : Binds K _ ["value"] [] := FfW.binds fun _ _ _ _ _ _ us hl => match us, hl with | [_], _ => rfl
  have bfN : Binds K _ ["value", "least", "most"] [] := FfN.binds fun _ _ _ _ _ _ us hl => match us, hl with | [_, _, _], _ => rfl
  have bfH : Binds K _ ["value"] [] := FfH.binds fun _ _ _ _ _ _ us hl => match us, hl with | [_], _ => rfl
  have bfO : Binds K _ ["items"] [] := FfO.binds fun _ _ _ _ _ _ us hl => match us, hl with | [_], _ => rfl
  have bfC : Binds K _ ["items", "depth"] [] := FfC.binds fun _ _ _ _ _ _ us hl => match us, hl with | [_, _], _ => rfl
  have bwA : Binds K _ ["value"] [] := FwA.binds fun _ _ _ _ _ _ us hl => match us, hl with | [_], _ => rfl
  have bwP : Binds K _ ["value"] [] := FwP.binds fun _ _ _ _ _ _ us hl => match us, hl with | [_], _ => rfl
  have bwM : Binds K _ ["mode"] [] := FwM.binds fun _ _ _ _ _ _ us hl => match us, hl with | [_], _ => rfl
  have bwS : Binds K _ ["modes"] [] := FwS.binds fun _ _ _ _ _ _ us hl => match us, hl with | [_], _ => rfl
  have bwB : Binds K _ ["bodies"] [] := FwB.binds fun _ _ _ _ _ _ us hl => match us, hl with | [_], _ => rfl
  have bwX : Binds K _ ["first", "rest", "bodies"] [] := FwX.binds fun _ _ _ _ _ _ us hl => match us, hl with | [_, _, _], _ => rfl
  have bwL : Binds K _ ["first", "rest", "bodies"] [] := FwL.binds fun _ _ _ _ _ _ us hl => match us, hl with | [_, _, _], _ => rfl
  have bwW : Binds K _ ["bodies", "others"] [] := FwW.binds fun _ _ _ _ _ _ us hl => match us, hl with | [_, _], _ => rfl
  have bmM : Binds K _ ["first", "rest", "bodies"] [] := FmM.binds fun _ _ _ _ _ _ us hl => match us, hl with | [_, _, _], _ => rfl
  have bmG : Binds K _ ["body"] [] := FmG.binds fun _ _ _ _ _ _ us hl => match us, hl with | [_], _ => rfl
  have bmA : Binds K _ ["words"] [] := FmA.binds fun _ _ _ _ _ _ us hl => match us, hl with | [_], _ => rfl
  have bmK : Binds K _ ["bodies"] [] := FmK.binds fun _ _ _ _ _ _ us hl => match us, hl with | [_], _ => rfl
  have bwT : Binds K _ ["book"] [] := FwT.binds fun _ _ _ _ _ _ us hl => match us, hl with | [_], _ => rfl
  have bya : Binds K _ ["_law_script"] [] := Fya.binds fun _ _ _ _ _ _ us hl => match us, hl with | [_], _ => rfl
  have byb : Binds K _ ["_law_pen_here", "_law_size"] [] := Fyb.binds fun _ _ _ _ _ _ us hl => match us, hl with | [_, _], _ => rfl
  have byc : Binds K _ ["_law_pen_here", "_law_items_here"] [] := Fyc.binds fun _ _ _ _ _ _ us hl => match us, hl with | [_, _], _ => rfl
  have byd : Binds K _ ["_law_pen_here", "_law_items_here"] [] := Fyd.binds fun _ _ _ _ _ _ us hl => match us, hl with | [_, _], _ => rfl
  have bye : Binds K _ ["_law_pen_here", "_law_count"] [] := Fye.binds fun _ _ _ _ _ _ us hl => match us, hl with | [_, _], _ => rfl
  have byf : Binds K _ ["_law_pen_here"] [] := Fyf.binds fun _ _ _ _ _ _ us hl => match us, hl with | [_], _ => rfl
  have byg : Binds K _ ["_law_pen_here", "_law_names_here", "_law_deep"] [] := Fyg.binds fun _ _ _ _ _ _ us hl => match us, hl with | [_, _, _], _ => rfl
  have byh : Binds K _ ["_law_pen_here", "_law_names_here", "_law_deep", "_law_topmost"] [] := Fyh.binds fun _ _ _ _ _ _ us hl => match us, hl with | [_, _, _, _], _ => rfl
  have byi : Binds K _ ["_law_pen_here"] [] := Fyi.binds fun _ _ _ _ _ _ us hl => match us, hl with | [_], _ => rfl
  have byj : Binds K _ ["_law_one"] [] := Fyj.binds fun _ _ _ _ _ _ us hl => match us, hl with | [_], _ => rfl
  have byk : Binds K _ ["_law_item_here"] [] := Fyk.binds fun _ _ _ _ _ _ us hl => match us, hl with | [_], _ => rfl
  have byl : Binds K _ ["_law_pen_here", "_law_names_here"] [] := Fyl.binds fun _ _ _ _ _ _ us hl => match us, hl with | [_, _], _ => rfl
  have bym : Binds K _ ["_law_items_here"] [] := Fym.binds fun _ _ _ _ _ _ us hl => match us, hl with | [_], _ => rfl
  have byn : Binds K _ ["_law_one"] [] := Fyn.binds fun _ _ _ _ _ _ us hl => match us, hl with | [_], _ => rfl
  have byo : Binds K _ ["_law_items_here"] [] := Fyo.binds fun _ _ _ _ _ _ us hl => match us, hl with | [_], _ => rfl
  have byp : Binds K _ ["_law_one"] [] := Fyp.binds fun _ _ _ _ _ _ us hl => match us, hl with | [_], _ => rfl
  have byq : Binds K _ ["_law_book_here"] [] := Fyq.binds fun _ _ _ _ _ _ us hl => match us, hl with | [_], _ => rfl
  have byr : Binds K _ ["_law_one"] [] := Fyr.binds fun _ _ _ _ _ _ us hl => match us, hl with | [_], _ => rfl
  have bys : Binds K _ ["_law_book_here", "_law_value"] [] := Fys.binds fun _ _ _ _ _ _ us hl => match us, hl with | [_, _], _ => rfl
  obtain ⟨ro, mo⟩ := cmB_ok i_gO p_gO h14
  obtain ⟨roB, moB⟩ := cmB_ok i_gB p_gB h15
  have M : MetT K ⟨cSay, cPress, cGo, cTimes, cBody⟩ tS tP tG tT tB := ⟨fnB_ok i_tS h7, fnB_ok i_tP h8, fnB_ok i_tG h9, fnB_ok i_tT h10, fnB_ok i_tB h11⟩
  have TX : TexT K tS tP tG tT tB _ _ _ _ _ := ⟨FtS, FtP, FtG, FtT, FtB, btS, btP, btG, btT, btB⟩
  have Z0 : MakT K mg ⟨cSay, cPress, cGo, cTimes, cBody⟩ fD pD fO fC tS tP tG tT tB _ _ _ _ _ _ _ _ := ⟨FfD, bfD, prB_ok i_fD p_fD h12, FfO, bfO, GfO, FfC, bfC, GfC, M, TX⟩
  have Y0 : InsT K mg ⟨cSay, cPress, cGo, cTimes, cBody⟩ iS iP iG iT iB fW fN fH _ _ _ _ _ _ _ _ := ⟨FiS, FiP, FiG, FiT, FiB, biS, biP, biG, mkB_ok i_iS h2, mkB_ok i_iP h3, mkB_ok i_iG h4, mkB_ok i_iT h5, mkB_ok i_iB h6, FfW, bfW, GfW, FfN, bfN, GfN, FfH, bfH, GfH⟩
  have T3 : Blt3 mg := ⟨no "max" (by simp), no "enumerate" (by simp), no "isinstance" (by simp), no "len" (by simp)⟩
  have T1 : Blt mg := ⟨no "list" (by simp), no "int" (by simp), no "len" (by simp), no "range" (by simp), no "repr" (by simp), no "isinstance" (by simp)⟩
  have U : Blt2 mg := ⟨no "str" (by simp), no "int" (by simp), no "bool" (by simp), no "max" (by simp)⟩
  have V3 : BltW mg := ⟨no "all" (by simp), no "tuple" (by simp), no "dict" (by simp)⟩
  have TG : BltG mg := ⟨no "set" (by simp), no "sorted" (by simp), no "tuple" (by simp)⟩
  have LG : LimG mg := ⟨⟨_, PySem.W.mg_of X G q3⟩, ⟨_, PySem.W.mg_of X G q4⟩⟩
  have N : BkN K mg ⟨cSay, cPress, cGo, cTimes, cBody⟩ := ⟨T1, U, V3, TG, LG, B, apB_ok h16⟩
  have YY : BkF K mg ⟨cSay, cPress, cGo, cTimes, cBody⟩ fW wA wP wM wS wB wX wL wW _ _ _ _ _ _ _ _ _ := ⟨FfW, bfW, GfW, FwA, bwA, GwA, FwP, bwP, GwP, FwM, bwM, GwM, FwS, bwS, GwS, FwB, bwB, GwB, FwX, bwX, GwX, FwL, bwL, GwL, FwW, bwW, GwW⟩
  have ZZ : LimF K mg ⟨cSay, cPress, cGo, cTimes, cBody⟩ mM mG mA mK pEn fEn _ _ _ _ _ := ⟨FfEn, bfEn, prB_ok i_fEn p_fEn h13, FmG, bmG, GmG, FmA, bmA, GmA, FmM, bmM, GmM, FmK, bmK, GmK⟩
  unfold bookB at h23
  simp only [Bool.and_eq_true, decide_eq_true_eq] at h23
  obtain ⟨r1, r2, r3, r4, r5, r6, r7, r8⟩ := h23
  have BT : BkT K mg cBook := ⟨clsB_ok r1, PySem.W.mg_of X G bBook, r2, r3, r4⟩
  have MB : MkBk K mg cBook kI _ [.ref ez, .non] [] := ⟨FkI, mkB_ok i_kI h24, bookI_b FkI⟩
  have CN : ConT K cBook kC _ := ⟨FkC, bkC, i_kC, (by have h := h28; simp only [fnB, Bool.and_eq_true] at h; exact h.1)⟩
  unfold outB at h22
  simp only [Bool.and_eq_true, decide_eq_true_eq] at h22
  have OO : UnkT K mg x4 := ⟨PySem.W.mg_of X G a4, one_of (exB_ok h22.1.1.1.1) (.inl rfl) h22.1.1.1.2 sh4 (Ini.mk1 i_e4 t_e4 l_e4 d_e4), h22.1.1.2, ⟨_, _, exB_ok h22.1.1.1.1⟩, by have n := h22.1.1.1.2; simp only [noB, Bool.and_eq_true, decide_eq_true_eq] at n; exact n.1, h22.1.2, h22.2, no "LookupError" (by simp)⟩
  have BP : BkP K cBook vF uF vR uR vM uM vB uB vS uS kG _ _ _ _ _ _ := ⟨FuF, buF, prB_ok i_uF p_uF h32, FuR, buR, prB_ok i_uR p_uR h33, FuM, buM, prB_ok i_uM p_uM h34, FuB, buB, prB_ok i_uB p_uB h35, FuS, buS, prB_ok i_uS p_uS h36, FkG, bkG, ⟨i_kG, h29, h30⟩⟩
  have BE : BkE K cBook kE := ⟨r5, r6, eqB_ok i_kE h31⟩
  have MM : EqD K ⟨cSay, cPress, cGo, cTimes, cBody⟩ qS qP qG qT qB _ _ _ _ _ := ⟨FqS, FqP, FqG, FqT, FqB, bqS, bqP, bqG, bqT, bqB, eqB_ok i_qS h17, eqB_ok i_qP h18, eqB_ok i_qG h19, eqB_ok i_qT h20, eqB_ok i_qB h21⟩
  let W : Lw := ⟨⟨cSay, cPress, cGo, cTimes, cBody⟩, fun j => ([x0, x1, x2, x3] : List Addr).getD j 0, cBook, x4, ez, fD, pD, fO, fC, tS, tP, tG, tT, tB, iS, iP, iG, iT, iB, fW, fN, fH, gO, pO, gB, pB, fdOf FfD, fdOf FfO, fdOf FfC, fdOf FtS, fdOf FtP, fdOf FtG, fdOf FtT, fdOf FtB, fdOf FiS, fdOf FiP, fdOf FiG, fdOf FiT, fdOf FiB, fdOf FfW, fdOf FfN, fdOf FfH, fdOf FgO, fdOf FgB, .type "type", .type "type", qS, qP, qG, qT, qB, fdOf FqS, fdOf FqP, fdOf FqG, fdOf FqT, fdOf FqB, mM, mG, mA, mK, pEn, fEn, fdOf FmM, fdOf FmG, fdOf FmA, fdOf FmK, fdOf FfEn, wA, wP, wM, wS, wB, wX, wL, wW, fdOf FwA, fdOf FwP, fdOf FwM, fdOf FwS, fdOf FwB, fdOf FwX, fdOf FwL, fdOf FwW, kI, fdO2 FkI, ds1, ds2, kC, fdOf FkC, vF, uF, vR, uR, vM, uM, vB, uB, vS, uS, kG, fdOf FuF, fdOf FuR, fdOf FuM, fdOf FuB, fdOf FuS, fdOf FkG, kE, wT, kL, kP, kS, fdOf FkE, fdOf FwT, fdOf FkL, fdOf FkP, fdOf FkS, ya, yb, yc, yd, ye, yf, yg, yh, yi, yj, yk, yl, ym, yn, yo, yp, yq, yr, ys, fdOf Fya, fdOf Fyb, fdOf Fyc, fdOf Fyd, fdOf Fye, fdOf Fyf, fdOf Fyg, fdOf Fyh, fdOf Fyi, fdOf Fyj, fdOf Fyk, fdOf Fyl, fdOf Fym, fdOf Fyn, fdOf Fyo, fdOf Fyp, fdOf Fyq, fdOf Fyr, fdOf Fys⟩
  have WF : LwF K mg W := ⟨N, T3, no "min" (by simp), R, Z0, Y0, FgO, ⟨ro, mo, bgO⟩, FgB, ⟨roB, moB, bgB⟩, MM, ZZ, YY, BT, MB, e0_ok l_E, w1, v1, w2, v2, bookI_b3 FkI, CN, OO, BP, BE, r7, r8, FkE, bkE, FwT, bwT, GwT, FkL, bkL, i_kL, (by have h := h27; simp only [fnB, Bool.and_eq_true] at h; exact h.1), FkP, bkP, fnB_ok i_kP h25, FkS, setRest_b FkS, fnB_ok i_kS h26, ⟨Fya, bya, Gya⟩, ⟨Fyb, byb, Gyb⟩, ⟨Fyc, byc, Gyc⟩, ⟨Fyd, byd, Gyd⟩, ⟨Fye, bye, Gye⟩, ⟨Fyf, byf, Gyf⟩, ⟨Fyg, byg, Gyg⟩, ⟨Fyh, byh, Gyh⟩, ⟨Fyi, byi, Gyi⟩, ⟨Fyj, byj, Gyj⟩, ⟨Fyk, byk, Gyk⟩, ⟨Fyl, byl, Gyl⟩, ⟨Fym, bym, Gym⟩, ⟨Fyn, byn, Gyn⟩, ⟨Fyo, byo, Gyo⟩, ⟨Fyp, byp, Gyp⟩, ⟨Fyq, byq, Gyq⟩, ⟨Fyr, byr, Gyr⟩, ⟨Fys, bys, Gys⟩⟩
  have e := hfa.symm.trans (PySem.W.mg_of X G g_aLaw)
  cases e
  have FL := fun_mk (st := sLaw) l_aLaw d_aLaw k_aLaw
  exact ⟨fdOf FL, fun s v => .of_eq rfl, fun base _ _ => ok_law WF FL⟩
end KP
end

section
set_option Elab.async false
set_option linter.all false
set_option maxRecDepth 100000
set_option maxHeartbeats 8000000
open PySem PySem.W PyProof.Rows in
set_option maxRecDepth 100000 in
set_option maxHeartbeats 0 in
theorem PySem.Challenge.cw_onestroke_k06_books_made_holds : PySem.Challenge.rw_onestroke_k06_books_made.Holds :=
  headOfK06 (by
  k_fill
  refine L2.walkG (l := PySem.Challenge.rw_onestroke_k06_books_made) (n := 63) (k := 20) (x := "_law_script") (sp := KP.spLaw) rfl (by decide) rfl ⟨rfl, by decide, by decide⟩ (fun w h Y => PySem.W.kIn_of Y) ?hkF (fun K H a ns hl hS => ⟨a, ns, rfl, hS, hl, fun _ => rfl⟩)
  case hkF =>
    intro w mg fa h KX G hmg
    refine' KP.all_mk KX G hmg ?hk_a0 ?hk_a1 ?hk_a2 ?hk_a3 ?hk_a4 ?hk_bSay ?hk_bPress ?hk_bGo ?hk_bTimes ?hk_bBody ?hk_bBook ?hk_i_e0 ?hk_t_e0 ?hk_l_e0 ?hk_d_e0 ?hk_i_e1 ?hk_t_e1 ?hk_l_e1 ?hk_d_e1 ?hk_i_e2 ?hk_t_e2 ?hk_l_e2 ?hk_d_e2 ?hk_i_e3 ?hk_t_e3 ?hk_l_e3 ?hk_d_e3 ?hk_i_e4 ?hk_t_e4 ?hk_l_e4 ?hk_d_e4 ?hk_i_iS ?hk_l_iS ?hk_d_iS ?hk_i_iP ?hk_l_iP ?hk_d_iP ?hk_i_iG ?hk_l_iG ?hk_d_iG ?hk_i_iT ?hk_l_iT ?hk_d_iT ?hk_i_iB ?hk_l_iB ?hk_d_iB ?hk_i_tS ?hk_l_tS ?hk_d_tS ?hk_i_tP ?hk_l_tP ?hk_d_tP ?hk_i_tG ?hk_l_tG ?hk_d_tG ?hk_i_tT ?hk_l_tT ?hk_d_tT ?hk_i_tB ?hk_l_tB ?hk_d_tB ?hk_i_qS ?hk_l_qS ?hk_d_qS ?hk_i_qP ?hk_l_qP ?hk_d_qP ?hk_i_qG ?hk_l_qG ?hk_d_qG ?hk_i_qT ?hk_l_qT ?hk_d_qT ?hk_i_qB ?hk_l_qB ?hk_d_qB ?hk_i_kG ?hk_l_kG ?hk_d_kG ?hk_i_kC ?hk_l_kC ?hk_d_kC ?hk_i_kL ?hk_l_kL ?hk_d_kL ?hk_i_kE ?hk_l_kE ?hk_d_kE ?hk_i_kP ?hk_l_kP ?hk_d_kP ?hk_i_kS ?hk_l_kS ?hk_d_kS ?hk_i_kI ?hk_l_kI ?hk_d_kI ?hk_l_T ?hk_l_E ?hk_i_fD ?hk_p_fD ?hk_l_fD ?hk_d_fD ?hk_i_fEn ?hk_p_fEn ?hk_l_fEn ?hk_d_fEn ?hk_i_uF ?hk_p_uF ?hk_l_uF ?hk_d_uF ?hk_i_uR ?hk_p_uR ?hk_l_uR ?hk_d_uR ?hk_i_uM ?hk_p_uM ?hk_l_uM ?hk_d_uM ?hk_i_uB ?hk_p_uB ?hk_l_uB ?hk_d_uB ?hk_i_uS ?hk_p_uS ?hk_l_uS ?hk_d_uS ?hk_i_gO ?hk_p_gO ?hk_l_gO ?hk_d_gO ?hk_i_gB ?hk_p_gB ?hk_l_gB ?hk_d_gB ?hk_g_fW ?hk_l_fW ?hk_d_fW ?hk_k_fW ?hk_g_fN ?hk_l_fN ?hk_d_fN ?hk_k_fN ?hk_g_fH ?hk_l_fH ?hk_d_fH ?hk_k_fH ?hk_g_fO ?hk_l_fO ?hk_d_fO ?hk_k_fO ?hk_g_fC ?hk_l_fC ?hk_d_fC ?hk_k_fC ?hk_g_wA ?hk_l_wA ?hk_d_wA ?hk_k_wA ?hk_g_wP ?hk_l_wP ?hk_d_wP ?hk_k_wP ?hk_g_wM ?hk_l_wM ?hk_d_wM ?hk_k_wM ?hk_g_wS ?hk_l_wS ?hk_d_wS ?hk_k_wS ?hk_g_wB ?hk_l_wB ?hk_d_wB ?hk_k_wB ?hk_g_wX ?hk_l_wX ?hk_d_wX ?hk_k_wX ?hk_g_wL ?hk_l_wL ?hk_d_wL ?hk_k_wL ?hk_g_wW ?hk_l_wW ?hk_d_wW ?hk_k_wW ?hk_g_mM ?hk_l_mM ?hk_d_mM ?hk_k_mM ?hk_g_mG ?hk_l_mG ?hk_d_mG ?hk_k_mG ?hk_g_mA ?hk_l_mA ?hk_d_mA ?hk_k_mA ?hk_g_mK ?hk_l_mK ?hk_d_mK ?hk_k_mK ?hk_g_wT ?hk_l_wT ?hk_d_wT ?hk_k_wT ?hk_g_ya ?hk_l_ya ?hk_d_ya ?hk_k_ya ?hk_g_yb ?hk_l_yb ?hk_d_yb ?hk_k_yb ?hk_g_yc ?hk_l_yc ?hk_d_yc ?hk_k_yc ?hk_g_yd ?hk_l_yd ?hk_d_yd ?hk_k_yd ?hk_g_ye ?hk_l_ye ?hk_d_ye ?hk_k_ye ?hk_g_yf ?hk_l_yf ?hk_d_yf ?hk_k_yf ?hk_g_yg ?hk_l_yg ?hk_d_yg ?hk_k_yg ?hk_g_yh ?hk_l_yh ?hk_d_yh ?hk_k_yh ?hk_g_yi ?hk_l_yi ?hk_d_yi ?hk_k_yi ?hk_g_yj ?hk_l_yj ?hk_d_yj ?hk_k_yj ?hk_g_yk ?hk_l_yk ?hk_d_yk ?hk_k_yk ?hk_g_yl ?hk_l_yl ?hk_d_yl ?hk_k_yl ?hk_g_ym ?hk_l_ym ?hk_d_ym ?hk_k_ym ?hk_g_yn ?hk_l_yn ?hk_d_yn ?hk_k_yn ?hk_g_yo ?hk_l_yo ?hk_d_yo ?hk_k_yo ?hk_g_yp ?hk_l_yp ?hk_d_yp ?hk_k_yp ?hk_g_yq ?hk_l_yq ?hk_d_yq ?hk_k_yq ?hk_g_yr ?hk_l_yr ?hk_d_yr ?hk_k_yr ?hk_g_ys ?hk_l_ys ?hk_d_ys ?hk_k_ys ?hk_g_aLaw ?hk_l_aLaw ?hk_d_aLaw ?hk_k_aLaw ?hk_q0 ?hk_q1 ?hk_q2 ?hk_q3 ?hk_q4 ?hk_vv ?hk_ck
    (case hk_a0 => k_is)
    (case hk_a1 => k_is)
    (case hk_a2 => k_is)
    (case hk_a3 => k_is)
    (case hk_a4 => k_is)
    (case hk_bSay => k_is)
    (case hk_bPress => k_is)
    (case hk_bGo => k_is)
    (case hk_bTimes => k_is)
    (case hk_bBody => k_is)
    (case hk_bBook => k_is)
    (case hk_i_e0 => k_is)
    (case hk_t_e0 => k_is)
    (case hk_l_e0 => k_is)
    (case hk_d_e0 => k_is)
    (case hk_i_e1 => k_is)
    (case hk_t_e1 => k_is)
    (case hk_l_e1 => k_is)
    (case hk_d_e1 => k_is)
    (case hk_i_e2 => k_is)
    (case hk_t_e2 => k_is)
    (case hk_l_e2 => k_is)
    (case hk_d_e2 => k_is)
    (case hk_i_e3 => k_is)
    (case hk_t_e3 => k_is)
    (case hk_l_e3 => k_is)
    (case hk_d_e3 => k_is)
    (case hk_i_e4 => k_is)
    (case hk_t_e4 => k_is)
    (case hk_l_e4 => k_is)
    (case hk_d_e4 => k_is)
    (case hk_i_iS => k_is)
    (case hk_l_iS => k_is)
    (case hk_d_iS => k_is)
    (case hk_i_iP => k_is)
    (case hk_l_iP => k_is)
    (case hk_d_iP => k_is)
    (case hk_i_iG => k_is)
    (case hk_l_iG => k_is)
    (case hk_d_iG => k_is)
    (case hk_i_iT => k_is)
    (case hk_l_iT => k_is)
    (case hk_d_iT => k_is)
    (case hk_i_iB => k_is)
    (case hk_l_iB => k_is)
    (case hk_d_iB => k_is)
    (case hk_i_tS => k_is)
    (case hk_l_tS => k_is)
    (case hk_d_tS => k_is)
    (case hk_i_tP => k_is)
    (case hk_l_tP => k_is)
    (case hk_d_tP => k_is)
    (case hk_i_tG => k_is)
    (case hk_l_tG => k_is)
    (case hk_d_tG => k_is)
    (case hk_i_tT => k_is)
    (case hk_l_tT => k_is)
    (case hk_d_tT => k_is)
    (case hk_i_tB => k_is)
    (case hk_l_tB => k_is)
    (case hk_d_tB => k_is)
    (case hk_i_qS => k_is)
    (case hk_l_qS => k_is)
    (case hk_d_qS => k_is)
    (case hk_i_qP => k_is)
    (case hk_l_qP => k_is)
    (case hk_d_qP => k_is)
    (case hk_i_qG => k_is)
    (case hk_l_qG => k_is)
    (case hk_d_qG => k_is)
    (case hk_i_qT => k_is)
    (case hk_l_qT => k_is)
    (case hk_d_qT => k_is)
    (case hk_i_qB => k_is)
    (case hk_l_qB => k_is)
    (case hk_d_qB => k_is)
    (case hk_i_kG => k_is)
    (case hk_l_kG => k_is)
    (case hk_d_kG => k_is)
    (case hk_i_kC => k_is)
    (case hk_l_kC => k_is)
    (case hk_d_kC => k_is)
    (case hk_i_kL => k_is)
    (case hk_l_kL => k_is)
    (case hk_d_kL => k_is)
    (case hk_i_kE => k_is)
    (case hk_l_kE => k_is)
    (case hk_d_kE => k_is)
    (case hk_i_kP => k_is)
    (case hk_l_kP => k_is)
    (case hk_d_kP => k_is)
    (case hk_i_kS => k_is)
    (case hk_l_kS => k_is)
    (case hk_d_kS => k_is)
    (case hk_i_kI => k_is)
    (case hk_l_kI => k_is)
    (case hk_d_kI => k_is)
    (case hk_l_T => k_is)
    (case hk_l_E => k_is)
    (case hk_i_fD => k_is)
    (case hk_p_fD => k_is)
    (case hk_l_fD => k_is)
    (case hk_d_fD => k_is)
    (case hk_i_fEn => k_is)
    (case hk_p_fEn => k_is)
    (case hk_l_fEn => k_is)
    (case hk_d_fEn => k_is)
    (case hk_i_uF => k_is)
    (case hk_p_uF => k_is)
    (case hk_l_uF => k_is)
    (case hk_d_uF => k_is)
    (case hk_i_uR => k_is)
    (case hk_p_uR => k_is)
    (case hk_l_uR => k_is)
    (case hk_d_uR => k_is)
    (case hk_i_uM => k_is)
    (case hk_p_uM => k_is)
    (case hk_l_uM => k_is)
    (case hk_d_uM => k_is)
    (case hk_i_uB => k_is)
    (case hk_p_uB => k_is)
    (case hk_l_uB => k_is)
    (case hk_d_uB => k_is)
    (case hk_i_uS => k_is)
    (case hk_p_uS => k_is)
    (case hk_l_uS => k_is)
    (case hk_d_uS => k_is)
    (case hk_i_gO => k_is)
    (case hk_p_gO => k_is)
    (case hk_l_gO => k_is)
    (case hk_d_gO => k_is)
    (case hk_i_gB => k_is)
    (case hk_p_gB => k_is)
    (case hk_l_gB => k_is)
    (case hk_d_gB => k_is)
    (case hk_g_fW => k_is)
    (case hk_l_fW => k_is)
    (case hk_d_fW => k_is)
    (case hk_k_fW => k_is)
    (case hk_g_fN => k_is)
    (case hk_l_fN => k_is)
    (case hk_d_fN => k_is)
    (case hk_k_fN => k_is)
    (case hk_g_fH => k_is)
    (case hk_l_fH => k_is)
    (case hk_d_fH => k_is)
    (case hk_k_fH => k_is)
    (case hk_g_fO => k_is)
    (case hk_l_fO => k_is)
    (case hk_d_fO => k_is)
    (case hk_k_fO => k_is)
    (case hk_g_fC => k_is)
    (case hk_l_fC => k_is)
    (case hk_d_fC => k_is)
    (case hk_k_fC => k_is)
    (case hk_g_wA => k_is)
    (case hk_l_wA => k_is)
    (case hk_d_wA => k_is)
    (case hk_k_wA => k_is)
    (case hk_g_wP => k_is)
    (case hk_l_wP => k_is)
    (case hk_d_wP => k_is)
    (case hk_k_wP => k_is)
    (case hk_g_wM => k_is)
    (case hk_l_wM => k_is)
    (case hk_d_wM => k_is)
    (case hk_k_wM => k_is)
    (case hk_g_wS => k_is)
    (case hk_l_wS => k_is)
    (case hk_d_wS => k_is)
    (case hk_k_wS => k_is)
    (case hk_g_wB => k_is)
    (case hk_l_wB => k_is)
    (case hk_d_wB => k_is)
    (case hk_k_wB => k_is)
    (case hk_g_wX => k_is)
    (case hk_l_wX => k_is)
    (case hk_d_wX => k_is)
    (case hk_k_wX => k_is)
    (case hk_g_wL => k_is)
    (case hk_l_wL => k_is)
    (case hk_d_wL => k_is)
    (case hk_k_wL => k_is)
    (case hk_g_wW => k_is)
    (case hk_l_wW => k_is)
    (case hk_d_wW => k_is)
    (case hk_k_wW => k_is)
    (case hk_g_mM => k_is)
    (case hk_l_mM => k_is)
    (case hk_d_mM => k_is)
    (case hk_k_mM => k_is)
    (case hk_g_mG => k_is)
    (case hk_l_mG => k_is)
    (case hk_d_mG => k_is)
    (case hk_k_mG => k_is)
    (case hk_g_mA => k_is)
    (case hk_l_mA => k_is)
    (case hk_d_mA => k_is)
    (case hk_k_mA => k_is)
    (case hk_g_mK => k_is)
    (case hk_l_mK => k_is)
    (case hk_d_mK => k_is)
    (case hk_k_mK => k_is)
    (case hk_g_wT => k_is)
    (case hk_l_wT => k_is)
    (case hk_d_wT => k_is)
    (case hk_k_wT => k_is)
    (case hk_g_ya => k_is)
    (case hk_l_ya => k_is)
    (case hk_d_ya => k_is)
    (case hk_k_ya => k_is)
    (case hk_g_yb => k_is)
    (case hk_l_yb => k_is)
    (case hk_d_yb => k_is)
    (case hk_k_yb => k_is)
    (case hk_g_yc => k_is)
    (case hk_l_yc => k_is)
    (case hk_d_yc => k_is)
    (case hk_k_yc => k_is)
    (case hk_g_yd => k_is)
    (case hk_l_yd => k_is)
    (case hk_d_yd => k_is)
    (case hk_k_yd => k_is)
    (case hk_g_ye => k_is)
    (case hk_l_ye => k_is)
    (case hk_d_ye => k_is)
    (case hk_k_ye => k_is)
    (case hk_g_yf => k_is)
    (case hk_l_yf => k_is)
    (case hk_d_yf => k_is)
    (case hk_k_yf => k_is)
    (case hk_g_yg => k_is)
    (case hk_l_yg => k_is)
    (case hk_d_yg => k_is)
    (case hk_k_yg => k_is)
    (case hk_g_yh => k_is)
    (case hk_l_yh => k_is)
    (case hk_d_yh => k_is)
    (case hk_k_yh => k_is)
    (case hk_g_yi => k_is)
    (case hk_l_yi => k_is)
    (case hk_d_yi => k_is)
    (case hk_k_yi => k_is)
    (case hk_g_yj => k_is)
    (case hk_l_yj => k_is)
    (case hk_d_yj => k_is)
    (case hk_k_yj => k_is)
    (case hk_g_yk => k_is)
    (case hk_l_yk => k_is)
    (case hk_d_yk => k_is)
    (case hk_k_yk => k_is)
    (case hk_g_yl => k_is)
    (case hk_l_yl => k_is)
    (case hk_d_yl => k_is)
    (case hk_k_yl => k_is)
    (case hk_g_ym => k_is)
    (case hk_l_ym => k_is)
    (case hk_d_ym => k_is)
    (case hk_k_ym => k_is)
    (case hk_g_yn => k_is)
    (case hk_l_yn => k_is)
    (case hk_d_yn => k_is)
    (case hk_k_yn => k_is)
    (case hk_g_yo => k_is)
    (case hk_l_yo => k_is)
    (case hk_d_yo => k_is)
    (case hk_k_yo => k_is)
    (case hk_g_yp => k_is)
    (case hk_l_yp => k_is)
    (case hk_d_yp => k_is)
    (case hk_k_yp => k_is)
    (case hk_g_yq => k_is)
    (case hk_l_yq => k_is)
    (case hk_d_yq => k_is)
    (case hk_k_yq => k_is)
    (case hk_g_yr => k_is)
    (case hk_l_yr => k_is)
    (case hk_d_yr => k_is)
    (case hk_k_yr => k_is)
    (case hk_g_ys => k_is)
    (case hk_l_ys => k_is)
    (case hk_d_ys => k_is)
    (case hk_k_ys => k_is)
    (case hk_g_aLaw => k_is)
    (case hk_l_aLaw => k_is)
    (case hk_d_aLaw => k_is)
    (case hk_k_aLaw => k_is)
    (case hk_q0 => k_is)
    (case hk_q1 => k_is)
    (case hk_q2 => k_is)
    (case hk_q3 => k_is)
    (case hk_q4 => k_is)
    (case hk_vv => first | kernel_rfl | rfl)
    (case hk_ck => kernel_rfl))
end
