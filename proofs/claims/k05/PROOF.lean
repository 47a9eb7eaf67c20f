import PyProof.Rows.All
import Wide.All
import OpenK.AllK
import Wide.FinOn
import HandS.ForMost
import HandS.Exc
import HandS.ExcInit
import KE.KExcInit
import KE.KExcIs
import HandS.IsInst
import HandS.StrMore
import HandS.Lambda
import PyProof.Rows.StrJoinMade
import HandS.ForExc
import HandS.ExcField
import HandS.Property
import PySem.Challenge.RW_onestroke_k05_whole_bent_body_texts
import HandS.TryMany
import HandS.FStr
import HandS.Iter
import HandS.Walk
import KE.GoesEnum
import HandS.Star
import HandS.CallLocal
import HandS.ClsMeth
import HandS.SortKw
import KE.DatumOrd
import HandS.Text
import HandS.ReplaceList
import HandS.Replace
import HandS.ReplaceLit
import HandS.ReplaceDef
import HandS.Call
import HandS.List
import OpenK.KOps
import HandS.OwnEq
import PyProof.InstNe
import HandS.Style
import PyProof.Rows.ReprOcc
import OpenK.KMeth
import PyProof.StrBlock2
section
set_option Elab.async false
set_option linter.all false
set_option maxRecDepth 100000
set_option maxHeartbeats 4000000
/-! The pen: what it holds, what a draw promises. -/
namespace Pn
open PySem PySem.Spec PyProof.Rows L2
def cs (c : Addr) (s r : Int) : List (Key × V) := [(.inr "cells", .ref c), (.inr "spot", .int s), (.inr "rest", .int r)]
theorem cs_cells (c : Addr) (s r : Int) : valV (cs c s r) (.inr "cells") = some (.ref c) := by rfl
theorem cs_spot (c : Addr) (s r : Int) : valV (cs c s r) (.inr "spot") = some (.int s) := by rfl
theorem cs_rest (c : Addr) (s r : Int) : valV (cs c s r) (.inr "rest") = some (.int r) := by rfl
theorem cs_put_spot (c : Addr) (s r t : Int) : putK (cs c s r) (.inr "spot") (.int t) = cs c t r := by rfl
theorem cs_put_rest (c : Addr) (s r t : Int) : putK (cs c s r) (.inr "rest") (.int t) = cs c s t := by rfl
/-- all but p stands as it was -/
def But (p : Addr) (H H' : Hp) : Prop := ∀ b o, b ≠ p → H b = some o → H' b = some o
theorem But.refl (p : Addr) (H : Hp) : But p H H := fun _ _ _ h => h
theorem But.trans {p : Addr} {H H1 H2 : Hp} (a : But p H H1) (b : But p H1 H2) : But p H H2 := fun c o n h => b c o n (a c o n h)
theorem Same.but {H H' : Hp} (p : Addr) (a : Same H H') : But p H H' := fun c o _ h => a c o h
theorem But.upd {p : Addr} {H H' : Hp} (a : But p H H') (o : HO) : But p H (upd H' p o) := fun c u n h => by
  rw [upd_ne n]
  exact a c u n h
theorem But.new {p q : Addr} {H H' : Hp} {o : HO} (a : But p H H') (hq : H' q = none) : But p H (L2.upd H' q o) := fun c u n h => by
  rw [upd_ne (ne_of_none (a c u n h) hq)]
  exact a c u n h
theorem But.lst {K : PySem.W.Frag} {p t : Addr} {H H' : Hp} {kvs : List (Key × V)} {xs : List V} (a : But p H H') (hp : H p = some (.dK kvs)) (h : SqL K H t xs) : SqL K H' t xs := by
  rcases h with (h | ⟨o, h⟩) | h
  · exact .inl (.inl (a _ _ (ne_of h hp (by intro z; cases z)) h))
  · exact .inl (.inr ⟨o, a _ _ (ne_of h hp (by intro z; cases z)) h⟩)
  · exact .inr h
theorem But.tup {K : PySem.W.Frag} {p t : Addr} {H H' : Hp} {kvs : List (Key × V)} {xs : List V} (a : But p H H') (hp : H p = some (.dK kvs)) (h : SqT K H t xs) : SqT K H' t xs := by
  rcases h with (h | ⟨o, h⟩) | h
  · exact .inl (.inl (a _ _ (ne_of h hp (by intro z; cases z)) h))
  · exact .inl (.inr ⟨o, a _ _ (ne_of h hp (by intro z; cases z)) h⟩)
  · exact .inr h
/-- the pen at p: its cells at c are the ints ns, at most n draws were made -/
def PenAt (H : Hp) (p c : Addr) (ns : List Int) (n : Nat) : Prop := H c = some (.lst (ns.map V.int)) ∧ ∃ s r : Int, H p = some (.dK (cs c s r)) ∧ 0 ≤ s ∧ s ≤ (n : Int)
theorem PenAt.cp {H : Hp} {p c : Addr} {ns : List Int} {n : Nat} (h : PenAt H p c ns n) : c ≠ p := by
  obtain ⟨h1, s, r, h2, _⟩ := h
  exact ne_of h1 h2 (by intro z; cases z)
theorem PenAt.at {H : Hp} {p c : Addr} {ns : List Int} {n : Nat} (h : PenAt H p c ns n) : ∃ kvs, H p = some (.dK kvs) := let ⟨_, s, r, h2, _⟩ := h; ⟨_, h2⟩
theorem PenAt.same {H H' : Hp} {p c : Addr} {ns : List Int} {n : Nat} (h : PenAt H p c ns n) (e : Same H H') : PenAt H' p c ns n := by
  obtain ⟨h1, s, r, h2, h3⟩ := h
  exact ⟨e _ _ h1, s, r, e _ _ h2, h3⟩
theorem PenAt.mono {H : Hp} {p c : Addr} {ns : List Int} {n m : Nat} (h : PenAt H p c ns n) (e : n ≤ m) : PenAt H p c ns m := by
  obtain ⟨h1, s, r, h2, h3, h4⟩ := h
  exact ⟨h1, s, r, h2, h3, by omega⟩
/-! ### the promises -/
def spPen (K : PySem.W.Frag) : Sp := fun vs H Q _ => ∃ (a : Addr) (ns : List Int), vs = [.ref a] ∧ SqL K H a (ns.map V.int) ∧ ns.length ≤ 63 ∧
  ∀ (p c : Addr) (H' : Hp), Same H H' → H p = none → PenAt H' p c ns 0 → Q (.ref p) H'
def spDraw : Sp := fun vs H Q _ => ∃ (p c : Addr) (ns : List Int) (n : Nat) (size : Int), vs = [.ref p, .int size] ∧ PenAt H p c ns n ∧ n ≤ 1000000000 ∧ ns.length ≤ 63 ∧ 0 < size ∧ size < 1073741824 ∧
  ∀ (d : Int) (H' : Hp), 0 ≤ d → d < size → But p H H' → PenAt H' p c ns (n + 1) → Q (.int d) H'
def spPick (K : PySem.W.Frag) : Sp := fun vs H Q _ => ∃ (p c t : Addr) (ns : List Int) (n : Nat) (xs : List V), vs = [.ref p, .ref t] ∧ PenAt H p c ns n ∧ n ≤ 1000000000 ∧ ns.length ≤ 63 ∧ SqL K H t xs ∧ 0 < xs.length ∧ xs.length < 1073741824 ∧
  ∀ (x : V) (H' : Hp), x ∈ xs → But p H H' → PenAt H' p c ns (n + 1) → Q x H'
end Pn
end

section
set_option Elab.async false
set_option linter.all false
set_option maxRecDepth 100000
set_option maxHeartbeats 4000000
/-! Words, signs, things that are picked from: what they are, what the defs promise of them. -/
namespace Pn
open PySem PySem.Spec PyProof.Rows L2
/-- one sign -/
def sg (c : Nat) : V := .str ⟨#[c]⟩
/-- what may be picked from: a list, a tuple, or a text sign by sign -/
def SeqV (K : PySem.W.Frag) (H : Hp) (y : V) (xs : List V) : Prop :=
  (∃ t, y = .ref t ∧ SqL K H t xs) ∨ (∃ z : PySem.Str, y = .str z ∧ z.length ≤ sizeLine ∧ xs = z.cps.toList.map sg)
def spPick2 (K : PySem.W.Frag) : Sp := fun vs H Q _ => ∃ (p c : Addr) (y : V) (ns : List Int) (n : Nat) (xs : List V), vs = [.ref p, y] ∧ PenAt H p c ns n ∧ n ≤ 1000000000 ∧ ns.length ≤ 63 ∧ SeqV K H y xs ∧ 0 < xs.length ∧ xs.length < 1073741824 ∧
  ∀ (x : V) (H' : Hp), x ∈ xs → But p H H' → PenAt H' p c ns (n + 1) → Q x H'
theorem SeqV.len {K : PySem.W.Frag} {H : Hp} {y : V} {xs : List V} (h : SeqV K H y xs) : LenV K y H xs.length := by
  rcases h with ⟨t, rfl, h⟩ | ⟨z, rfl, h, rfl⟩
  · exact .inl ⟨xs, h, rfl⟩
  · refine ⟨h, ?_⟩
    rw [List.length_map]
    rfl
theorem SeqV.but {K : PySem.W.Frag} {p : Addr} {H H' : Hp} {kvs : List (Key × V)} {y : V} {xs : List V} (h : SeqV K H y xs) (a : But p H H') (hp : H p = some (.dK kvs)) : SeqV K H' y xs := by
  rcases h with ⟨t, rfl, h⟩ | h
  · exact .inl ⟨t, rfl, a.lst hp h⟩
  · exact .inr h
theorem SeqV.ix {K : PySem.W.Frag} {H : Hp} {y : V} {xs : List V} {d : Int} {x : V} {Q : V → Hp → Prop} (h : SeqV K H y xs) (hx : atI xs d = some x) (q : Q x H) : rIx K y (.int d) H Q := by
  rcases h with ⟨t, rfl, h⟩ | ⟨z, rfl, h, rfl⟩
  · exact .inl ⟨t, xs, d, x, rfl, rfl, h, hx, q⟩
  · unfold atI at hx
    rw [List.length_map] at hx
    cases e : ixN z.cps.toList.length d with
    | none => rw [e] at hx; cases hx
    | some j =>
      rw [e] at hx
      rw [Option.bind_some, List.getElem?_map] at hx
      cases e2 : z.cps.toList[j]? with
      | none => rw [e2] at hx; cases hx
      | some c =>
        rw [e2] at hx
        cases hx
        exact .inr (.inr ⟨z, d, c, rfl, rfl, h, by unfold atI; rw [e, Option.bind_some, e2], q⟩)
/-- small letters -/
def Low (l : List Nat) : Prop := ∀ c ∈ l, 97 ≤ c ∧ c ≤ 122
theorem Low.nil : Low [] := fun c h => by cases h
theorem Low.app {a b : List Nat} (h : Low a) (g : Low b) : Low (a ++ b) := fun c m => (List.mem_append.mp m).elim (h c) (g c)
theorem Low.one {c : Nat} (h : 97 ≤ c ∧ c ≤ 122) : Low [c] := fun d m => by
  rcases List.mem_cons.mp m with rfl | m
  · exact h
  · cases m
theorem Low.drop {a : List Nat} (h : Low a) (n : Nat) : Low (a.drop n) := fun c m => h c (List.mem_of_mem_drop m)
theorem Low.take {a : List Nat} (h : Low a) (n : Nat) : Low (a.take n) := fun c m => h c (List.mem_of_mem_take m)
/-- a word -/
def Wd (z : PySem.Str) : Prop := 1 ≤ z.cps.toList.length ∧ z.cps.toList.length ≤ 8 ∧ Low z.cps.toList
theorem cps_app (a b : PySem.Str) : (a ++ b).cps.toList = a.cps.toList ++ b.cps.toList := by
  show (a.cps ++ b.cps).toList = _
  exact Array.toList_append
theorem lenL (a : PySem.Str) : a.length = a.cps.toList.length := rfl
theorem cps_cut (z : PySem.Str) (lo hi : Option Int) : (cutS z lo hi).cps.toList = (z.cps.toList.drop (HT.sIx z.length 0 lo)).take (HT.sIx z.length z.length hi - HT.sIx z.length 0 lo) := rfl
theorem Low.cut {z : PySem.Str} (h : Low z.cps.toList) (lo hi : Option Int) : Low (cutS z lo hi).cps.toList := by
  rw [cps_cut]
  exact (h.drop _).take _
theorem len_cut (z : PySem.Str) (lo hi : Option Int) : (cutS z lo hi).length = (cutS z lo hi).cps.toList.length := rfl
/-- what stands ahead of a place and what stands behind it are all of it -/
theorem cut_two (z : PySem.Str) (k : Nat) (h : k ≤ z.length) : (cutS z none (some (k : Int))).cps.toList.length + (cutS z (some (k : Int)) none).cps.toList.length = z.length := by
  rw [cps_cut, cps_cut, HT.sIx_none, HT.sIx_none, HT.sIx_nat, HT.sIx_nat, Nat.min_eq_left h, List.length_take, List.length_take, List.length_drop, List.length_drop, ← lenL]
  omega
/-- one of the small letters' text -/
def abc : PySem.Str := "abcdefghijklmnopqrstuvwxyz"
theorem abc_list : abc.cps.toList = (List.range 26).map (· + 97) := by decide +kernel
theorem abc_len : abc.length = 26 := by decide +kernel
theorem abc_low : Low abc.cps.toList := by
  rw [abc_list]
  intro c m
  obtain ⟨k, hk, rfl⟩ := List.mem_map.mp m
  have := List.mem_range.mp hk
  omega
theorem abc_at {d : Int} (h0 : 0 ≤ d) (h1 : d < 26) : ∃ c, atI abc.cps.toList d = some c ∧ 97 ≤ c ∧ c ≤ 122 := by
  obtain ⟨k, rfl⟩ := Int.eq_ofNat_of_zero_le h0
  have hk : k < abc.cps.toList.length := by have := abc_len; rw [lenL] at this; omega
  exact ⟨abc.cps.toList[k], atI_nat (List.getElem?_eq_getElem hk), abc_low _ (List.getElem_mem hk)⟩
theorem ones_sum : ∀ (ys : List PySem.Str), (∀ y ∈ ys, ∃ c, y = ⟨#[c]⟩ ∧ 97 ≤ c ∧ c ≤ 122) → (ys.map (fun y => y.length)).sum = ys.length
  | [], _ => rfl
  | y :: ys, h => by
    obtain ⟨c, rfl, hc⟩ := h _ (List.mem_cons_self ..)
    rw [List.map_cons, List.sum_cons, ones_sum ys (fun y m => h y (List.mem_cons_of_mem _ m)), List.length_cons]
    show 1 + ys.length = _
    omega
theorem PenAt.upd {H : Hp} {p c D : Addr} {ns : List Int} {n : Nat} {o : HO} (h : PenAt H p c ns n) (a : D ≠ p) (b : D ≠ c) : PenAt (L2.upd H D o) p c ns n := by
  obtain ⟨h1, s, r, h2, h3⟩ := h
  exact ⟨by rw [upd_ne b.symm]; exact h1, s, r, by rw [upd_ne a.symm]; exact h2, h3⟩
theorem PenAt.old {H : Hp} {p c D : Addr} {ns : List Int} {n : Nat} (h : PenAt H p c ns n) (a : H D = none) : D ≠ p ∧ D ≠ c := by
  obtain ⟨h1, s, r, h2, h3⟩ := h
  exact ⟨(fun z => by rw [z, h2] at a; cases a), (fun z => by rw [z, h1] at a; cases a)⟩
theorem But.fresh {p q : Addr} {H H' : Hp} {kvs : List (Key × V)} (a : But p H H') (hp : H' p = some (.dK kvs)) (h : H' q = none) : H q = none := by
  cases e : H q with
  | none => rfl
  | some o =>
    have ne : q ≠ p := fun z => by rw [z, hp] at h; cases h
    rw [a _ _ ne e] at h
    cases h
/-- the join of signs without anything between them -/
theorem glue_low : ∀ (ys : List PySem.Str) (acc : Array Nat), (∀ y ∈ ys, ∃ c, y = ⟨#[c]⟩ ∧ 97 ≤ c ∧ c ≤ 122) → Low acc.toList →
    (ys.foldl (fun acc p => acc ++ ("" : PySem.Str).cps ++ p.cps) acc).toList.length = acc.toList.length + ys.length ∧ Low (ys.foldl (fun acc p => acc ++ ("" : PySem.Str).cps ++ p.cps) acc).toList
  | [], acc, _, h => ⟨rfl, h⟩
  | y :: ys, acc, hy, h => by
    obtain ⟨c, rfl, hc⟩ := hy _ (List.mem_cons_self ..)
    have e : (acc ++ ("" : PySem.Str).cps ++ #[c]).toList = acc.toList ++ [c] := by
      have z : ("" : PySem.Str).cps = #[] := by decide +kernel
      rw [z, Array.toList_append, Array.toList_append]
      simp
    have r := glue_low ys (acc ++ ("" : PySem.Str).cps ++ #[c]) (fun y m => hy y (List.mem_cons_of_mem _ m)) (by rw [e]; exact h.app (Low.one hc))
    refine ⟨Eq.trans r.1 ?_, r.2⟩
    rw [e, List.length_append, List.length_cons, List.length_cons, List.length_nil]
    omega
/-- the join of signs without anything between them -/
theorem join_low (ys : List PySem.Str) (hy : ∀ y ∈ ys, ∃ c, y = ⟨#[c]⟩ ∧ 97 ≤ c ∧ c ≤ 122) : (Txt.join "" ys).cps.toList.length = ys.length ∧ Low (Txt.join "" ys).cps.toList := by
  cases ys with
  | nil => exact ⟨rfl, Low.nil⟩
  | cons y ys =>
    obtain ⟨c, rfl, hc⟩ := hy _ (List.mem_cons_self ..)
    have r := glue_low ys #[c] (fun y m => hy y (List.mem_cons_of_mem _ m)) (Low.one hc)
    refine ⟨Eq.trans r.1 ?_, r.2⟩
    show 1 + ys.length = _
    rw [List.length_cons]
    omega
end Pn
end

section
set_option Elab.async false
set_option linter.all false
set_option maxRecDepth 100000
set_option maxHeartbeats 4000000
/-! Plain items: what they are, how they stand in the heap. -/
namespace Pn
open PySem PySem.Spec PyProof.Rows L2
inductive Itm where
  | say (z : PySem.Str)
  | press (z : PySem.Str)
  | go (z : PySem.Str)
  | times (n : Int) (its : List Itm)
mutual
/-- so deep at most, words and numbers right -/
inductive ItOk : Nat → Itm → Prop
  | say {d : Nat} {z : PySem.Str} : Wd z → ItOk d (.say z)
  | press {d : Nat} {z : PySem.Str} : Wd z → ItOk d (.press z)
  | go {d : Nat} {z : PySem.Str} : Wd z → ItOk d (.go z)
  | times {d : Nat} {n : Int} {its : List Itm} : 0 ≤ n → n ≤ 1000000000 → its.length ≤ 3 → ItsOk d its → ItOk (d + 1) (.times n its)
inductive ItsOk : Nat → List Itm → Prop
  | nil {d : Nat} : ItsOk d []
  | cons {d : Nat} {i : Itm} {is : List Itm} : ItOk d i → ItsOk d is → ItsOk d (i :: is)
end
mutual
/-- how an item stands in the heap, over none of the places B -/
inductive Rp (B : Addr → Prop) (H : Hp) : V → Itm → Prop
  | say {t : Addr} {z : PySem.Str} : ¬B t → H t = some (.tup [.str "say", .str z]) → Rp B H (.ref t) (.say z)
  | press {t : Addr} {z : PySem.Str} : ¬B t → H t = some (.tup [.str "press", .str z]) → Rp B H (.ref t) (.press z)
  | go {t : Addr} {z : PySem.Str} : ¬B t → H t = some (.tup [.str "go", .str z]) → Rp B H (.ref t) (.go z)
  | times {t l : Addr} {n : Int} {vs : List V} {its : List Itm} : ¬B t → ¬B l → H t = some (.tup [.str "times", .int n, .ref l]) → H l = some (.lst vs) → Rps B H vs its → Rp B H (.ref t) (.times n its)
inductive Rps (B : Addr → Prop) (H : Hp) : List V → List Itm → Prop
  | nil : Rps B H [] []
  | cons {v : V} {vs : List V} {i : Itm} {is : List Itm} : Rp B H v i → Rps B H vs is → Rps B H (v :: vs) (i :: is)
end
mutual
theorem Rp.mono {B B' : Addr → Prop} {H H' : Hp} (b : ∀ a, B' a → B a) (e : ∀ a o, ¬B a → H a = some o → H' a = some o) : ∀ (i : Itm) (v : V), Rp B H v i → Rp B' H' v i
  | .say _, _, h => by cases h with | say n h => exact .say (fun z => n (b _ z)) (e _ _ n h)
  | .press _, _, h => by cases h with | press n h => exact .press (fun z => n (b _ z)) (e _ _ n h)
  | .go _, _, h => by cases h with | go n h => exact .go (fun z => n (b _ z)) (e _ _ n h)
  | .times _ its, _, h => by cases h with | times n m h g r => exact .times (fun z => n (b _ z)) (fun z => m (b _ z)) (e _ _ n h) (e _ _ m g) (Rps.mono b e its _ r)
theorem Rps.mono {B B' : Addr → Prop} {H H' : Hp} (b : ∀ a, B' a → B a) (e : ∀ a o, ¬B a → H a = some o → H' a = some o) : ∀ (is : List Itm) (vs : List V), Rps B H vs is → Rps B' H' vs is
  | [], _, h => by cases h; exact .nil
  | i :: is, _, h => by cases h with | cons h1 h2 => exact .cons (Rp.mono b e i _ h1) (Rps.mono b e is _ h2)
end
theorem Rps.len {B : Addr → Prop} {H : Hp} : ∀ {is : List Itm} {vs : List V}, Rps B H vs is → vs.length = is.length
  | [], _, h => by cases h; rfl
  | i :: is, _, h => by cases h with | cons h1 h2 => rw [List.length_cons, List.length_cons, h2.len]
theorem Rps.app {B : Addr → Prop} {H : Hp} : ∀ {is js : List Itm} {vs ws : List V}, Rps B H vs is → Rps B H ws js → Rps B H (vs ++ ws) (is ++ js)
  | [], _, _, _, h, g => by cases h; exact g
  | i :: is, _, _, _, h, g => by cases h with | cons h1 h2 => exact .cons h1 (h2.app g)
theorem ItsOk.app {d : Nat} : ∀ {is js : List Itm}, ItsOk d is → ItsOk d js → ItsOk d (is ++ js)
  | [], _, h, g => g
  | i :: is, _, h, g => by cases h with | cons h1 h2 => exact .cons h1 (h2.app g)
/-- commands, keys and modes -/
def NamesAt (H : Hp) (a : Addr) : Prop := ∃ (l1 l2 l3 : Addr) (w1 w2 w3 : List PySem.Str), H a = some (.tup [.ref l1, .ref l2, .ref l3]) ∧
  (H l1 = some (.lst (w1.map V.str)) ∧ w1.length = 3 ∧ ∀ z ∈ w1, Wd z) ∧ (H l2 = some (.lst (w2.map V.str)) ∧ w2.length = 3 ∧ ∀ z ∈ w2, Wd z) ∧ (H l3 = some (.lst (w3.map V.str)) ∧ w3.length = 3 ∧ ∀ z ∈ w3, Wd z)
theorem NamesAt.ext {H H' : Hp} {a : Addr} (h : NamesAt H a) (e : ∀ b xs, H b = some (.tup xs) → H' b = some (.tup xs)) (g : ∀ b xs, H b = some (.lst xs) → H' b = some (.lst xs)) : NamesAt H' a := by
  obtain ⟨l1, l2, l3, w1, w2, w3, h0, ⟨a1, b1⟩, ⟨a2, b2⟩, ⟨a3, b3⟩⟩ := h
  exact ⟨l1, l2, l3, w1, w2, w3, e _ _ h0, ⟨g _ _ a1, b1⟩, ⟨g _ _ a2, b2⟩, ⟨g _ _ a3, b3⟩⟩
theorem NamesAt.same {H H' : Hp} {a : Addr} (h : NamesAt H a) (e : Same H H') : NamesAt H' a := h.ext (fun b xs => e b _) (fun b xs => e b _)
theorem NamesAt.but {H H' : Hp} {a p : Addr} {kvs : List (Key × V)} (h : NamesAt H a) (e : But p H H') (hp : H p = some (.dK kvs)) : NamesAt H' a :=
  h.ext (fun b xs g => e b _ (ne_of g hp (by intro z; cases z)) g) (fun b xs g => e b _ (ne_of g hp (by intro z; cases z)) g)
end Pn
end

section
set_option Elab.async false
set_option linter.all false
set_option maxRecDepth 100000
set_option maxHeartbeats 4000000
/-! Exceptions of own classes as values: made (positional or by keywords), their fields stored. -/
namespace PySem
namespace Xv
open PySem.W PySem.Calls PyProof.Rows PySem.HandSPX
section
variable {M : Model} {A : Around} {E : Value → Shared → Prop} {h : Heap} {g : Array GenState} {d : Drawn} {t : Nat} {os : OsState}
variable {nm q : Str} {C N : Addr} {bs bm bmB : List Value} {hdct : Bool} {sn : List Str} {sub : List Value} {ab : Bool} {col : Option Bool} {dd : Option Addr} {k0 k1 k2 k3 k5 : Option Value} {B newId initId : String}
/-- the look at B.__new__'s call, keywords beside -/
theorem newCheck (F : ExcBaseFacts B newId initId bmB) (hT : ∀ Y : String, bm.contains (.type Y) = bmB.contains (.type Y)) {rest : List Value} {kw : List (Str × Value)} {Q : Unit → Shared → Prop}
    (hC : h.get? C = some (excClassObj nm q C N bs bm hdct sn sub ab col dd k0 k1 k2 k3 k5 newId)) (hq : Q () ⟨h, g, d, t, os⟩) :
    wpAny M A (checkBuiltinCall newId ⟨.ref C :: rest, kw⟩) Q E ⟨h, g, d, t, os⟩ := by
  have c1 : (Value.ref C :: bm).contains (.type B) = true := by rw [List.contains_cons, hT, F.hasB, Bool.or_true]
  have c2 := F.noStar
  simp only [checkBuiltinCall, F.newKind, F.newSplit, F.newRow]
  repeat (first | with_reducible refine wpAny_loadPart_at hC ?_ | (refine wpAny_isSubtype_exc hC ?_; rw [c1]) | refine wpAny_staticBase_exc hC ?_ | refine wpAny_madeBy_exc hC ?_ | simp only [bne_self_eq_false, Bool.false_eq_true, if_false] | wp_step)
  exact hq
theorem typeCheck {rest : List Value} {kw : List (Str × Value)} {Q : Unit → Shared → Prop} (hC : h.get? C = some (excClassObj nm q C N bs bm hdct sn sub ab col dd k0 k1 k2 k3 k5 newId))
    (hq : Q () ⟨h, g, d, t, os⟩) : wpAny M A (checkBuiltinCall "type.__call__" ⟨.ref C :: rest, kw⟩) Q E ⟨h, g, d, t, os⟩ := by
  have f3 := tc_sub
  have hT : (⟨h, g, d, t, os⟩ : Shared).TypeIs (.ref C) "type" := ⟨_, hC, rfl⟩
  simp only [checkBuiltinCall, tc_kind, tc_split]
  repeat (any_goals (first | assumption | with_reducible refine wpAny_loadPart_at hC ?_ | with_reducible refine wpAny_onRaise ?_ | with_reducible refine wpAny_map ?_ | wp_step))
end
section
variable {prog : Program} {w : World} {A : Around} {E : Value → Shared → Prop} {R : Result → Shared → Prop} {h : Heap} {g : Array GenState} {d : Drawn} {t : Nat} {os : OsState}
variable {nm q : Str} {C N : Addr} {bs bm bmB : List Value} {hdct : Bool} {sn : List Str} {sub : List Value} {ab : Bool} {col : Option Bool} {dd : Option Addr} {k0 k1 k2 k3 k5 : Option Value} {B newId initId : String}
theorem newDone (F : ExcBaseFacts B newId initId bmB) (hT : ∀ Y : String, bm.contains (.type Y) = bmB.contains (.type Y)) {rest : List Value} {kw : List (Str × Value)}
    (hC : h.get? C = some (excClassObj nm q C N bs bm hdct sn sub ab col dd k0 k1 k2 k3 k5 newId)) (hrest : rest.length ≤ sizeLine)
    (hq : R (.ok (.ret (.ref (h.objs.size + 1)))) ⟨(h.push (kdv_tup rest)).push (excO C h.objs.size), g, d, t, os⟩) :
    codeAny (model prog w) A (.builtin newId ⟨.ref C :: rest, kw⟩) R ⟨h, g, d, t, os⟩ := by
  have e0 := F.ends
  have c1 : (Value.ref C :: bm).contains (.type B) = true := by rw [List.contains_cons, hT, F.hasB, Bool.or_true]
  have c2 : (Value.ref C :: bm).contains (.type "AttributeError") = false := by rw [List.contains_cons, hT, F.noAttr]; rfl
  have c3 : (Value.ref C :: bm).contains (.type "NameError") = false := by rw [List.contains_cons, hT, F.noName]; rfl
  refine codeAny_builtinAt F.entry ?_
  unfold Builtin.«BaseException.__new__»
  refine wpAt_bind ?_
  show wpAt _ _ _ (stack >>= _) _ _ _
  refine wpAt_bind (wpAt_stack fun p below => wpAt_of_wpAny ?_)
  wp_walk
  refine wpAt_of_wpAny ?_
  rw [F.owner]
  repeat (first | with_reducible refine wpAny_madeHere_exc F.canon hC ?_ | with_reducible refine wpAny_loadPart_at hC ?_ | (with_reducible refine wpAny_isSubtype_exc hC ?_; first | rw [c1] | rw [c2] | rw [c3]) | wp_step)
  show R _ _
  rw [Heap.size_push]
  exact hq
theorem typeRun (F : ExcBaseFacts B newId initId bmB) (hT : ∀ Y : String, bm.contains (.type Y) = bmB.contains (.type Y)) {rest : List Value} {kw : List (Str × Value)} {fI : Value} {Q : Fin → Shared → Prop}
    (hC : h.get? C = some (excClassObj nm q C N bs bm hdct sn sub ab col dd k0 k1 k2 k3 k5 newId))
    (hi : Looks (model prog w) h (typeLookup (.ref C) "__init__") (some fI)) (hb : ∀ self, Looks (model prog w) h (bindSpecial fI self) (fI, [self])) (hrest : rest.length ≤ sizeLine)
    (hq : codeAny (model prog w) A (.call fI ⟨.ref (h.objs.size + 1) :: rest, kw⟩)
      (fun r s' => match r with | .ok (.ret v) => v = .none ∧ Q (.done (.ret (.ref (h.objs.size + 1)))) s' | .ok _ => False | .error e => E e s')
      ⟨(h.push (kdv_tup rest)).push (excO C h.objs.size), g, d, t, os⟩) :
    wpAny (model prog w) A (Builtin.«type.__call__» ⟨.ref C :: rest, kw⟩) Q E ⟨h, g, d, t, os⟩ := by
  repeat (first | with_reducible refine wpAny_loadPart_at hC ?_ | with_reducible refine wpAny_madeBy_exc hC ?_ | wp_step)
  refine codeAny_call_builtin_code (Code.quiet_builtin _ F.quiet) (newCheck F hT hC ?_)
  refine newDone F hT hC hrest ?_
  show wpAny _ _ _ _ _ _
  have k : ∀ b o, h.get? b = some o → ((h.push (kdv_tup rest)).push (excO C h.objs.size)).get? b = some o := fun b o e => Heap.get?_push_of_some _ (Heap.get?_push_of_some _ e)
  have hC1 := k _ _ hC
  have hget : ((h.push (kdv_tup rest)).push (excO C h.objs.size)).get? (h.objs.size + 1) = some (excO C h.objs.size) := by heap_get
  have cC : (Value.ref C :: bm).contains (.ref C) = true := by simp
  have i1 := hi.keeps k
  have b1 := (hb (.ref (h.objs.size + 1))).keeps k
  unfold isInstance
  repeat (first | with_reducible refine wpAny_loadPart_at hget ?_ | (with_reducible refine wpAny_isSubtype_exc hC1 ?_; rw [cC]) | wp_step)
  show wpAny _ _ (typeLookup (.ref C) _) _ _ _
  refine i1.at ?_
  refine wpAny_holding (wpAny_bind (b1.at ?_))
  refine wpAny_bind (wpAny_call (codeAny_mono hq fun r s' z => ?_))
  rcases r with e | (v | _ | _ | _) <;> first | exact z | exact z.elim | skip
  obtain ⟨rfl, z⟩ := z
  first
    | exact wpAny_pure (wpAny_pure z)
    | (wp_walk; exact z)
/-- C(.., k=..): the making, then the class's __init__ -/
theorem made (F : ExcBaseFacts B newId initId bmB) (hT : ∀ Y : String, bm.contains (.type Y) = bmB.contains (.type Y)) {rest : List Value} {kw : List (Str × Value)} {fI : Value}
    (hC : h.get? C = some (excClassObj nm q C N bs bm hdct sn sub ab col dd k0 k1 k2 k3 k5 newId))
    (hi : Looks (model prog w) h (typeLookup (.ref C) "__init__") (some fI)) (hb : ∀ self, Looks (model prog w) h (bindSpecial fI self) (fI, [self])) (hrest : rest.length ≤ sizeLine)
    (hq : codeAny (model prog w) (A.under (.builtin "type.__call__" ⟨.ref C :: rest, kw⟩)) (.call fI ⟨.ref (h.objs.size + 1) :: rest, kw⟩) (InitBack (h.objs.size + 1) R)
      ⟨(h.push (kdv_tup rest)).push (excO C h.objs.size), g, d, t, os⟩) :
    codeAny (model prog w) A (.call (.ref C) ⟨rest, kw⟩) R ⟨h, g, d, t, os⟩ := by
  have f1 := tc_lookup
  have f2 := tc_bind (.ref C)
  have hTy : (⟨h, g, d, t, os⟩ : Shared).TypeIs (.ref C) "type" := ⟨_, hC, rfl⟩
  refine codeAny_of_tree ?_
  show wpAny _ _ (callAny (.ref C) _) _ _ _
  repeat (any_goals (first | assumption | with_reducible refine wpAny_loadPart_at hC ?_ | wp_step))
  refine ⟨rfl, ?_⟩
  refine codeAny_call_builtin_at (Code.quiet_builtin _ (by decide +kernel)) entry_typeCall (typeCheck hC (typeRun F hT hC hi hb hrest ?_))
  refine codeAny_mono hq fun r s' z => ?_
  rcases r with e | (v | _ | _ | _) <;> exact z
end
end Xv
end PySem
end

section
set_option Elab.async false
set_option linter.all false
set_option maxRecDepth 100000
set_option maxHeartbeats 4000000
namespace PySem
namespace Xv
open PySem.W PySem.Calls PyProof.Rows PySem.HandSPX
open Builtin Builtin.ObjectAttr
section
variable {prog : Program} {w : World} {A : Around} {E : Value → Shared → Prop} {R : Result → Shared → Prop} {s : Shared} {K : Frag} {B : String} {bmB : List Value}
/-- an exception's object, its dict at dd -/
abbrev eO (C t : Addr) (dd : Option Addr) : Obj := { cls := .ref C, dict := dd, data := .fields #[.ref t, .none, .none, .none, .bool false, .none] }
theorem storeFirst {x C t1 : Addr} {name : Str} {tk : Tok} {v : Value} (SF : StoreFacts B bmB "object.__setattr__" "object") (X : K.In s.heap) (hx : s.heap.get? x = some (eO C t1 none))
    (hp : excOver K C bmB = true) (ht : takerIn K C name = some none) (hh : hasDictIn K C = true)
    (hq : ∀ h' tk' dx, (∀ b o, b ≠ x → s.heap.get? b = some o → h'.get? b = some o) → s.heap.objs.size ≤ dx → dx ≠ x → h'.get? x = some (eO C t1 (some dx)) →
      h'.Ns1 dx (fun y => if y = name then some v else none) → R (.ok (.ret .none)) { s with heap := h', toks := tk' }) :
    codeAny (model prog w) A (.call (.builtin "object.__setattr__") ⟨[.ref x, .str name tk, v], []⟩) R s := by
  refine osa_openX (od := none) SF X ⟨hx, rfl, rfl, trivial⟩ hp ht fun b => ?_
  obtain ⟨cd, hc, hd'⟩ := any_some hh
  have hxs : x < s.heap.objs.size := Heap.lt_size hx
  refine wpAny_bind (wpAny_pure (wpAny_bind (instanceDict_exc (c2 := .none) hx (looks_clsIn X hc) hd' ?_)))
  obtain ⟨hp0, g, d, t, os⟩ := s
  refine store_in_new ?_ fun h' tk' hn' hs => ?_
  · exact ⟨_, #[], _, (Heap.get?_update_ne _ _ _ _ (Nat.ne_of_gt hxs)).trans (Heap.get?_push_at rfl rfl), rfl, fun e he => absurd he (by simp), fun _ => rfl⟩
  · have hx1 : (hp0.push (dictOf [] 0)).get? x = some (eO C t1 none) := Heap.get?_push_of_some _ hx
    refine hq h' tk' hp0.objs.size (fun b o hb ho => ?_) (Nat.le_refl _) (Nat.ne_of_gt hxs) ?_ hn'
    · exact (hs.2 b (Nat.ne_of_lt (Heap.lt_size ho))).trans ((Heap.get?_update_ne _ _ _ _ hb).trans (Heap.get?_push_of_some _ ho))
    · exact (hs.2 x (Nat.ne_of_lt hxs)).trans (Heap.get?_update_self _ hx1 rfl)
theorem storeNext {x C t1 dx : Addr} {name : Str} {tk : Tok} {v : Value} {m0 : Str → Option Value} {nl : List Str} (SF : StoreFacts B bmB "object.__setattr__" "object") (X : K.In s.heap) (hx : s.heap.get? x = some (eO C t1 (some dx)))
    (hns : s.heap.Ns1 dx m0) (hw : Within m0 nl) (hz : nl.length ≤ 1000)
    (hp : excOver K C bmB = true) (ht : takerIn K C name = some none) (hh : hasDictIn K C = true)
    (hq : ∀ h' tk', (∀ b o, b ≠ dx → s.heap.get? b = some o → h'.get? b = some o) → h'.Ns1 dx (fun y => if y = name then some v else m0 y) → R (.ok (.ret .none)) { s with heap := h', toks := tk' }) :
    codeAny (model prog w) A (.call (.builtin "object.__setattr__") ⟨[.ref x, .str name tk, v], []⟩) R s := by
  obtain ⟨oD, esD, epD, hoD, hdD, _⟩ := hns.count hw
  refine osa_openX (od := some oD) SF X ⟨hx, rfl, rfl, hoD⟩ hp ht fun b => ?_
  obtain ⟨cd, hc, hd'⟩ := any_some hh
  refine wpAny_bind (wpAny_pure (wpAny_bind (wpAny_bind (wpAny_loadPart hx (wpAny_bind ((looks_clsIn X hc).here ?_))))))
  rw [hd']
  refine wpAny_pure (a := some dx) ?_
  obtain ⟨hp0, g, d, t, os⟩ := s
  exact OEX.store_in_old hns hw hz fun h' tk' hn' hs => hq h' tk' (fun b o hb ho => (hs.2 b hb).trans ho) hn'
end
end Xv
end PySem
end

section
set_option Elab.async false
set_option linter.all false
set_option maxRecDepth 100000
set_option maxHeartbeats 8000000
namespace PySem
namespace Xv
open PySem.W PySem.Calls PyProof.Rows PySem.HandSPX
/-! ### the text of __init__ with one field, with two -/
def a1 (f : Str) (p1 p2 : Pos) : Arguments := { posonlyargs := [], args := [{ arg := "self", annotation := none, pos := p1 }, { arg := f, annotation := none, pos := p2 }], vararg := none, kwonlyargs := [], kw_defaults := [], kwarg := none, defaults := [] }
def b1 (f : Str) (q1 q2 q3 q4 : Pos) : List Stmt := [.Assign [.Attribute (.Name "self" q1) f q2] (.Name f q3) q4]
def s1 (f : Str) : Scope := { kind := .function, names := [(PySem.Str.ofString "self", .local), (f, .local)], isGenerator := false, isCoroutine := false, more := [] }
def a2 (p1 p2 p3 : Pos) : Arguments := { posonlyargs := [], args := [{ arg := "self", annotation := none, pos := p1 }, { arg := "mode", annotation := none, pos := p2 }, { arg := "key", annotation := none, pos := p3 }], vararg := none, kwonlyargs := [], kw_defaults := [], kwarg := none, defaults := [] }
def b2 (q1 q2 q3 q4 r1 r2 r3 r4 : Pos) : List Stmt := [.Assign [.Attribute (.Name "self" q1) "mode" q2] (.Name "mode" q3) q4, .Assign [.Attribute (.Name "self" r1) "key" r2] (.Name "key" r3) r4]
def s2 : Scope := { kind := .function, names := [(PySem.Str.ofString "self", .local), (PySem.Str.ofString "mode", .local), (PySem.Str.ofString "key", .local)], isGenerator := false, isCoroutine := false, more := [] }
theorem ldL {M : Model} {s : Shared} {name : Str} {scope : Scope} {L a : Addr} {cd : Value} {m : Str → Option Value} {x : Str} {pos : Pos} {v : Value} {Q : Value → Shared → Prop} {A : Around} {E : Value → Shared → Prop} (hn : s.heap.Ns L m) (hv : m x = some v) (h : Q v s)
    (hk : scope.kind = .function := by rfl) (hl : (envOfC name scope L a cd).kindOf x = some .local := by rfl) (hd : (x == ("__debug__" : Str)) = false := by decide) :
    wpAny M A (eval (.Name x pos) (envOfC name scope L a cd)) Q E s := wpAny_Name (wpAny_loadName_local hk hl hn hv h) hd
def Field (f : Str) : Prop := f = "value" ∨ f = "field" ∨ f = "index" ∨ f = "limit" ∨ f = "key" ∨ f = "pressed"
/-- what the written part says of an own exception class at C over B, for storing -/
structure Sto (K : Frag) (C : Addr) (bmB : List Value) : Prop where
  sa : findIn K (.ref C) "__setattr__" = some (some (.builtin "object.__setattr__"))
  ov : excOver K C bmB = true
  hd : hasDictIn K C = true
section
variable {prog : Program} {w : World} {A : Around} {R : Result → Shared → Prop} {s : Shared} {K : Frag} {B : String} {bmB : List Value} {C fI x t0 : Addr}
theorem init1 {f qual : Str} {args : Args} {v oc doc pm cdv ct : Value} {od an : Option Addr} {osl : Array (Option Value)} {p1 p2 q1 q2 q3 q4 : Pos} (hf : Field f)
    (ho : K.lookup fI = some ⟨oc, od, .func (fnOf "__init__" qual (a1 f p1 p2) (b1 f q1 q2 q3 q4) (s1 f) .none .none doc pm an cdv ct), osl⟩) (hcd : codeIn K cdv qual = true)
    (hb : BindsTo s (fnOf "__init__" qual (a1 f p1 p2) (b1 f q1 q2 q3 q4) (s1 f) .none .none doc pm an cdv ct) args [("self", .ref x), (f, v)])
    (SF : StoreFacts B bmB "object.__setattr__" "object") (T : Sto K C bmB) (ht : takerIn K C f = some none)
    (X : K.In s.heap) (hlim : s.heap.NoLimit) (hx : s.heap.get? x = some (eO C t0 none)) (hroom : A.depth < recursionLimit)
    (hq : ∀ h' tk dx, (∀ b o, b ≠ x → s.heap.get? b = some o → h'.get? b = some o) → s.heap.objs.size ≤ dx → h'.get? x = some (eO C t0 (some dx)) → h'.Ns1 dx (fun y => if y = f then some v else none) →
      R (.ok (.ret .none)) { s with heap := h', toks := tk }) :
    codeAny (model prog w) A (.call (.ref fI) args) R s := by
  refine Att.call_fn (binds := [("self", .ref x), (f, v)]) X hlim ho hcd hroom hb ?_ (fun s₁ IC => ?_) rfl rfl rfl
  · rcases hf with rfl | rfl | rfl | rfl | rfl | rfl <;> first | rfl | decide | with_unfolding_all rfl
  obtain ⟨h₁, tk₁, rfl⟩ := IC.toInCall.same
  have k : ∀ b o, s.heap.get? b = some o → h₁.get? b = some o := IC.toInCall.keep
  have hn := IC.toInCall.ns
  have X₁ : K.In h₁ := X.keeps k
  have hx₁ := k _ _ hx
  have z : s.heap.objs.size < h₁.objs.size := hn.lt
  show wpAny _ _ (execs _ _) _ _ _
  refine wpAny_execs_cons (plainObj_wpAny_Assign_Attribute ?_)
  have fin : ∀ (A : Around) (E : Value → Shared → Prop) (Q : Unit → Shared → Prop), (∀ h' tk dx, (∀ b o, b ≠ x → s.heap.get? b = some o → h'.get? b = some o) → s.heap.objs.size ≤ dx → h'.get? x = some (eO C t0 (some dx)) → h'.Ns1 dx (fun y => if y = f then some v else none) →
      Q () { s with heap := h', toks := tk }) → wpAny (model prog w) A (setAttr (.ref x) f v) Q E { s with heap := h₁, toks := tk₁ } := fun A E Q hQ => by
    refine set_plain X₁ (ox := eO C t0 none) (od := none) ⟨hx₁, rfl, rfl, trivial⟩ T.sa ?_
    refine storeFirst SF X₁ hx₁ T.ov ht T.hd fun h₃ tk₃ dx k₃ dn dne hx₃ hn₃ => ?_
    exact hQ h₃ tk₃ dx (fun b o hb e => k₃ b o hb (k b o e)) (Nat.le_of_lt (Nat.lt_of_lt_of_le z dn)) hx₃ hn₃
  have e1 : (bindL (envOfC qual (s1 f) s.heap.objs.size fI cdv).kindOf [("self", Value.ref x), (f, v)] fun _ => none) f = some v := by
    rcases hf with rfl | rfl | rfl | rfl | rfl | rfl <;> first | rfl | with_unfolding_all rfl | kernel_rfl
  have e2 : (bindL (envOfC qual (s1 f) s.heap.objs.size fI cdv).kindOf [("self", Value.ref x), (f, v)] fun _ => none) "self" = some (.ref x) := by
    rcases hf with rfl | rfl | rfl | rfl | rfl | rfl <;> first | rfl | with_unfolding_all rfl | kernel_rfl
  refine ldL (v := v) hn e1 (ldL (v := .ref x) hn e2 ?_ rfl ?_) rfl ?_ ?_
  · refine fin _ _ _ fun h' tk dx k' dn hx' hn' => ?_
    show wpAny _ _ (execs _ _) _ _ _
    exact wpAny_execs_nil (hq h' tk dx k' dn hx' hn')
  · rcases hf with rfl | rfl | rfl | rfl | rfl | rfl <;> rfl
  · rcases hf with rfl | rfl | rfl | rfl | rfl | rfl <;> rfl
  · rcases hf with rfl | rfl | rfl | rfl | rfl | rfl <;> decide
end
end Xv
end PySem
end

section
set_option Elab.async false
set_option linter.all false
set_option maxRecDepth 100000
set_option maxHeartbeats 8000000
namespace PySem
namespace Xv
open PySem.W PySem.Calls PyProof.Rows PySem.HandSPX
theorem two_in (v1 v2 : Value) : Within (fun y => if y = ("mode" : Str) then some v1 else none) ["mode"] := fun y h => by
  by_cases e : y = ("mode" : Str)
  · rw [e]; simp
  · exact absurd (if_neg e) h
section
variable {prog : Program} {w : World} {A : Around} {R : Result → Shared → Prop} {s : Shared} {K : Frag} {B : String} {bmB : List Value} {C fI x t0 : Addr}
def two (v1 v2 : Value) : Str → Option Value := fun y => if y = "key" then some v2 else if y = "mode" then some v1 else none
theorem init2 {qual : Str} {args : Args} {v1 v2 oc doc pm cdv ct : Value} {od an : Option Addr} {osl : Array (Option Value)} {p1 p2 p3 q1 q2 q3 q4 r1 r2 r3 r4 : Pos}
    (ho : K.lookup fI = some ⟨oc, od, .func (fnOf "__init__" qual (a2 p1 p2 p3) (b2 q1 q2 q3 q4 r1 r2 r3 r4) s2 .none .none doc pm an cdv ct), osl⟩) (hcd : codeIn K cdv qual = true)
    (hb : BindsTo s (fnOf "__init__" qual (a2 p1 p2 p3) (b2 q1 q2 q3 q4 r1 r2 r3 r4) s2 .none .none doc pm an cdv ct) args [("self", .ref x), ("mode", v1), ("key", v2)])
    (SF : StoreFacts B bmB "object.__setattr__" "object") (T : Sto K C bmB) (ht1 : takerIn K C "mode" = some none) (ht2 : takerIn K C "key" = some none)
    (X : K.In s.heap) (hlim : s.heap.NoLimit) (hx : s.heap.get? x = some (eO C t0 none)) (hnx : K.lookup x = none) (hroom : A.depth < recursionLimit)
    (hq : ∀ h' tk dx, (∀ b o, b ≠ x → s.heap.get? b = some o → h'.get? b = some o) → s.heap.objs.size ≤ dx → h'.get? x = some (eO C t0 (some dx)) → h'.Ns1 dx (two v1 v2) →
      R (.ok (.ret .none)) { s with heap := h', toks := tk }) :
    codeAny (model prog w) A (.call (.ref fI) args) R s := by
  refine Att.call_fn (binds := [("self", .ref x), ("mode", v1), ("key", v2)]) X hlim ho hcd hroom hb (by first | rfl | decide | with_unfolding_all rfl) (fun s₁ IC => ?_) rfl rfl rfl
  obtain ⟨h₁, tk₁, rfl⟩ := IC.toInCall.same
  have k : ∀ b o, s.heap.get? b = some o → h₁.get? b = some o := IC.toInCall.keep
  have hn := IC.toInCall.ns
  have X₁ : K.In h₁ := X.keeps k
  have hx₁ := k _ _ hx
  have z : s.heap.objs.size < h₁.objs.size := hn.lt
  have hxz : s.heap.objs.size ≠ x := Nat.ne_of_gt (Heap.lt_size hx)
  show wpAny _ _ (execs _ _) _ _ _
  refine wpAny_execs_cons (plainObj_wpAny_Assign_Attribute ?_)
  refine ldL (v := v1) hn (by first | rfl | with_unfolding_all rfl | kernel_rfl) (ldL (v := .ref x) hn (by first | rfl | with_unfolding_all rfl | kernel_rfl) ?_)
  refine set_plain X₁ (ox := eO C t0 none) (od := none) ⟨hx₁, rfl, rfl, trivial⟩ T.sa ?_
  refine storeFirst SF X₁ hx₁ T.ov ht1 T.hd fun h₃ tk₃ dx k₃ dn dne hx₃ hn₃ => ?_
  have X₃ : K.In h₃ := fun a o e => k₃ a o (fun q => by rw [q, hnx] at e; cases e) (X₁ a o e)
  have hn3 := hn.at (h' := h₃) fun o e => k₃ _ o hxz e
  have dz : s.heap.objs.size < dx := Nat.lt_of_lt_of_le z dn
  obtain ⟨oD, _, _, hoD, _⟩ := id hn₃
  show wpAny _ _ (execs _ _) _ _ _
  refine wpAny_execs_cons (plainObj_wpAny_Assign_Attribute ?_)
  refine ldL (v := v2) hn3 (by first | rfl | with_unfolding_all rfl | kernel_rfl) (ldL (v := .ref x) hn3 (by first | rfl | with_unfolding_all rfl | kernel_rfl) ?_)
  refine set_plain X₃ (ox := eO C t0 (some dx)) (od := some oD) ⟨hx₃, rfl, rfl, hoD⟩ T.sa ?_
  refine storeNext (nl := ["mode"]) SF X₃ hx₃ hn₃ (two_in v1 v2) (by decide) T.ov ht2 T.hd fun h₄ tk₄ k₄ hn₄ => ?_
  show wpAny _ _ (execs _ _) _ _ _
  refine wpAny_execs_nil (hq h₄ tk₄ dx (fun b o hb e => k₄ b o (Nat.ne_of_lt (Nat.lt_trans (Heap.lt_size e) dz)) (k₃ b o hb (k b o e))) (Nat.le_of_lt dz) (k₄ _ _ dne.symm hx₃) hn₄)
end
end Xv
end PySem
end

section
set_option Elab.async false
set_option linter.all false
set_option maxRecDepth 100000
set_option maxHeartbeats 8000000
namespace L2
open PySem PySem.Spec PyProof.Rows
/-! ### two new objects at once -/
section
variable {X : Cx} {pins : List (Addr × Obj)} {σ : St} {H : Hp} {s : Shared}
theorem Inv.two {h' : Heap} {d a : Addr} {o1 o2 : HO} {t' : Nat} (I : Inv X pins σ H s) (k : ∀ b u, s.heap.get? b = some u → h'.get? b = some u) (hd : s.heap.objs.size ≤ d) (ha : s.heap.objs.size ≤ a) (ne : d ≠ a)
    (n1 : ObjOk X.prog X.w (upd (upd H d o1) a o2) h' d o1) (n2 : ObjOk X.prog X.w (upd (upd H d o1) a o2) h' a o2) : Inv X pins σ (upd (upd H d o1) a o2) { s with heap := h', toks := t' } := by
  have fd := I.hok.fresh hd
  have fa := I.hok.fresh ha
  have od : ∀ {b : Addr} {u : Obj}, s.heap.get? b = some u → b ≠ d := fun q => Nat.ne_of_lt (Nat.lt_of_lt_of_le (Heap.lt_size q) hd)
  have oa : ∀ {b : Addr} {u : Obj}, s.heap.get? b = some u → b ≠ a := fun q => Nat.ne_of_lt (Nat.lt_of_lt_of_le (Heap.lt_size q) ha)
  have up : ∀ {b : Addr} {o : HO}, H b = some o → upd (upd H d o1) a o2 b = some o := fun q => by
    rw [upd_ne (ne_of_none q fa), upd_ne (ne_of_none q fd)]
    exact q
  refine I.un (t' := t') { keep := fun b u q _ _ _ => k b u q, slot := fun b u q _ _ _ => ⟨u.slots, k b u q⟩, free := fun b u q n _ => ?_, there := fun b u q _ => ⟨u, k b u q⟩, tups := fun b xs q => up q, frzs := fun b o xs q => up q, tbls := fun b ps q => ⟨#[], by rw [up q]; simp⟩ } fun b o q => ?_
  · rw [upd_ne (oa q), upd_ne (od q)]
    exact n
  · by_cases ea : b = a
    · rw [ea, upd_same] at q
      cases q
      rw [ea]
      exact n2
    · rw [upd_ne ea] at q
      by_cases ed : b = d
      · rw [ed, upd_same] at q
        cases q
        rw [ed]
        exact n1
      · rw [upd_ne ed] at q
        exact (I.hok b o q).stay (fun c u _ r => k c u r) (fun c r => up r) fun c xs r => up r
end
/-- what the written part says of an own exception class at C -/
structure Exk (K : PySem.W.Frag) (C : Addr) (bmB : List Value) (newId : String) : Prop where
  sto : PySem.Xv.Sto K C bmB
  ga : PySem.W.findIn K (.ref C) "__getattribute__" = some (some (.builtin "BaseException.__getattribute__"))
  gg : PySem.W.findIn K (.ref C) "__getattr__" = some none
  sub : PySem.W.subIn K (.ref C) (.type "BaseException") = some true
  cl : PySem.W.findIn K (.ref C) "__class__" = some (some (.builtin "object.__class__"))
  sg : PySem.W.specialIn K (.builtin "object.__class__") "__get__" = some (some (.builtin "getset_descriptor.__get__"))
  tk : PySem.W.takesIn K (.builtin "object.__class__") = some true
  mr : PySem.W.mroIn K C (.type "object") = some true
  cs : (PySem.W.clsIn K C).isSome = true
  kC : PySem.W.keepIn K (.ref C) = true
  ini : PySem.W.excInitIn K C bmB newId = true
/-- one built-in base -/
structure Bas (B newId initId : String) (bmB : List Value) : Prop where
  f : ExcBaseFacts B newId initId bmB
  s : StoreFacts B bmB "object.__setattr__" "object"
/-- a class with one field -/
structure One (K : PySem.W.Frag) (C : Addr) (bmB : List Value) (newId : String) (f : Str) : Prop where
  ex : Exk K C bmB newId
  ff : PySem.Xv.Field f
  no : PySem.W.findIn K (.ref C) f = some none
  tk : PySem.W.takerIn K C f = some none
  ini : ∃ (fI : Addr) (qual : Str) (oc doc pm cdv ct : Value) (od an : Option Addr) (osl : Array (Option Value)) (p1 p2 q1 q2 q3 q4 : Pos), PySem.W.findIn K (.ref C) "__init__" = some (some (.ref fI)) ∧ PySem.W.typeIn K (.ref fI) = some (.type "function") ∧
    K.lookup fI = some ⟨oc, od, .func (PySem.W.fnOf "__init__" qual (PySem.Xv.a1 f p1 p2) (PySem.Xv.b1 f q1 q2 q3 q4) (PySem.Xv.s1 f) .none .none doc pm an cdv ct), osl⟩ ∧ PySem.W.codeIn K cdv qual = true
structure Two (K : PySem.W.Frag) (C : Addr) (bmB : List Value) (newId : String) : Prop where
  ex : Exk K C bmB newId
  no1 : PySem.W.findIn K (.ref C) "mode" = some none
  tk1 : PySem.W.takerIn K C "mode" = some none
  no2 : PySem.W.findIn K (.ref C) "key" = some none
  tk2 : PySem.W.takerIn K C "key" = some none
  ini : ∃ (fI : Addr) (qual : Str) (oc doc pm cdv ct : Value) (od an : Option Addr) (osl : Array (Option Value)) (p1 p2 p3 q1 q2 q3 q4 r1 r2 r3 r4 : Pos), PySem.W.findIn K (.ref C) "__init__" = some (some (.ref fI)) ∧ PySem.W.typeIn K (.ref fI) = some (.type "function") ∧
    K.lookup fI = some ⟨oc, od, .func (PySem.W.fnOf "__init__" qual (PySem.Xv.a2 p1 p2 p3) (PySem.Xv.b2 q1 q2 q3 q4 r1 r2 r3 r4) PySem.Xv.s2 .none .none doc pm an cdv ct), osl⟩ ∧ PySem.W.codeIn K cdv qual = true
theorem relOne {v : V} {v' : Value} (r : RelV v v') (f g : Str) : RelO (List.lookup g [(f, v)]) (if g = f then some v' else none) := by
  by_cases e : g = f
  · subst e
    rw [if_pos rfl]
    have q : List.lookup g [(g, v)] = some v := by simp [List.lookup]
    rw [q]
    exact r
  · rw [if_neg e]
    have q : (g == f) = false := by simpa using e
    simp [List.lookup, q, RelO]
section
variable {X : Cx} {pins : List (Addr × Obj)} {σ : St} {H : Hp} {s : Shared} {C : Addr} {B newId initId : String} {bmB : List Value} {f : Str}
/-- C(y), C(f=y) -/
theorem run_one {rest : List Value} {kw : List (Str × Value)} {y : V} {u : Value} {Q : VK} (D : Bas B newId initId bmB) (T : One X.K C bmB newId f) (hr : Room 1 X.A) (I : Inv X pins σ H s) (ry : RelV y u)
    (ha : (rest = [u] ∧ kw = []) ∨ (rest = [] ∧ kw = [(f, u)])) (h : ∀ a d, H a = none → H d = none → d ≠ a → Q (.ref a) (upd (upd H d (exd d [(f, y)])) a (exo a C (some d)))) :
    wpAny (model X.prog X.w) X.A (call (.ref C) rest kw) (EP X pins σ Q) X.xe s := by
  obtain ⟨nm, N, qn, bs, bm, hdct, sn, sub, ab, col, dd, k0, k1, k2, k3, k5, hC, hT⟩ := PySem.W.excInit_of I.kIn T.ex.ini
  obtain ⟨fI, qual, oc, doc, pm, cdv, ct, od, an, osl, p1, p2, q1, q2, q3, q4, iC, tI, ho, hcd⟩ := T.ini
  have hlim := I.nolimit
  obtain ⟨hp, g, dr, tk, os⟩ := s
  have k : ∀ b o, hp.get? b = some o → ((hp.push (PySem.W.kdv_tup rest)).push (PySem.HandSPX.excO C hp.objs.size)).get? b = some o := fun b o e => Heap.get?_push_of_some _ (Heap.get?_push_of_some _ e)
  have hget : ((hp.push (PySem.W.kdv_tup rest)).push (PySem.HandSPX.excO C hp.objs.size)).get? (hp.objs.size + 1) = some (PySem.HandSPX.excO C hp.objs.size) := by heap_get
  have hl : rest.length ≤ sizeLine := by
    rcases ha with ⟨rfl, _⟩ | ⟨rfl, _⟩ <;> · rw [sizeLine_eq]; simp
  refine wpAny_call (PySem.Xv.made D.f hT hC (PySem.W.looks_findIn I.kIn iC) (fun self => PySem.W.bind_fn I.kIn self tI) hl ?_)
  refine PySem.Xv.init1 (x := hp.objs.size + 1) (t0 := hp.objs.size) (v := u) T.ff ho hcd ?_ D.s T.ex.sto T.tk (I.kIn.keeps k) (hlim.keeps k) hget ?_ fun h' tk' dx k' dn hx hns => ?_
  · rcases ha with ⟨rfl, rfl⟩ | ⟨rfl, rfl⟩ <;> rcases T.ff with rfl | rfl | rfl | rfl | rfl | rfl <;> exact .of_eq (by first | rfl | with_unfolding_all rfl)
  · rw [show (X.A.under _).depth = X.A.depth + 1 from by first | rfl | simp [Around.under, Code.weight, Code.isCreation, Code.isGuard, Code.isCaller, Code.frames, Code.isFrame, guardIds]]
    have := hr.dp
    omega
  · refine ⟨rfl, ?_⟩
    have sz : hp.objs.size + 1 + 1 ≤ dx := by
      have z := dn
      simpa only [Heap.size_push] using z
    have J := I.two (t' := tk') (d := dx) (a := hp.objs.size + 1) (o1 := exd dx [(f, y)]) (o2 := exo (hp.objs.size + 1) C (some dx)) (h' := h') (fun b o e => k' b o (Nat.ne_of_lt (Nat.lt_succ_of_lt (Heap.lt_size e))) (k b o e))
      (Nat.le_trans (Nat.le_trans (Nat.le_succ _) (Nat.le_succ _)) sz) (Nat.le_succ _) (Nat.ne_of_gt sz) (exd_ok hns (relOne ry f)) (exo_ok hx)
    exact ⟨.ref (hp.objs.size + 1), _, J, rfl, h _ _ (I.hok.fresh (Nat.le_succ _)) (I.hok.fresh (Nat.le_trans (Nat.le_trans (Nat.le_succ _) (Nat.le_succ _)) sz)) (Nat.ne_of_gt sz)⟩
end
end L2
end

section
set_option Elab.async false
set_option linter.all false
set_option maxRecDepth 100000
set_option maxHeartbeats 8000000
namespace L2
open PySem PySem.Spec PyProof.Rows
/-- a class without __init__ -/
structure Zero (K : PySem.W.Frag) (C : Addr) (bmB : List Value) (newId initId : String) : Prop where
  ex : Exk K C bmB newId
  ini : PySem.W.findIn K (.ref C) "__init__" = some (some (.builtin initId))
theorem relTwo {v1 v2 : V} {u1 u2 : Value} (r1 : RelV v1 u1) (r2 : RelV v2 u2) (g : Str) : RelO (List.lookup g [(("key" : Str), v2), ("mode", v1)]) (PySem.Xv.two u1 u2 g) := by
  unfold PySem.Xv.two
  rw [lookup_put]
  by_cases e : g = "key"
  · rw [if_pos e, if_pos e]
    exact r2
  · rw [if_neg e, if_neg e]
    exact relOne r1 "mode" g
theorem under_depth {A : Around} {C : Addr} {us : List Value} {kw : List (Str × Value)} : (A.under (.builtin "type.__call__" ⟨.ref C :: us, kw⟩)).depth = A.depth + 1 := by
  first | rfl | simp [Around.under, Code.weight, Code.isCreation, Code.isGuard, Code.isCaller, Code.frames, Code.isFrame, guardIds]
section
variable {X : Cx} {pins : List (Addr × Obj)} {σ : St} {H : Hp} {s : Shared} {C : Addr} {B newId initId : String} {bmB : List Value} {f : Str}
/-- C(y, z), C(key=z, mode=y) -/
theorem run_two {rest : List Value} {kw : List (Str × Value)} {y z : V} {u v : Value} {Q : VK} (D : Bas B newId initId bmB) (T : Two X.K C bmB newId) (hr : Room 1 X.A) (I : Inv X pins σ H s) (ry : RelV y u) (rz : RelV z v)
    (ha : (rest = [u, v] ∧ kw = []) ∨ (rest = [] ∧ kw = [(("key" : Str), v), (("mode" : Str), u)])) (h : ∀ a d, H a = none → H d = none → d ≠ a → Q (.ref a) (upd (upd H d (exd d [("key", z), ("mode", y)])) a (exo a C (some d)))) :
    wpAny (model X.prog X.w) X.A (call (.ref C) rest kw) (EP X pins σ Q) X.xe s := by
  obtain ⟨nm, N, qn, bs, bm, hdct, sn, sub, ab, col, dd, k0, k1, k2, k3, k5, hC, hT⟩ := PySem.W.excInit_of I.kIn T.ex.ini
  obtain ⟨fI, qual, oc, doc, pm, cdv, ct, od, an, osl, p1, p2, p3, q1, q2, q3, q4, r1, r2, r3, r4, iC, tI, ho, hcd⟩ := T.ini
  have hlim := I.nolimit
  obtain ⟨hp, g, dr, tk, os⟩ := s
  have k : ∀ b o, hp.get? b = some o → ((hp.push (PySem.W.kdv_tup rest)).push (PySem.HandSPX.excO C hp.objs.size)).get? b = some o := fun b o e => Heap.get?_push_of_some _ (Heap.get?_push_of_some _ e)
  have hget : ((hp.push (PySem.W.kdv_tup rest)).push (PySem.HandSPX.excO C hp.objs.size)).get? (hp.objs.size + 1) = some (PySem.HandSPX.excO C hp.objs.size) := by heap_get
  have hl : rest.length ≤ sizeLine := by
    rcases ha with ⟨rfl, _⟩ | ⟨rfl, _⟩ <;> · rw [sizeLine_eq]; simp
  have hnx : X.K.lookup (hp.objs.size + 1) = none := by
    cases e : X.K.lookup (hp.objs.size + 1) with
    | none => rfl
    | some o => exact absurd (Nat.lt_of_succ_lt (Heap.lt_size (I.kIn _ _ e))) (Nat.lt_irrefl _)
  refine wpAny_call (PySem.Xv.made D.f hT hC (PySem.W.looks_findIn I.kIn iC) (fun self => PySem.W.bind_fn I.kIn self tI) hl ?_)
  refine PySem.Xv.init2 (x := hp.objs.size + 1) (t0 := hp.objs.size) (v1 := u) (v2 := v) ho hcd ?_ D.s T.ex.sto T.tk1 T.tk2 (I.kIn.keeps k) (hlim.keeps k) hget hnx ?_ fun h' tk' dx k' dn hx hns => ?_
  · rcases ha with ⟨rfl, rfl⟩ | ⟨rfl, rfl⟩ <;> exact .of_eq (by first | rfl | with_unfolding_all rfl)
  · rw [under_depth]
    have := hr.dp
    omega
  · refine ⟨rfl, ?_⟩
    have sz : hp.objs.size + 1 + 1 ≤ dx := by
      have z := dn
      simpa only [Heap.size_push] using z
    have J := I.two (t' := tk') (d := dx) (a := hp.objs.size + 1) (o1 := exd dx [("key", z), ("mode", y)]) (o2 := exo (hp.objs.size + 1) C (some dx)) (h' := h') (fun b o e => k' b o (Nat.ne_of_lt (Nat.lt_succ_of_lt (Heap.lt_size e))) (k b o e))
      (Nat.le_trans (Nat.le_trans (Nat.le_succ _) (Nat.le_succ _)) sz) (Nat.le_succ _) (Nat.ne_of_gt sz) (exd_ok hns (relTwo ry rz)) (exo_ok hx)
    exact ⟨.ref (hp.objs.size + 1), _, J, rfl, h _ _ (I.hok.fresh (Nat.le_succ _)) (I.hok.fresh (Nat.le_trans (Nat.le_trans (Nat.le_succ _) (Nat.le_succ _)) sz)) (Nat.ne_of_gt sz)⟩
/-- C() -/
theorem run_zero {Q : VK} (D : Bas B newId initId bmB) (T : Zero X.K C bmB newId initId) (I : Inv X pins σ H s) (h : ∀ a, H a = none → Q (.ref a) (upd H a (exo a C none))) :
    wpAny (model X.prog X.w) X.A (call (.ref C) [] []) (EP X pins σ Q) X.xe s := by
  obtain ⟨nm, N, qn, bs, bm, hdct, sn, sub, ab, col, dd, k0, k1, k2, k3, k5, hC, hT⟩ := PySem.W.excInit_of I.kIn T.ex.ini
  obtain ⟨hp, g, dr, tk, os⟩ := s
  have k : ∀ b o, hp.get? b = some o → ((hp.push (PySem.W.kdv_tup [])).push (PySem.HandSPX.excO C hp.objs.size)).get? b = some o := fun b o e => Heap.get?_push_of_some _ (Heap.get?_push_of_some _ e)
  have hget : ((hp.push (PySem.W.kdv_tup [])).push (PySem.HandSPX.excO C hp.objs.size)).get? (hp.objs.size + 1) = some (PySem.HandSPX.excO C hp.objs.size) := by heap_get
  refine wpAny_call (PySem.Xv.made D.f hT hC (PySem.W.looks_findIn I.kIn T.ini) (fun self => by rw [D.f.init.bind self]; exact .now) (Nat.zero_le _) ?_)
  refine PySem.HandSPX.init_base D.f hT (k _ _ hC) hget (Nat.zero_le _) fun h' t1 k' hx => ?_
  refine ⟨rfl, ?_⟩
  have J := I.laid (t' := tk) (a := hp.objs.size + 1) (o := exo (hp.objs.size + 1) C none) (h' := h') (fun b o e => k' b o (Nat.ne_of_lt (Nat.lt_succ_of_lt (Heap.lt_size e))) (k b o e)) (Nat.le_succ _) (exo_ok hx)
  exact ⟨.ref (hp.objs.size + 1), _, J, rfl, h _ (I.hok.fresh (Nat.le_succ _))⟩
end
/-! ### the readings and the rules -/
def tMk1 (C : Addr) (f : Str) (ta : TA) : TE := fun σ H Q => ta σ H fun vs H1 => ∃ y, vs = [y] ∧ ∀ a d, H1 a = none → H1 d = none → d ≠ a → Q (.ref a) (upd (upd H1 d (exd d [(f, y)])) a (exo a C (some d)))
def tMk2 (C : Addr) (ta : TA) : TE := fun σ H Q => ta σ H fun vs H1 => ∃ y z, vs = [y, z] ∧ ∀ a d, H1 a = none → H1 d = none → d ≠ a → Q (.ref a) (upd (upd H1 d (exd d [("key", z), ("mode", y)])) a (exo a C (some d)))
def tMk2k (C : Addr) (ta : TA) : TE := fun σ H Q => ta σ H fun vs H1 => ∃ y z, vs = [z, y] ∧ ∀ a d, H1 a = none → H1 d = none → d ≠ a → Q (.ref a) (upd (upd H1 d (exd d [("key", z), ("mode", y)])) a (exo a C (some d)))
def tMk0 (C : Addr) : TE := fun σ H Q => ∀ a, H a = none → Q (.ref a) (upd H a (exo a C none))
section
variable {X : Cx} {C : Addr} {B newId initId : String} {bmB : List Value} {f x : Str} {e : Expr} {es : List Expr} {kws : List Keyword} {ta : TA} {p pos : Pos}
theorem pe_mk1 (D : Bas B newId initId bmB) (T : One X.K C bmB newId f) (hr : Room 1 X.A) (hm : X.mg x = some (.ref C)) (ha : PA X [e] ta) (hg : Gl X x := by rfl) (hdb : (x == ("__debug__" : Str)) = false := by decide)
    (he : starEach (e :: []) X.env = (false, eval e X.env) :: starEach [] X.env := by rfl) (hpl : (backTo pos (starEach [] X.env)).any (·.1) = false := by rfl) :
    PE X (.Call (.Name x p) [e] [] pos) (tMk1 C f ta) := by
  refine ⟨fun pins s σ H Q I h => ?_⟩
  refine wpAny_Call_Name_kw (ld_glob I hg hm ?_ hdb)
  refine PySem.W.callWith_K (h₀ := X.base) I.ok.mod.kin T.ex.kC (thn (ha.run pos pins s σ H _ I h) fun us s1 ⟨vs, H1, I1, r, y, ev, q⟩ => ⟨I1.kIn, ?_⟩) he hpl
  subst ev
  obtain ⟨u, rfl, ru⟩ := vals1 r
  exact run_one D T hr I1 ru (.inl ⟨rfl, rfl⟩) q
theorem pe_mk1k (D : Bas B newId initId bmB) (T : One X.K C bmB newId f) (hr : Room 1 X.A) (hm : X.mg x = some (.ref C)) (hkw : PK X kws ta) (hg : Gl X x := by rfl) (hdb : (x == ("__debug__" : Str)) = false := by decide)
    (hall : (backToKw pos (keywordEach kws X.env)).all (·.1.isSome) = true := by rfl) (hks : (backToKw pos (keywordEach kws X.env)).filterMap (·.1) = [f] := by rfl)
    (hpl : ((backTo pos (starEach [] X.env)).any (·.1) || (backToKw pos (keywordEach kws X.env)).any (·.1.isNone)) = false := by rfl) :
    PE X (.Call (.Name x p) [] kws pos) (tMk1 C f ta) := by
  refine ⟨fun pins s σ H Q I h => ?_⟩
  refine wpAny_Call_Name_kw (ld_glob I hg hm ?_ hdb)
  refine PySem.W.callWith_KW0 (h₀ := X.base) I.ok.mod.kin T.ex.kC hall (thn (hkw.run pos pins s σ H _ I h) fun us s1 ⟨vs, H1, I1, r, y, ev, q⟩ => ⟨I1.kIn, ?_⟩) hpl
  rw [hks]
  subst ev
  obtain ⟨u, rfl, ru⟩ := vals1 r
  exact run_one D T hr I1 ru (.inr ⟨rfl, rfl⟩) q
theorem pe_mk2 (D : Bas B newId initId bmB) (T : Two X.K C bmB newId) (hr : Room 1 X.A) (hm : X.mg x = some (.ref C)) (ha : PA X (e :: es) ta) (hg : Gl X x := by rfl) (hdb : (x == ("__debug__" : Str)) = false := by decide)
    (he : starEach (e :: es) X.env = (false, eval e X.env) :: starEach es X.env := by rfl) (hpl : (backTo pos (starEach es X.env)).any (·.1) = false := by rfl) :
    PE X (.Call (.Name x p) (e :: es) [] pos) (tMk2 C ta) := by
  refine ⟨fun pins s σ H Q I h => ?_⟩
  refine wpAny_Call_Name_kw (ld_glob I hg hm ?_ hdb)
  refine PySem.W.callWith_K (h₀ := X.base) I.ok.mod.kin T.ex.kC (thn (ha.run pos pins s σ H _ I h) fun us s1 ⟨vs, H1, I1, r, y, z, ev, q⟩ => ⟨I1.kIn, ?_⟩) he hpl
  subst ev
  obtain ⟨u, v, rfl, ru, rv⟩ := vals2 r
  exact run_two D T hr I1 ru rv (.inl ⟨rfl, rfl⟩) q
theorem pe_mk2k (D : Bas B newId initId bmB) (T : Two X.K C bmB newId) (hr : Room 1 X.A) (hm : X.mg x = some (.ref C)) (hkw : PK X kws ta) (hg : Gl X x := by rfl) (hdb : (x == ("__debug__" : Str)) = false := by decide)
    (hall : (backToKw pos (keywordEach kws X.env)).all (·.1.isSome) = true := by rfl) (hks : (backToKw pos (keywordEach kws X.env)).filterMap (·.1) = [("key" : Str), "mode"] := by rfl)
    (hpl : ((backTo pos (starEach [] X.env)).any (·.1) || (backToKw pos (keywordEach kws X.env)).any (·.1.isNone)) = false := by rfl) :
    PE X (.Call (.Name x p) [] kws pos) (tMk2k C ta) := by
  refine ⟨fun pins s σ H Q I h => ?_⟩
  refine wpAny_Call_Name_kw (ld_glob I hg hm ?_ hdb)
  refine PySem.W.callWith_KW0 (h₀ := X.base) I.ok.mod.kin T.ex.kC hall (thn (hkw.run pos pins s σ H _ I h) fun us s1 ⟨vs, H1, I1, r, y, z, ev, q⟩ => ⟨I1.kIn, ?_⟩) hpl
  rw [hks]
  subst ev
  obtain ⟨u, v, rfl, ru, rv⟩ := vals2 r
  exact run_two D T hr I1 rv ru (.inr ⟨rfl, rfl⟩) q
theorem pe_mk0 (D : Bas B newId initId bmB) (T : Zero X.K C bmB newId initId) (hm : X.mg x = some (.ref C)) (hg : Gl X x := by rfl) (hdb : (x == ("__debug__" : Str)) = false := by decide) :
    PE X (.Call (.Name x p) [] [] pos) (tMk0 C) := by
  refine ⟨fun pins s σ H Q I h => ?_⟩
  refine wpAny_Call_Name_kw (ld_glob I hg hm ?_ hdb)
  exact PySem.W.callWith_K0 I.kIn T.ex.kC (run_zero D T I h)
end
/-! ### a field read; isinstance -/
def tFx (K : PySem.W.Frag) (f : Str) (te : TE) : TE := fun σ H Q => te σ H fun x H1 => ∃ (a C d : Addr) (bmB : List Value) (newId : String) (fs : List (Str × V)) (v : V), x = .ref a ∧ Exk K C bmB newId ∧ PySem.W.findIn K (.ref C) f = some none ∧ H1 a = some (exo a C (some d)) ∧ H1 d = some (exd d fs) ∧ fs.lookup f = some v ∧ Q v H1
section
variable {X : Cx} {e : Expr} {te : TE} {f : Str} {pos : Pos}
theorem pe_fx (he : PE X e te) (hb : attributeBase e f X.env (eval e X.env) = eval e X.env := by rfl) : PE X (.Attribute e f pos) (tFx X.K f te) := by
  refine ⟨fun pins s σ H Q I h => ?_⟩
  refine attr_of hb (thn (he.run pins s σ H _ I h) fun u s1 ⟨x, H1, I1, rx, a, C, d, bmB, newId, fs, v, ex, T, no, ea, ed, l, q⟩ => ?_)
  subst ex
  obtain rfl : u = Value.ref a := rx
  obtain ⟨t1, ho⟩ := exo_at I1.hok ea
  obtain ⟨mA, hns, rel⟩ := exd_at I1.hok ed
  obtain ⟨od, hod, hl⟩ := lookIn_ns hns
  obtain ⟨w', hw, rw'⟩ := RelO.some_of (v := v) (o := mA f) (by rw [← l]; exact rel f)
  have J : PySem.W.InstAt s1.heap a _ C (some od) := ⟨ho, rfl, rfl, hod⟩
  exact PySem.HandSPX.exc_get I1.kIn J T.ga T.gg T.sub (PySem.W.findObj_own T.sto.hd no rfl (by rw [hl, hw])) (handed_of rw') ⟨v, H1, I1.tok _, rw', q⟩
/-- isinstance(e, c), e an exception of an own class -/
def rIsX (K : PySem.W.Frag) : List V → Hp → VK → Prop := fun xs H Q => ∃ (a C : Addr) (d : Option Addr) (fs : List (Str × V)) (bmB : List Value) (newId : String) (c : V) (u : Value) (b : Bool), xs = [.ref a, c] ∧ Exk K C bmB newId ∧ H a = some (exo a C d) ∧ (∀ dd, d = some dd → H dd = some (exd dd fs)) ∧ ClsV c u ∧ PySem.W.kitOne K (.ref C) u = some b ∧ Q (.bl b) H
theorem call_isX : CallR X (.builtin "isinstance") (rIsX X.K) := by
  intro pins s σ H xs us Q I r h
  obtain ⟨a, C, d, fs, bmB, newId, c, u, b, rfl, T, ea, ed, k, e, q⟩ := h
  obtain ⟨u1, u2, rfl, r1, r2⟩ := vals2 r
  have e2 := k.eq r2
  subst e2
  obtain rfl : u1 = Value.ref a := r1
  obtain ⟨t1, ho⟩ := exo_at I.hok ea
  have J : ∃ od, PySem.W.InstAt s.heap a { cls := .ref C, dict := d, data := .fields #[.ref t1, .none, .none, .none, .bool false, .none] } C od := by
    cases d with
    | none => exact ⟨none, ho, rfl, rfl, trivial⟩
    | some dd =>
      obtain ⟨mA, hns, rel⟩ := exd_at I.hok (ed dd rfl)
      obtain ⟨od, hod, hl⟩ := lookIn_ns hns
      exact ⟨some od, ho, rfl, rfl, hod⟩
  obtain ⟨od, J⟩ := J
  exact PySem.W.kia_one (PySem.W.kitx_exc (od := od) T.cs T.ga T.gg T.sub T.cl T.sg T.tk T.mr) I.kIn J e (fun z => nomatch z) fun tk => ⟨.bl b, H, I.tok tk, rfl, q⟩
end
end L2
end

section
set_option Elab.async false
set_option linter.all false
set_option maxRecDepth 100000
set_option maxHeartbeats 8000000
namespace L2
open PySem PySem.Spec PyProof.Rows
/-! ### defs that are called where nothing is being shown (repr asks it) -/
structure FnG (P : Program) (w : World) (K : PySem.W.Frag) (mg : Str → Option Value) (base : Heap) (CX : CXT) (k : Nat) (f : Addr) (fd : FuncData) (ps : List Str) (sp : Sp) : Prop where
  len : ∀ vs H Q E, sp vs H Q E → vs.length = ps.length
  run : ∀ (A : Around) (outer : List Env) (s : Shared) (H : Hp) (args : Args) (us : List Value) (vs : List V) (Q : VK) (E : XK), A.guards = some [] → Room k A → Env0 P w K mg base A outer s H → BindsTo s fd args (ps.zip us) → Vals vs us → sp vs H Q E →
    codeAny (model P w) A (.call (.ref f) args) (CR CX outer P w H s Q E) s
section
variable {P : Program} {w : World} {K : PySem.W.Frag} {mg : Str → Option Value} {base : Heap}
theorem Fun.okG {x qual : Str} {st : Stmt} {f : Addr} {fd : FuncData} {N ps : List Str} {k : Nat} {sp : Sp} (F : Fun K x qual st f fd) (S : FnScope N ps (defScope st)) (len : ∀ vs H Q E, sp vs H Q E → vs.length = ps.length)
    (hbody : ∀ (cdv : Value) (A : Around) (outer : List Env) (s : Shared) (H : Hp) (vs : List V) (Q : VK) (E : XK), A.guards = some [] → Room k (A.deeper (envOfC qual (defScope st) s.heap.objs.size f cdv)) → sp vs H Q E →
      ∃ t, PSs (cxOf CX0 P w K mg base N qual (defScope st) f cdv A outer s H E).nox (defBody st) t ∧ t { nx := fun _ H' => Q .non H', rt := Q } (start N vs) H) : FnG P w K mg base CX0 (k + 1) f fd ps sp := by
  obtain ⟨oc, od, kV, doc, pm, an, cdv, ct, osl, rfl, lk, hcd⟩ := F.ex
  refine ⟨len, fun A outer s H args us vs Q E hg hr e0 hb r hsp => ?_⟩
  have KX : K.In s.heap := e0.mod.kin.keeps fun b o e => (e0.bs b o e).1
  have lim : s.heap.NoLimit := e0.mod.nolimit.keeps fun b o e => (e0.bs b o e).1
  have kinds : ∀ y ∈ ps.zip us, (defScope st).names.lookup y.1 = some .local ∨ ((defScope st).names.lookup y.1 = some .cell ∧ ((cellsFrom (s.heap.objs.size + 1) (defScope st).names []).lookup y.1).isSome = true) := by
    rintro ⟨n, v⟩ hy
    exact (S.par n (List.of_mem_zip hy).1).imp id fun q => ⟨q, PySem.W.cellsFrom_some _ _ _ (.inl q)⟩
  refine codeAny_call_function hr.depth (KX _ _ lk) rfl S.co S.gen rfl (PySem.W.codeRec_of KX hcd) (hb _ _ _ _ (wpAny_newFunctionEnv_cells S.kind kinds fun env he s1 x => ?_))
  subst he
  obtain ⟨t, ht0, hq⟩ := hbody cdv A outer s H vs Q E hg (hr.deeper _) hsp
  have ht : PSs (cxOf CX0 P w K mg base N qual (defScope st) f cdv A outer s H E) (defBody st) t := ht0.nox
  have I : Inv (cxOf CX0 P w K mg base N qual (defScope st) f cdv A outer s H E) [] (start N vs) H s1 := inv_start S hr.hd e0 (len _ _ _ _ hsp) r x
  refine ⟨lim.keeps x.toInCall.keep, codeAny_func (wpAny_mono (ht.run [] s1 (start N vs) H _ I hq) (fun fl s' hs => ?_) fun e s' hs => hs)⟩
  cases fl with
  | ret u =>
    obtain ⟨v, σ', H', J, rv, q⟩ := hs
    exact ⟨v, H', J.os, J.bare, J.base, J.hok, rv, q⟩
  | next =>
    obtain ⟨σ', H', J, q⟩ := hs
    exact ⟨.non, H', J.os, J.bare, J.base, J.hok, rfl, q⟩
  | brk =>
    obtain ⟨_, _, _, q⟩ := hs
    exact q.elim
  | cont =>
    obtain ⟨_, _, _, q⟩ := hs
    exact q.elim
end
section
variable {X : Cx} {k : Nat} {f : Addr} {fd : FuncData} {ps : List Str} {sp : Sp} {E : XK} {x : Str} {p pos : Pos} {e : Expr} {es : List Expr} {t : TA}
theorem pe_callG (F : FnG X.prog X.w X.K X.mg X.base CX0 k f fd ps sp) (hgd : X.A.guards = some []) (hr : Room k X.A) (hg : Gl X x) (hm : X.mg x = some (.ref f)) (hk : PySem.W.keepIn X.K (.ref f) = true) (hb : Binds X.K fd ps [])
    (ha : PA X (e :: es) t) (hdb : (x == ("__debug__" : Str)) = false := by decide) (he : starEach (e :: es) X.env = (false, eval e X.env) :: starEach es X.env := by rfl) (hpl : (backTo pos (starEach es X.env)).any (·.1) = false := by rfl) :
    PE X (.Call (.Name x p) (e :: es) [] pos) (tCall sp [] E t) := by
  refine ⟨fun pins s σ H Q I h => ?_⟩
  refine wpAny_Call_Name_kw (ld_glob I hg hm ?_ hdb)
  refine PySem.W.callWith_K (h₀ := X.base) I.ok.mod.kin hk (thn (ha.run pos pins s σ H _ I h) fun us s1 ⟨vs, H1, I1, r, q⟩ => ⟨I1.kIn, ?_⟩) he hpl
  have q : sp vs H1 Q E := by
    have z : sp (vs ++ []) H1 Q E := q
    rw [List.append_nil] at z
    exact z
  have hl : us.length = ps.length := by rw [← r.length]; exact F.len _ _ _ _ q
  refine wpAny_call (codeAny_mono (F.run X.A X.stack s1 H1 ⟨us, []⟩ us vs Q E hgd hr I1.env0 (by have z := hb s1 us I1.kIn (by rw [List.append_nil]; exact hl); rw [List.append_nil] at z; exact z) r q) fun r s' hq => ?_)
  cases r with
  | error e => exact False.elim hq
  | ok fl =>
    cases fl with
    | ret u => exact I1.after hq
    | next => exact False.elim hq
    | brk => exact False.elim hq
    | cont => exact False.elim hq
end
/-! ### data with dicts of one text key: what it shows, that it equals itself -/
inductive Dq (K : PySem.W.Frag) (H : Hp) : V → PyData → Prop
  | pl {v : V} {d : PyData} (h : Dp K H v d) (n : d.hasDict = false) (sh : SeqAt.shaped d = true) (e : PyData.eqv d d = true) : Dq K H v d
  | d0 {a : Addr} (h : H a = some (.dK [])) : Dq K H (.ref a) (.dict [])
  | d1 {a : Addr} (h : H a = some (.dK [(.inr "a", .int 1)])) : Dq K H (.ref a) (.dict [(.str "a", .int 1)])
section
variable {X : Cx} {pins : List (Addr × Obj)} {σ : St} {H : Hp} {s : Shared}
theorem Dq.reads (I : Inv X pins σ H s) {v : V} {d : PyData} {u : Value} (q : Dq X.K H v d) (r : RelV v u) : ∃ as, Reads s.heap u d as ∧ (d.hasDict = true → sysModules ∉ as) := by
  cases q with
  | pl h n sh e =>
    obtain ⟨as, z⟩ := Dp.reads I d v u h r
    exact ⟨as, z, PyData.noDict_hsm n⟩
  | @d0 a h =>
    obtain rfl := (show u = Value.ref _ from r)
    obtain ⟨_, ns, vs, kv, o, es, ep, h1, h2, h3, _, h4, _⟩ := (show ObjOk X.prog X.w H s.heap _ (.dK []) from I.hok _ _ h)
    cases kv
    have e : es.toList = [] := by
      cases z : es.toList with
      | nil => rfl
      | cons x l => rw [z] at h4; cases h4
    have R : Reads s.heap (.ref a) (.dict []) (a :: [] ++ []) := Reads.dict h1 h2.1 h3 (by rw [e]; exact .nil) (by rw [e]; exact .nil)
    refine ⟨_, R, fun _ hm => ?_⟩
    have z : sysModules = a := by simpa using hm
    rw [← z] at ns
    simp at ns
  | @d1 a h =>
    obtain rfl := (show u = Value.ref _ from r)
    obtain ⟨_, ns, vs, kv, o, es, ep, h1, h2, h3, _, h4, _⟩ := (show ObjOk X.prog X.w H s.heap _ (.dK [(.inr "a", .int 1)]) from I.hok _ _ h)
    cases kv with
    | @cons _ q0 _ _ p t =>
      cases t
      obtain ⟨k0, w0⟩ := q0
      obtain ⟨p1, p2⟩ := p
      have p1' : (Sum.inr ("a" : Str) : Key) = k0 := p1
      subst p1'
      obtain ⟨t1, ew⟩ := (show ∃ t, w0 = Value.int 1 t from p2)
      cases z : es.toList with
      | nil => rw [z] at h4; cases h4
      | cons x l =>
        rw [z] at h4
        cases h4 with
        | cons i1 i2 i3 =>
          cases l with
          | cons _ _ => cases i3
          | nil =>
            rcases keyIs_shape (show keyIs (Sum.inr ("a" : Str)) x.key = true from i1) with ⟨_, _, q1, _⟩ | ⟨y, t2, q1, q2⟩
            · cases q1
            · cases q1
              have ev : x.val = Value.int 1 t1 := i2.trans ew
              have R : Reads s.heap (.ref a) (.dict [(.str "a", .int 1)]) (a :: ([] ++ []) ++ ([] ++ [])) := Reads.dict h1 h2.1 h3 (by rw [z]; show ReadsAll _ [x.key] _ _; rw [q2]; exact .cons (.str _ _) .nil) (by rw [z]; show ReadsAll _ [x.val] _ _; rw [ev]; exact .cons (.int _ _) .nil)
              refine ⟨_, R, fun _ hm => ?_⟩
              have z : sysModules = a := by simpa using hm
              rw [← z] at ns
              simp at ns
theorem SqT.same {K : PySem.W.Frag} {H H' : Hp} {a : Addr} {xs : List V} (e : Same H H') (h : SqT K H a xs) : SqT K H' a xs := by
  rcases h with (h | ⟨o, h⟩) | h
  · exact .inl (.inl (e _ _ h))
  · exact .inl (.inr ⟨o, e _ _ h⟩)
  · exact .inr h
mutual
theorem Dp.same {K : PySem.W.Frag} {H H' : Hp} (S : Same H H') : ∀ (d : PyData) (v : V), Dp K H v d → Dp K H' v d
  | .none, _, h => by cases h; exact .non
  | .bool b, _, h => by cases h; exact .bl b
  | .int i, _, h => by cases h; exact .int i
  | .str x, _, h => by cases h; exact .str x
  | .list ds, _, h => by
    cases h with
    | lst hs ha => exact .lst (S.seq hs) (Dp.sameAll S ds _ ha)
  | .tuple ds, _, h => by
    cases h with
    | tup hs ha => exact .tup (hs.same S) (Dp.sameAll S ds _ ha)
  | .dict _, _, h => by cases h
theorem Dp.sameAll {K : PySem.W.Frag} {H H' : Hp} (S : Same H H') : ∀ (ds : List PyData) (vs : List V), DpAll K H vs ds → DpAll K H' vs ds
  | [], _, h => by cases h; exact .nil
  | d :: ds, _, h => by
    cases h with
    | cons h1 h2 => exact .cons (Dp.same S d _ h1) (Dp.sameAll S ds _ h2)
end
theorem Dq.same {H' : Hp} {K : PySem.W.Frag} (S : Same H H') {v : V} {d : PyData} (q : Dq K H v d) : Dq K H' v d := by
  cases q with
  | pl h n sh e => exact .pl (Dp.same S d v h) n sh e
  | d0 h => exact .d0 (S _ _ h)
  | d1 h => exact .d1 (S _ _ h)
end
section
variable {X : Cx}
/-- repr(v), v data -/
def rRepr (K : PySem.W.Frag) : List V → Hp → VK → Prop := fun xs H Q => ∃ (v : V) (d : PyData), xs = [v] ∧ Dq K H v d ∧ d.showable = true ∧ d.depth ≤ 10 ∧ d.shown.length ≤ 1000 ∧ Q (.str d.shown) H
theorem call_repr (hgd : X.A.guards = some []) (hu : X.A.units + 64 < cLine) : CallR X (.builtin "repr") (rRepr X.K) := by
  intro pins s σ H xs us Q I r h
  obtain ⟨v, d, rfl, hd, hs, hdep, hsz, q⟩ := h
  obtain ⟨u, rfl, ru⟩ := vals1 r
  obtain ⟨as, R, hsm⟩ := hd.reads I ru
  have hz : d.shown.length ≤ sizeLine := by rw [sizeLine_eq]; omega
  have fin : ∀ t, Inv X pins σ H { s with toks := t } → EP X pins σ Q (.str d.shown s.toks) { s with toks := t } := fun t J => ⟨.str d.shown, H, J, ⟨_, rfl⟩, q⟩
  cases R with
  | none => exact PySem.P.repr_of_none (fin _ (I.tok _))
  | bool b =>
    exact PySem.P.repr_of_bool (by have z := fin _ (I.tok (s.toks + 1)); simp only [PyData.shown] at z; exact z)
  | int i t => exact PySem.P.repr_of_int (by simpa [PyData.showable] using hs) (by have z := fin _ (I.tok (s.toks + 1)); simp only [PyData.shown] at z; exact z)
  | str x t => exact PySem.P.repr_of_str (by have z := fin _ (I.tok (s.toks + 1)); simp only [PyData.shown] at z; exact z) (by simpa [PyData.shown] using hz)
  | list a1 a2 a3 a4 => exact repr_of_reads' (Reads.list a1 a2 a3 a4) hs hsm hgd (by omega) (fun _ _ e => e) (fun h' u tk hk => ⟨.str _, H, I.kept hk, ⟨_, rfl⟩, q⟩) hz
  | tuple a1 a2 a3 a4 => exact repr_of_reads' (Reads.tuple a1 a2 a3 a4) hs hsm hgd (by omega) (fun _ _ e => e) (fun h' u tk hk => ⟨.str _, H, I.kept hk, ⟨_, rfl⟩, q⟩) hz
  | dict a1 a2 a3 a4 a5 => exact repr_of_reads' (Reads.dict a1 a2 a3 a4 a5) hs hsm hgd (by omega) (fun _ _ e => e) (fun h' u tk hk => ⟨.str _, H, I.kept hk, ⟨_, rfl⟩, q⟩) hz
/-- v != v, v data -/
def rNeQ (K : PySem.W.Frag) : R2 := fun x y H Q => x = y ∧ (∃ d, Dq K H x d) ∧ Q (.bl false) H
theorem op_neQ (hu : X.A.units + 64 < cLine) : OpR X (compareOp .NotEq) (rNeQ X.K) := by
  intro pins s σ H x y v u Q I rx ry h
  obtain ⟨rfl, ⟨d, hd⟩, q⟩ := h
  have fin : EP X pins σ Q (.bool false) s := ⟨.bl false, H, I, rfl, q⟩
  cases hd with
  | pl hp n sh e =>
    obtain ⟨as, r1⟩ := Dp.reads I d x v hp rx
    obtain ⟨bs, r2⟩ := Dp.reads I d x u hp ry
    refine SeqAt.compareNe_shaped r1 r2 sh sh hu ?_
    rw [e]
    exact fin
  | d0 h =>
    obtain rfl := (show v = Value.ref _ from rx)
    obtain rfl := (show u = Value.ref _ from ry)
    obtain ⟨_, ns, vs, kv, da⟩ := (show ObjOk X.prog X.w H s.heap _ (.dK []) from I.hok _ _ h)
    cases kv
    exact PySem.W.keq_ne (knd := mixKind X.prog X.w) (r := true) ns ns da da (by omega) (fun _ => .nil) fin
  | d1 h =>
    obtain rfl := (show v = Value.ref _ from rx)
    obtain rfl := (show u = Value.ref _ from ry)
    obtain ⟨_, ns, vs, kv, da⟩ := (show ObjOk X.prog X.w H s.heap _ (.dK [(.inr "a", .int 1)]) from I.hok _ _ h)
    cases kv with
    | cons p t =>
      cases t
      refine PySem.W.keq_ne (knd := mixKind X.prog X.w) (r := true && true) ns ns da da (by omega) (fun _ => ?_) fin
      exact PySem.W.KeqHits.hit (y := _) (by simp [valueAt]) (SeqAt.EqAt.same _) .nil
end
end L2
end

section
set_option Elab.async false
set_option linter.all false
set_option maxRecDepth 100000
set_option maxHeartbeats 8000000
/-! The end of a law whose promise is kept where nothing is being shown. -/
namespace L2
open PySem PySem.Spec PyProof.Rows
section
variable {P : Program} {w : World} {K : PySem.W.Frag} {mg mb : Str → Option Value} {k : Nat} {fa a : Addr} {fd : FuncData} {x : Str} {sp : Sp} {s1 : Shared} {vs : List Value} {ns : List Int}
abbrev Came (s1 : Shared) (r : Result) (s' : Shared) : Prop := r = .ok (.ret (.bool true)) ∧ OldK s1.heap s'.heap ∧ s'.os = s1.os ∧ AllBare s'.gens
/-- from an abstract heap that holds the script at most -/
theorem lawRun (KX : K.In s1.heap) (hns : s1.heap.Ns mainGlobals mg) (hb : s1.heap.Ns builtinsNs mb) (hbb : ∀ x : Str, x ≠ "__name__" → mb x = bootBuiltins x) (hlim : s1.heap.NoLimit) (hg : s1.gens = #[])
    (ha : s1.heap.get? a = some { cls := .type "list", data := .seq vs.toArray }) (hr : Room k callerA)
    (F : ∀ base : Heap, K.In base → base.Ns mainGlobals mg → FnG P w K mg base CX0 k fa fd [x] sp) (hbind : ∀ (s : Shared) (u : Value), BindsTo s fd ⟨[u], []⟩ [(x, u)])
    (H : Hp) (hok : HOk P w H s1.heap) (one : ∀ b, H b = none ∨ (b = a ∧ K.lookup a = none ∧ ∃ o xs, H b = some (.frz o (.lst xs)))) (hsp : sp [.ref a] H (fun v _ => v = .bl true) fun _ _ _ => False) :
    codeAny (model P w) callerA (.call (.ref fa) ⟨[.ref a], []⟩) (Came s1) s1 := by
  have ofDict : ∀ {b : Addr} {o : Obj} {es : Array DictEntry} {ep : Nat}, s1.heap.get? b = some o → o.data = .dict es ep → H b = none := fun {b o es ep} e d => (one b).elim id fun ⟨z, _⟩ => by
    rw [z, ha] at e
    cases e
    cases (show Data.seq vs.toArray _ = Data.dict es ep from d)
  have ns' : ∀ {b : Addr} {m : Str → Option Value}, s1.heap.Ns b m → (hidT s1.heap H).Ns b m := fun ⟨o, es, ep, e, d, r⟩ => ⟨o, es, ep, hidT_get e (ofDict e d), d, r⟩
  have kin : K.In (hidT s1.heap H) := fun b o e => hidT_get (KX b o e) ((one b).elim id fun ⟨z, l, _⟩ => by rw [z, l] at e; cases e)
  have M : Mod K mg (hidT s1.heap H) := ⟨kin, ns' hns, ⟨mb, ns' hb, hbb⟩, let ⟨mc, h1, h2⟩ := hlim; ⟨mc, ns' h1, h2⟩⟩
  have E0 : Env0 P w K mg (hidT s1.heap H) callerA [] s1 H := ⟨rfl, M, fun b o e => of_hidT e, Nat.le_of_eq (hidT_size _ _), trivial, fun b hb => absurd (show b ∈ ([] : List Addr) from hb) (by simp), hok, .of_eq hg⟩
  refine codeAny_mono ((F _ kin (ns' hns)).run callerA [] s1 H ⟨[.ref a], []⟩ [.ref a] [.ref a] _ _ rfl hr E0 (hbind s1 (.ref a)) (.cons rfl .nil) hsp) fun r s' h => ?_
  cases r with
  | error e => exact False.elim h
  | ok fl => ?_
  cases fl with
  | next => exact False.elim h
  | brk => exact False.elim h
  | cont => exact False.elim h
  | ret u => ?_
  obtain ⟨v, H', os, bare, un, hok', rv, q⟩ := h
  cases (show v = .bl true from q)
  cases (show u = Value.bool true from rv)
  refine ⟨rfl, OldK.of_keep fun b o e => ?_, os, bare⟩
  rcases one b with z | ⟨_, _, ob, xs, z⟩
  · exact un.keep b o e z (by intro z; exact absurd (show b ∈ ([] : List Addr) from z) (by simp)) (by simp)
  · have e1 := (hok b _ z).1
    have e2 := (hok' b _ (un.frzs b ob _ z)).1
    rw [e] at e1
    cases e1
    exact e2
theorem lawCall (KX : K.In s1.heap) (hns : s1.heap.Ns mainGlobals mg) (hb : s1.heap.Ns builtinsNs mb) (hbb : ∀ x : Str, x ≠ "__name__" → mb x = bootBuiltins x) (hlim : s1.heap.NoLimit) (hg : s1.gens = #[])
    (ha : s1.heap.get? a = some { cls := .type "list", data := .seq vs.toArray }) (hi : IntsAre vs ns) (hl : ns.length ≤ sizeLine) (hr : Room k callerA)
    (F : ∀ base : Heap, K.In base → base.Ns mainGlobals mg → FnG P w K mg base CX0 k fa fd [x] sp) (hbind : ∀ (s : Shared) (u : Value), BindsTo s fd ⟨[u], []⟩ [(x, u)])
    (hsp : ∀ H : Hp, SqL K H a (ns.map V.int) → sp [.ref a] H (fun v _ => v = .bl true) fun _ _ _ => False) :
    codeAny (model P w) callerA (.call (.ref fa) ⟨[.ref a], []⟩) (Came s1) s1 := by
  have rv := vals_ints hi
  cases hk : K.lookup a with
  | some o =>
    have e := KX a o hk
    rw [ha] at e
    cases e
    exact lawRun KX hns hb hbb hlim hg ha hr F hbind (fun _ => none) (fun b u z => by cases (show (none : Option HO) = some u from z)) (fun _ => .inl rfl)
      (hsp _ (.inr ⟨_, vs.toArray, _, hk, rfl, rfl, rfl, by rw [List.size_toArray, hi.length]; exact hl, by simpa using rv⟩))
  | none =>
    have at1 : ∀ b, b = a → (fun b => if b = a then some (HO.frz { cls := .type "list", data := .seq vs.toArray } (.lst (ns.map V.int))) else none : Hp) b = some (.frz { cls := .type "list", data := .seq vs.toArray } (.lst (ns.map V.int))) := fun b e => if_pos e
    have at0 : ∀ b, b ≠ a → (fun b => if b = a then some (HO.frz { cls := .type "list", data := .seq vs.toArray } (.lst (ns.map V.int))) else none : Hp) b = none := fun b e => if_neg e
    refine lawRun KX hns hb hbb hlim hg ha hr F hbind (fun b => if b = a then some (HO.frz { cls := .type "list", data := .seq vs.toArray } (.lst (ns.map V.int))) else none : Hp) (fun b u z => ?_) (fun b => ?_) (hsp _ (.inl (.inr ⟨_, at1 a rfl⟩)))
    · by_cases e : b = a
      · rw [at1 b e] at z
        cases z
        subst e
        exact ⟨ha, by rw [List.length_map]; exact hl, vs, _, rv, ha⟩
      · rw [at0 b e] at z
        cases z
    · by_cases e : b = a
      · exact .inr ⟨e, hk, _, _, at1 b e⟩
      · exact .inl (at0 b e)
end
/-- the goal that k_head leaves, from such a promise -/
theorem walkG {l : PySem.W.OpenLaw} {n k : Nat} {q : Program} {loose : List Str} {XP : (Str → Option Value) → Heap → Prop} {YP : World → Heap → Prop} {d : DefRec} {K : Params → PySem.W.Frag} {sp : PySem.W.Frag → Sp} {x : Str}
    (hn : l.most = some n) (hn2 : n ≤ sizeLine) (hdf : d.params.defaults = []) (hr : Room k callerA) (hY : ∀ (w : World) (h : Heap), YP w h → (K w.params).In h)
    (F : ∀ (w : World) (mg : Str → Option Value) (fa : Addr) (h : Heap), (K w.params).In h → h.Ns mainGlobals mg → mg d.name = some (.ref fa) →
      ∃ fd : FuncData, (∀ (s : Shared) (u : Value), BindsTo s fd ⟨[u], []⟩ [(x, u)]) ∧ ∀ base : Heap, (K w.params).In base → base.Ns mainGlobals mg → FnG l.prog w (K w.params) mg base CX0 k fa fd [x] (sp (K w.params)))
    (hsp : ∀ (K : PySem.W.Frag) (H : Hp) (a : Addr) (ns : List Int), ns.length ≤ n → SqL K H a (ns.map V.int) → sp K [.ref a] H (fun v _ => v = .bl true) fun _ _ _ => False) :
    PySem.W.WalkO q loose XP YP l.row.toRowW d [] (fun f vs => PySem.call f vs) := by
  refine Att.attach_call hn hdf fun w s₀ s₁ mg mb fa o pm cd doc a vs ns G Y ho hd hcd hmg hobj hints hlen hg => ?_
  have KX := hY w _ Y
  obtain ⟨fd, hb, hF⟩ := F w mg fa _ KX G.T.g hmg
  exact lawCall KX G.T.g G.T.b G.T.builtins G.T.nolimit hg hobj hints (Nat.le_trans hlen hn2) hr hF hb fun H hS => hsp _ H a ns hlen hS
end L2
end

section
set_option Elab.async false
set_option linter.all false
set_option maxRecDepth 100000
set_option maxHeartbeats 4000000
/-! Kinds of values; a comprehension over a text; lists of texts as data. -/
namespace Pn
open PySem PySem.Spec PyProof.Rows L2
theorem tyL {K : PySem.W.Frag} {H : Hp} {a : Addr} {xs : List V} (h : SqL K H a xs) : TyX K H (.ref a) (.type "list") := by
  rcases h with (h | ⟨o, h⟩) | ⟨o, its, n, h, c, _⟩
  · exact .base (.lst h)
  · exact .base (.frz h)
  · exact .kList h c
theorem tyT {K : PySem.W.Frag} {H : Hp} {a : Addr} {xs : List V} (h : SqT K H a xs) : TyX K H (.ref a) (.type "tuple") := by
  rcases h with (h | ⟨o, h⟩) | ⟨o, its, n, h, c, _⟩
  · exact .base (.tup h)
  · exact .fTuple h
  · exact .kTuple h c
/-- the name of the class of a value of data -/
def kindD : PyData → String
  | .none => "NoneType"
  | .bool _ => "bool"
  | .int _ => "int"
  | .str _ => "str"
  | .list _ => "list"
  | .tuple _ => "tuple"
  | .dict _ => "dict"
theorem Dp.ty {K : PySem.W.Frag} {H : Hp} {v : V} {d : PyData} (h : Dp K H v d) : TyX K H v (.type (kindD d)) := by
  cases h with
  | non => exact .base .non
  | bl b => exact .base (.bl b)
  | int i => exact .base (.int i)
  | str x => exact .base (.str x)
  | lst h _ => exact tyL h
  | tup h _ => exact tyT h
theorem Dq.ty {K : PySem.W.Frag} {H : Hp} {v : V} {d : PyData} (h : Dq K H v d) : TyX K H v (.type (kindD d)) := by
  cases h with
  | pl h _ _ _ => exact Dp.ty h
  | d0 h => exact .base (.dK h)
  | d1 h => exact .base (.dK h)
theorem kindD_mem (d : PyData) : kindD d ∈ ["NoneType", "bool", "int", "str", "list", "tuple", "dict"] := by cases d <;> simp [kindD]
/-- whether a value of data is of a class -/
def isD (n : String) (d : PyData) : Bool := (kitB (kindD d) n).getD false
theorem kit_is {K : PySem.W.Frag} {n : String} (hn : ∀ s ∈ ["NoneType", "bool", "int", "str", "list", "tuple", "dict"], (kitB s n).isSome = true) (d : PyData) : PySem.W.kitOne K (.type (kindD d)) (.type n) = some (isD n d) := by
  have := hn _ (kindD_mem d)
  unfold isD
  cases e : kitB (kindD d) n with
  | none => rw [e] at this; cases this
  | some b => exact kit_ty e
theorem kit_str {K : PySem.W.Frag} (d : PyData) : PySem.W.kitOne K (.type (kindD d)) (.type "str") = some (isD "str" d) := kit_is (by decide +kernel) d
theorem kit_int {K : PySem.W.Frag} (d : PyData) : PySem.W.kitOne K (.type (kindD d)) (.type "int") = some (isD "int" d) := kit_is (by decide +kernel) d
theorem kit_bool {K : PySem.W.Frag} (d : PyData) : PySem.W.kitOne K (.type (kindD d)) (.type "bool") = some (isD "bool" d) := kit_is (by decide +kernel) d
theorem kit_list {K : PySem.W.Frag} (d : PyData) : PySem.W.kitOne K (.type (kindD d)) (.type "list") = some (isD "list" d) := kit_is (by decide +kernel) d
theorem kit_tuple {K : PySem.W.Frag} (d : PyData) : PySem.W.kitOne K (.type (kindD d)) (.type "tuple") = some (isD "tuple" d) := kit_is (by decide +kernel) d
theorem isD_str (d : PyData) : isD "str" d = true ↔ ∃ z, d = .str z := by
  cases d <;> simp only [isD, kindD]
  all_goals first
    | exact ⟨fun h => absurd h (by decide +kernel), fun ⟨z, h⟩ => by cases h⟩
    | exact ⟨fun _ => ⟨_, rfl⟩, fun _ => by decide +kernel⟩
theorem Dq.str {K : PySem.W.Frag} {H : Hp} {v : V} {z : PySem.Str} (h : Dq K H v (.str z)) : v = .str z := by
  cases h with
  | pl h _ _ _ => cases h; rfl
/-- a value is of the kind of some data; texts and numbers are that data -/
structure Kd (K : PySem.W.Frag) (H : Hp) (x : V) (d : PyData) : Prop where
  ty : TyX K H x (.type (kindD d))
  st : ∀ z, d = .str z → x = .str z
  nu : ∀ i, d = .int i → x = .int i
theorem Kd.dp {K : PySem.W.Frag} {H : Hp} {x : V} {d : PyData} (h : Dp K H x d) : Kd K H x d := by
  refine ⟨Dp.ty h, ?_, ?_⟩ <;> (rintro z rfl; cases h; rfl)
theorem Kd.dq {K : PySem.W.Frag} {H : Hp} {x : V} {d : PyData} (h : Dq K H x d) : Kd K H x d := by
  cases h with
  | pl h _ _ _ => exact Kd.dp h
  | d0 h => exact ⟨.base (.dK h), (fun _ z => by cases z), (fun _ z => by cases z)⟩
  | d1 h => exact ⟨.base (.dK h), (fun _ z => by cases z), (fun _ z => by cases z)⟩
theorem Kd.str {K : PySem.W.Frag} {H : Hp} (z : PySem.Str) : Kd K H (.str z) (.str z) := .dp (.str z)
theorem Kd.int {K : PySem.W.Frag} {H : Hp} (i : Int) : Kd K H (.int i) (.int i) := .dp (.int i)
def wdB (z : PySem.Str) : Bool := decide (1 ≤ z.length) && decide (z.length ≤ 8) && z.cps.toList.all (fun c => decide (97 ≤ c) && decide (c ≤ 122))
theorem wdB_iff (z : PySem.Str) : wdB z = true ↔ Wd z := by
  unfold wdB Wd Low
  rw [Bool.and_eq_true, Bool.and_eq_true, decide_eq_true_iff, decide_eq_true_iff, List.all_eq_true, lenL, and_assoc]
  simp only [Bool.and_eq_true, decide_eq_true_iff]
def wordD : PyData → Bool
  | .str z => wdB z
  | _ => false
def wholeD (d : PyData) : Bool := isD "int" d && !isD "bool" d
theorem wholeD_iff (d : PyData) : wholeD d = true ↔ ∃ i, d = .int i := by
  cases d <;> simp only [wholeD, isD, kindD]
  all_goals first
    | exact ⟨fun h => absurd h (by decide +kernel), fun ⟨z, h⟩ => by cases h⟩
    | exact ⟨fun _ => ⟨_, rfl⟩, fun _ => by decide +kernel⟩
def withinD (lo hi : Int) : PyData → Bool
  | .int i => decide (lo ≤ i) && decide (i ≤ hi)
  | _ => false
def spIsInt (K : PySem.W.Frag) : Sp := fun vs H Q _ => ∃ (x : V) (d : PyData), vs = [x] ∧ Kd K H x d ∧ Q (.bl (wholeD d)) H
def spIsWord (K : PySem.W.Frag) : Sp := fun vs H Q _ => ∃ (x : V) (d : PyData), vs = [x] ∧ Kd K H x d ∧ (∀ z, d = .str z → z.length ≤ 1000 ∧ PyData.strOk z = true) ∧ ∀ H', Same H H' → Q (.bl (wordD d)) H'
def spWordV (K : PySem.W.Frag) : Sp := fun vs H Q _ => ∃ (x : V) (d : PyData), vs = [x] ∧ Kd K H x d ∧ (∀ z, d = .str z → z.length ≤ 1000) ∧ Q (.bl (wordD d)) H
def spWithin (K : PySem.W.Frag) : Sp := fun vs H Q _ => ∃ (x : V) (d : PyData) (lo hi : Int), vs = [x, .int lo, .int hi] ∧ Kd K H x d ∧ Q (.bl (withinD lo hi d)) H
theorem asc : ∀ c, c < 128 → ((Unicode.isAlpha c = true ∧ ¬ (Unicode.isUpper c || Unicode.isTitle c) = true) ↔ (97 ≤ c ∧ c ≤ 122)) := by decide +kernel
theorem low1 : ∀ c, c < 128 → 97 ≤ c ∧ c ≤ 122 → Unicode.isLower c = true := by decide +kernel
/-- what the three methods say of a text that isn't empty -/
theorem three (z : PySem.Str) (h : 1 ≤ z.length) : (Txt.isascii z && (Txt.isalpha z && Txt.islower z)) = z.cps.toList.all (fun c => decide (97 ≤ c) && decide (c ≤ 122)) := by
  rw [Bool.eq_iff_iff, Bool.and_eq_true, Bool.and_eq_true, List.all_eq_true]
  unfold Txt.isascii Txt.isalpha Txt.islower
  rw [Bool.and_eq_true, Bool.and_eq_true, Bool.not_eq_true', ← Array.all_toList, ← Array.all_toList, ← Array.any_toList, ← Array.any_toList, List.all_eq_true, List.all_eq_true, List.any_eq_true, List.any_eq_false]
  have ne : ∃ c, c ∈ z.cps.toList := by
    cases e : z.cps.toList with
    | nil => rw [lenL, e] at h; exact absurd h (by decide)
    | cons c l => exact ⟨c, List.mem_cons_self ..⟩
  constructor
  · rintro ⟨a, ⟨_, b⟩, c, d⟩ x m
    have := (asc x (of_decide_eq_true (a x m))).mp ⟨b x m, d x m⟩
    rw [decide_eq_true this.1, decide_eq_true this.2]
    rfl
  · intro g
    have g' : ∀ x ∈ z.cps.toList, 97 ≤ x ∧ x ≤ 122 := fun x m => by
      have := g x m
      rw [Bool.and_eq_true, decide_eq_true_iff, decide_eq_true_iff] at this
      exact this
    have s : ∀ x ∈ z.cps.toList, x < 128 := fun x m => by have := g' x m; omega
    obtain ⟨c, hc⟩ := ne
    exact ⟨fun x m => decide_eq_true (s x m), ⟨decide_eq_true h, fun x m => ((asc x (s x m)).mpr (g' x m)).1⟩, ⟨c, hc, low1 c (s c hc) (g' c hc)⟩, fun x m => ((asc x (s x m)).mpr (g' x m)).2⟩
/-- a comprehension over a text -/
theorem lc_str {x : PySem.Str} {g : TG} {tt : TT} {te : TE} {vs : List Nat} {σ : L2.St} {H1 : Hp} {D : Addr} {Qd : Hp → Prop} (Pv : Nat → Hp → Prop) (h0 : Pv 0 (upd H1 D (.lst [])))
    (hs : ∀ (i c : Nat) (H : Hp), x.cps[i]? = some c → Pv i H → g (.str ⟨#[c]⟩) (wipe σ vs) H fun σ2 H2 => wipe σ2 vs = wipe σ vs ∧ tt σ2 H2 fun b H3 => if b = true then te σ2 H3 fun y H4 => ∃ acc, H4 D = some (.lst acc) ∧ acc.length < sizeLine ∧ Pv (i + 1) (upd H4 D (.lst (acc ++ [y]))) else Pv (i + 1) H3)
    (hd : ∀ H, Pv x.cps.size H → Qd H) : ∃ W : Nat → Nat → Hp → Prop, (∃ m, W 0 m (upd H1 D (.lst []))) ∧ ∀ (i m : Nat) (H : Hp), W i m H → (Its x).stop i H ∧ Qd H ∨ (Its x).go i H ∧ ∃ Nx : Hp → Prop, (∀ H', Nx H' → ∃ m', m' < m ∧ W (i + 1) m' H') ∧ ∀ (v : V) (H' : Hp), (Its x).yld i H v H' →
      g v (wipe σ vs) H' fun σ2 H2 => wipe σ2 vs = wipe σ vs ∧ tt σ2 H2 fun b H3 => if b = true then te σ2 H3 fun y H4 => ∃ acc, H4 D = some (.lst acc) ∧ acc.length < sizeLine ∧ Nx (upd H4 D (.lst (acc ++ [y]))) else Nx H3 := by
  refine ⟨fun i m H => Pv i H ∧ i + m = x.cps.size, ⟨x.cps.size, h0, by omega⟩, fun i m H hw => ?_⟩
  obtain ⟨hp, hm⟩ := hw
  cases m with
  | zero =>
    have e : i = x.cps.size := by omega
    exact .inl ⟨(by show x.cps.size ≤ i; omega), hd _ (e ▸ hp)⟩
  | succ m =>
    refine .inr ⟨(by show i < x.cps.size; omega), Pv (i + 1), fun H' h => ⟨m, by omega, h, by omega⟩, fun v H' hy => ?_⟩
    obtain ⟨rfl, c, hc, rfl⟩ := hy
    exact hs i c _ hc hp
theorem canLayAll0_strs : ∀ xs : List PySem.Str, (∀ x ∈ xs, PyData.strOk x = true) → PyData.canLayAll0 (xs.map PyData.str) = true
  | [], _ => by simp [PyData.canLayAll0]
  | x :: xs, h => by
    have := canLayAll0_strs xs (fun y m => h y (List.mem_cons_of_mem _ m))
    simp [PyData.canLayAll0, PyData.canLay0, this, h x (List.mem_cons_self ..)]
theorem depthAll_strs : ∀ xs : List PySem.Str, PyData.depthAll (xs.map PyData.str) ≤ 1
  | [] => by simp [PyData.depthAll]
  | x :: xs => by
    have := depthAll_strs xs
    simp [PyData.depthAll, PyData.depth, this]
theorem shaped_strs (xs : List PySem.Str) (h : ∀ x ∈ xs, PyData.strOk x = true) : SeqAt.shaped (.list (xs.map PyData.str)) = true := by
  have a := canLayAll0_strs xs h
  have b := depthAll_strs xs
  unfold SeqAt.shaped
  rw [Bool.and_eq_true]
  refine ⟨?_, decide_eq_true ?_⟩
  · show PyData.canLay0 (.list _) = true
    simp [PyData.canLay0, a]
  · simp [PyData.depth]
    omega
theorem abc_mem (c : Nat) : c ∈ abc.cps.toList ↔ 97 ≤ c ∧ c ≤ 122 := by
  refine ⟨abc_low c, fun h => ?_⟩
  rw [abc_list]
  exact List.mem_map.mpr ⟨c - 97, List.mem_range.mpr (by omega), by show c - 97 + 97 = c; omega⟩
/-- the signs that are no small letters -/
def bad (l : List Nat) : List PySem.Str := (l.filter (fun c => !decide (c ∈ abc.cps.toList))).map (fun c => ⟨#[c]⟩)
theorem bad_len (l : List Nat) : (bad l).length ≤ l.length := by
  unfold bad
  rw [List.length_map]
  exact List.length_filter_le ..
theorem bad_yes (l : List Nat) (c : Nat) (h : (!decide (c ∈ abc.cps.toList)) = true) : bad (l ++ [c]) = bad l ++ [⟨#[c]⟩] := by
  unfold bad
  rw [List.filter_append, List.map_append, List.filter_cons_of_pos (p := fun c => !decide (c ∈ abc.cps.toList)) h, List.filter_nil]
  rfl
theorem bad_not (l : List Nat) (c : Nat) (h : ¬(!decide (c ∈ abc.cps.toList)) = true) : bad (l ++ [c]) = bad l := by
  unfold bad
  rw [List.filter_append, List.map_append, List.filter_cons_of_neg (p := fun c => !decide (c ∈ abc.cps.toList)) h, List.filter_nil]
  simp
theorem bad_ok (l : List Nat) (h : ∀ c ∈ l, c < 1114112) : ∀ x ∈ bad l, PyData.strOk x = true := by
  intro x m
  obtain ⟨c, hc, rfl⟩ := List.mem_map.mp m
  have := h c (List.mem_filter.mp hc).1
  show (#[c] : Array Nat).all _ = true
  simp [this]
theorem bad_nil (l : List Nat) : PyData.eqv (.list ((bad l).map PyData.str)) (.list []) = l.all (fun c => decide (97 ≤ c) && decide (c ≤ 122)) := by
  have e : PyData.eqv (.list ((bad l).map PyData.str)) (.list []) = (bad l).isEmpty := by cases bad l <;> rfl
  rw [e]
  induction l with
  | nil => rfl
  | cons c l ih =>
    by_cases h : c ∈ abc.cps.toList
    · have e1 : bad (c :: l) = bad l := by unfold bad; rw [List.filter_cons_of_neg (by simp [h])]
      have := (abc_mem c).mp h
      rw [e1, ih (by cases bad l <;> rfl), List.all_cons, decide_eq_true this.1, decide_eq_true this.2]
      rfl
    · have e1 : bad (c :: l) = ⟨#[c]⟩ :: bad l := by unfold bad; rw [List.filter_cons_of_pos (by simp [h])]; rfl
      have n : (decide (97 ≤ c) && decide (c ≤ 122)) = false := by
        cases q : (decide (97 ≤ c) && decide (c ≤ 122)) with
        | false => rfl
        | true =>
          rw [Bool.and_eq_true, decide_eq_true_iff, decide_eq_true_iff] at q
          exact absurd ((abc_mem c).mpr q) h
      rw [e1, List.all_cons, n]
      rfl
theorem strs_dp {K : PySem.W.Frag} {H : Hp} : ∀ xs : List PySem.Str, DpAll K H (xs.map V.str) (xs.map PyData.str)
  | [] => .nil
  | x :: xs => .cons (.str x) (strs_dp xs)
end Pn
end

section
set_option Elab.async false
set_option linter.all false
set_option maxRecDepth 100000
set_option maxHeartbeats 4000000
/-! How deep plain items are; items at places; items in another order. -/
namespace Pn
open PySem PySem.Spec PyProof.Rows L2
mutual
def dI : Itm → Nat
  | .say _ => 0
  | .press _ => 0
  | .go _ => 0
  | .times _ its => 1 + dIs its
def dIs : List Itm → Nat
  | [] => 0
  | i :: is => max (dI i) (dIs is)
end
def tm : Itm → List Int
  | .times _ its => [1 + ((dIs its : Nat) : Int)]
  | _ => []
def ms (l : List Itm) : List Int := l.flatMap tm
theorem ms_app (a b : List Itm) : ms (a ++ b) = ms a ++ ms b := by unfold ms; exact List.flatMap_append
theorem ms_le : ∀ (l : List Itm), ∀ y ∈ ms l, y ≤ ((dIs l : Nat) : Int)
  | [], y, h => by cases h
  | i :: l, y, h => by
    unfold ms at h
    rw [List.flatMap_cons] at h
    have e : dIs (i :: l) = max (dI i) (dIs l) := by rw [dIs]
    rcases List.mem_append.mp h with h | h
    · cases i with
      | times n its =>
        rcases List.mem_cons.mp h with rfl | h
        · have : dI (.times n its) = 1 + dIs its := by rw [dI]
          omega
        · cases h
      | say => cases h
      | press => cases h
      | go => cases h
    · have := ms_le l y h
      omega
theorem ms_mem : ∀ (l : List Itm), ((dIs l : Nat) : Int) ∈ 0 :: ms l
  | [] => by rw [dIs]; exact List.mem_cons_self ..
  | i :: l => by
    have ih := ms_mem l
    have e : dIs (i :: l) = max (dI i) (dIs l) := by rw [dIs]
    have m : ms (i :: l) = tm i ++ ms l := by unfold ms; rw [List.flatMap_cons]
    by_cases g : dIs l ≤ dI i
    · have e2 : dIs (i :: l) = dI i := by omega
      rw [e2, m]
      cases i with
      | times n its =>
        have : dI (.times n its) = 1 + dIs its := by rw [dI]
        rw [this]
        refine List.mem_cons_of_mem _ (List.mem_append_left _ ?_)
        show _ ∈ [1 + ((dIs its : Nat) : Int)]
        rw [show (((1 + dIs its : Nat)) : Int) = 1 + ((dIs its : Nat) : Int) by omega]
        exact List.mem_cons_self ..
      | say => rw [dI]; exact List.mem_cons_self ..
      | press => rw [dI]; exact List.mem_cons_self ..
      | go => rw [dI]; exact List.mem_cons_self ..
    · have e2 : dIs (i :: l) = dIs l := by omega
      rw [e2, m]
      rcases List.mem_cons.mp ih with h | h
      · rw [h]; exact List.mem_cons_self ..
      · exact List.mem_cons_of_mem _ (List.mem_append_right _ h)
theorem Rps.get {B : Addr → Prop} {H : Hp} : ∀ {is : List Itm} {vs : List V} {k : Nat} {v : V}, Rps B H vs is → vs[k]? = some v → ∃ i, is[k]? = some i ∧ Rp B H v i
  | [], _, k, v, h, e => by cases h; cases e
  | i :: is, _, 0, v, h, e => by cases h with | cons h1 h2 => cases e; exact ⟨i, rfl, h1⟩
  | i :: is, _, k + 1, v, h, e => by cases h with | cons h1 h2 => exact h2.get (k := k) e
theorem ItsOk.get {d : Nat} : ∀ {is : List Itm} {k : Nat} {i : Itm}, ItsOk d is → is[k]? = some i → ItOk d i
  | [], k, i, h, e => by cases e
  | _ :: is, 0, i, h, e => by cases h with | cons h1 h2 => cases e; exact h1
  | _ :: is, k + 1, i, h, e => by cases h with | cons h1 h2 => exact h2.get (k := k) e
/-- things that stand for items stand for them in another order, too -/
theorem Rps.perm {B : Addr → Prop} {H : Hp} : ∀ {vs ws : List V}, vs.Perm ws → ∀ {is : List Itm}, Rps B H vs is → ∃ js, Rps B H ws js ∧ is.Perm js := by
  intro vs ws h
  induction h with
  | nil => intro is r; exact ⟨is, r, .refl _⟩
  | cons x h ih =>
    intro is r
    cases r with
    | cons r1 r2 =>
      obtain ⟨js, a, b⟩ := ih r2
      exact ⟨_ :: js, .cons r1 a, b.cons _⟩
  | swap x y l =>
    intro is r
    cases r with
    | cons r1 r2 =>
      cases r2 with
      | cons r2 r3 => exact ⟨_ :: _ :: _, .cons r2 (.cons r1 r3), .swap ..⟩
  | trans h1 h2 ih1 ih2 =>
    intro is r
    obtain ⟨js, a, b⟩ := ih1 r
    obtain ⟨ks, c, d⟩ := ih2 a
    exact ⟨ks, c, b.trans d⟩
theorem ItsOk.perm {d : Nat} {is js : List Itm} (p : is.Perm js) (h : ItsOk d is) : ItsOk d js := by
  induction p with
  | nil => exact h
  | cons x h ih => cases h with | cons a b => exact .cons a (ih b)
  | swap x y l =>
    cases h with
    | cons a b =>
      cases b with
      | cons b c => exact .cons b (.cons a c)
  | trans h1 h2 ih1 ih2 => exact ih2 (ih1 h)
end Pn
end

section
set_option Elab.async false
set_option linter.all false
set_option maxRecDepth 100000
set_option maxHeartbeats 4000000
/-! Plain items as data. -/
namespace Pn
open PySem PySem.Spec PyProof.Rows L2
mutual
def itD : Itm → PyData
  | .say z => .tuple [.str "say", .str z]
  | .press z => .tuple [.str "press", .str z]
  | .go z => .tuple [.str "go", .str z]
  | .times n its => .tuple [.str "times", .int n, .list (itsD its)]
def itsD : List Itm → List PyData
  | [] => []
  | i :: is => itD i :: itsD is
end
mutual
theorem Rp.dp {K : PySem.W.Frag} {B : Addr → Prop} {H : Hp} : ∀ (i : Itm) (v : V), Rp B H v i → Dp K H v (itD i)
  | .say z, _, h => by cases h with | say _ h => rw [itD]; exact .tup (SqT.of h) (.cons (.str _) (.cons (.str _) .nil))
  | .press z, _, h => by cases h with | press _ h => rw [itD]; exact .tup (SqT.of h) (.cons (.str _) (.cons (.str _) .nil))
  | .go z, _, h => by cases h with | go _ h => rw [itD]; exact .tup (SqT.of h) (.cons (.str _) (.cons (.str _) .nil))
  | .times n its, _, h => by cases h with | times _ _ h g r => rw [itD]; exact .tup (SqT.of h) (.cons (.str _) (.cons (.int _) (.cons (.lst (SqL.of g) (Rps.dp its _ r)) .nil)))
theorem Rps.dp {K : PySem.W.Frag} {B : Addr → Prop} {H : Hp} : ∀ (is : List Itm) (vs : List V), Rps B H vs is → DpAll K H vs (itsD is)
  | [], _, h => by cases h; rw [itsD]; exact .nil
  | i :: is, _, h => by cases h with | cons h1 h2 => rw [itsD]; exact .cons (Rp.dp i _ h1) (Rps.dp is _ h2)
end
theorem wd_ok {z : PySem.Str} (h : Wd z) : PyData.strOk z = true := by
  unfold PyData.strOk
  rw [← Array.all_toList, List.all_eq_true]
  intro c m
  have := h.2.2 c m
  exact decide_eq_true (by omega)
mutual
theorem itD_lay : ∀ (i : Itm) (d : Nat), ItOk d i → PyData.canLay0 (itD i) = true
  | .say z, _, h => by cases h with | say h => rw [itD]; simp [PyData.canLay0, PyData.canLayAll0, wd_ok h]; decide +kernel
  | .press z, _, h => by cases h with | press h => rw [itD]; simp [PyData.canLay0, PyData.canLayAll0, wd_ok h]; decide +kernel
  | .go z, _, h => by cases h with | go h => rw [itD]; simp [PyData.canLay0, PyData.canLayAll0, wd_ok h]; decide +kernel
  | .times n its, _, h => by cases h with | times _ _ _ h => rw [itD]; simp [PyData.canLay0, PyData.canLayAll0, itsD_lay its _ h]; decide +kernel
theorem itsD_lay : ∀ (is : List Itm) (d : Nat), ItsOk d is → PyData.canLayAll0 (itsD is) = true
  | [], _, _ => by rw [itsD]; simp [PyData.canLayAll0]
  | i :: is, _, h => by cases h with | cons h1 h2 => rw [itsD]; simp [PyData.canLayAll0, itD_lay i _ h1, itsD_lay is _ h2]
end
mutual
theorem itD_deep : ∀ (i : Itm) (d : Nat), ItOk d i → PyData.depth (itD i) ≤ 4 + 3 * d
  | .say z, _, h => by rw [itD]; simp [PyData.depth, PyData.depthAll]; omega
  | .press z, _, h => by rw [itD]; simp [PyData.depth, PyData.depthAll]; omega
  | .go z, _, h => by rw [itD]; simp [PyData.depth, PyData.depthAll]; omega
  | .times n its, _, h => by
    cases h with
    | times _ _ _ h =>
      have := itsD_deep its _ h
      rw [itD]; simp [PyData.depth, PyData.depthAll]; omega
theorem itsD_deep : ∀ (is : List Itm) (d : Nat), ItsOk d is → PyData.depthAll (itsD is) ≤ 4 + 3 * d
  | [], _, _ => by rw [itsD]; simp [PyData.depthAll]
  | i :: is, _, h => by
    cases h with
    | cons h1 h2 =>
      have := itD_deep i _ h1
      have := itsD_deep is _ h2
      rw [itsD]; simp [PyData.depthAll]; omega
end
theorem its_shaped {is : List Itm} {d : Nat} (h : ItsOk d is) (l : d ≤ 10) : SeqAt.shaped (.list (itsD is)) = true := by
  have a := itsD_lay is d h
  have b := itsD_deep is d h
  unfold SeqAt.shaped
  rw [Bool.and_eq_true]
  refine ⟨?_, decide_eq_true ?_⟩
  · simp [PyData.canLay0, a]
  · simp [PyData.depth]
    omega
theorem its_nil (is : List Itm) : PyData.eqv (.list (itsD is)) (.list []) = is.isEmpty := by
  cases is with
  | nil => rw [itsD]; rfl
  | cons i is => rw [itsD]; rfl
theorem itsD_len : ∀ is : List Itm, (itsD is).length = is.length
  | [] => by rw [itsD]; rfl
  | i :: is => by rw [itsD, List.length_cons, List.length_cons, itsD_len is]
mutual
theorem Rp.mono2 {B B' : Addr → Prop} {H H' : Hp} (b : ∀ a, B' a → B a) (e : ∀ a xs, ¬B a → (H a = some (.tup xs) → H' a = some (.tup xs)) ∧ (H a = some (.lst xs) → H' a = some (.lst xs))) : ∀ (i : Itm) (v : V), Rp B H v i → Rp B' H' v i
  | .say _, _, h => by cases h with | say n h => exact .say (fun z => n (b _ z)) ((e _ _ n).1 h)
  | .press _, _, h => by cases h with | press n h => exact .press (fun z => n (b _ z)) ((e _ _ n).1 h)
  | .go _, _, h => by cases h with | go n h => exact .go (fun z => n (b _ z)) ((e _ _ n).1 h)
  | .times _ its, _, h => by cases h with | times n m h g r => exact .times (fun z => n (b _ z)) (fun z => m (b _ z)) ((e _ _ n).1 h) ((e _ _ m).2 g) (Rps.mono2 b e its _ r)
theorem Rps.mono2 {B B' : Addr → Prop} {H H' : Hp} (b : ∀ a, B' a → B a) (e : ∀ a xs, ¬B a → (H a = some (.tup xs) → H' a = some (.tup xs)) ∧ (H a = some (.lst xs) → H' a = some (.lst xs))) : ∀ (is : List Itm) (vs : List V), Rps B H vs is → Rps B' H' vs is
  | [], _, h => by cases h; exact .nil
  | i :: is, _, h => by cases h with | cons h1 h2 => exact .cons (Rp.mono2 b e i _ h1) (Rps.mono2 b e is _ h2)
end
theorem Rps.but {B : Addr → Prop} {H H' : Hp} {p : Addr} {kvs : List (Key × V)} (g : But p H H') (hp : H p = some (.dK kvs)) {is : List Itm} {vs : List V} (h : Rps B H vs is) : Rps B H' vs is :=
  Rps.mono2 (fun _ z => z) (fun a xs _ => ⟨fun h => g _ _ (ne_of h hp (by intro z; cases z)) h, fun h => g _ _ (ne_of h hp (by intro z; cases z)) h⟩) is vs h
theorem Rps.same {B : Addr → Prop} {H H' : Hp} (g : Same H H') {is : List Itm} {vs : List V} (h : Rps B H vs is) : Rps B H' vs is :=
  Rps.mono (fun _ z => z) (fun a o _ h => g _ _ h) is vs h
theorem Rps.del {B : Addr → Prop} {H : Hp} : ∀ {is : List Itm} {vs : List V} (k : Nat), Rps B H vs is → Rps B H (vs.eraseIdx k) (is.eraseIdx k)
  | [], _, k, h => by cases h; exact .nil
  | i :: is, _, 0, h => by cases h with | cons h1 h2 => exact h2
  | i :: is, _, k + 1, h => by cases h with | cons h1 h2 => exact .cons h1 (h2.del k)
theorem ItsOk.del {d : Nat} : ∀ {is : List Itm} (k : Nat), ItsOk d is → ItsOk d (is.eraseIdx k)
  | [], k, h => .nil
  | i :: is, 0, h => by cases h with | cons h1 h2 => exact h2
  | i :: is, k + 1, h => by cases h with | cons h1 h2 => exact .cons h1 (h2.del k)
theorem del_perm {α : Type} : ∀ (l : List α) (k : Nat) (y : α), l[k]? = some y → l.Perm (y :: l.eraseIdx k)
  | [], k, y, h => by cases h
  | x :: l, 0, y, h => by cases h; exact .refl _
  | x :: l, k + 1, y, h => ((del_perm l k y h).cons x).trans (.swap ..)
end Pn
end

section
set_option Elab.async false
set_option linter.all false
set_option maxRecDepth 100000
set_option maxHeartbeats 4000000
/-! Items and bodies as objects: how they stand in the heap, their texts. -/
namespace Pn
open PySem PySem.Spec PyProof.Rows L2
/-- the places of the classes -/
structure Cs where
  say : Addr
  press : Addr
  go : Addr
  times : Addr
  body : Addr
mutual
/-- an item as it may be made, so deep at most -/
inductive ItW : Nat → Itm → Prop
  | say {d : Nat} {z : PySem.Str} : Wd z → ItW d (.say z)
  | press {d : Nat} {z : PySem.Str} : Wd z → ItW d (.press z)
  | go {d : Nat} {z : PySem.Str} : Wd z → ItW d (.go z)
  | times {d : Nat} {n : Int} {its : List Itm} : 0 ≤ n → n ≤ 1000000000 → its.length ≤ 6 → ItsW d its → ItW (d + 1) (.times n its)
inductive ItsW : Nat → List Itm → Prop
  | nil {d : Nat} : ItsW d []
  | cons {d : Nat} {i : Itm} {is : List Itm} : ItW d i → ItsW d is → ItsW d (i :: is)
end
mutual
theorem ItOk.w : ∀ {d : Nat} {i : Itm}, ItOk d i → ItW d i
  | _, _, .say h => .say h
  | _, _, .press h => .press h
  | _, _, .go h => .go h
  | _, _, .times a b l h => .times a b (by omega) (ItsOk.w h)
theorem ItsOk.w : ∀ {d : Nat} {is : List Itm}, ItsOk d is → ItsW d is
  | _, _, .nil => .nil
  | _, _, .cons a b => .cons (ItOk.w a) (ItsOk.w b)
end
mutual
theorem ItW.up : ∀ {d e : Nat} {i : Itm}, d ≤ e → ItW d i → ItW e i
  | _, _, _, _, .say h => .say h
  | _, _, _, _, .press h => .press h
  | _, _, _, _, .go h => .go h
  | _, 0, _, l, .times a b q h => absurd l (by omega)
  | _, e + 1, _, l, .times a b q h => .times a b q (ItsW.up (by omega) h)
theorem ItsW.up : ∀ {d e : Nat} {is : List Itm}, d ≤ e → ItsW d is → ItsW e is
  | _, _, _, _, .nil => .nil
  | _, _, _, l, .cons a b => .cons (ItW.up l a) (ItsW.up l b)
end
mutual
theorem ItW.dI : ∀ {d : Nat} {i : Itm}, ItW d i → dI i ≤ d
  | _, _, .say h => by rw [Pn.dI]; exact Nat.zero_le _
  | _, _, .press h => by rw [Pn.dI]; exact Nat.zero_le _
  | _, _, .go h => by rw [Pn.dI]; exact Nat.zero_le _
  | _, _, .times a b q h => by rw [Pn.dI]; have := ItsW.dIs h; omega
theorem ItsW.dIs : ∀ {d : Nat} {is : List Itm}, ItsW d is → dIs is ≤ d
  | _, _, .nil => by rw [Pn.dIs]; exact Nat.zero_le _
  | _, _, .cons a b => by rw [Pn.dIs]; have := ItW.dI a; have := ItsW.dIs b; omega
end
mutual
/-- an item is as deep as it is -/
theorem ItW.fit : ∀ {d : Nat} {i : Itm}, ItW d i → ItW (Pn.dI i) i
  | _, _, .say h => .say h
  | _, _, .press h => .press h
  | _, _, .go h => .go h
  | _, _, .times a b q h => by rw [Pn.dI, Nat.add_comm]; exact .times a b q (ItsW.fit h)
theorem ItsW.fit : ∀ {d : Nat} {is : List Itm}, ItsW d is → ItsW (Pn.dIs is) is
  | _, _, .nil => .nil
  | _, _, .cons a b => by
    rw [Pn.dIs]
    exact .cons (ItW.up (Nat.le_max_left ..) (ItW.fit a)) (ItsW.up (Nat.le_max_right ..) (ItsW.fit b))
end
theorem ItsW.get {d : Nat} : ∀ {is : List Itm} {k : Nat} {i : Itm}, ItsW d is → is[k]? = some i → ItW d i
  | [], k, i, h, e => by cases e
  | _ :: is, 0, i, h, e => by cases h with | cons h1 h2 => cases e; exact h1
  | _ :: is, k + 1, i, h, e => by cases h with | cons h1 h2 => exact h2.get (k := k) e
theorem ItsW.app {d : Nat} : ∀ {is js : List Itm}, ItsW d is → ItsW d js → ItsW d (is ++ js)
  | [], _, h, g => g
  | i :: is, _, h, g => by cases h with | cons h1 h2 => exact .cons h1 (h2.app g)
/-! ### texts -/
mutual
def txI : Itm → PySem.Str
  | .say z => (PySem.Str.empty ++ "!") ++ z
  | .press z => z
  | .go z => (PySem.Str.empty ++ "@") ++ z
  | .times n its => (((PySem.Str.empty ++ (PySem.Str.ofString (toString n))) ++ "(") ++ Txt.join " " (txs its)) ++ ")"
def txs : List Itm → List PySem.Str
  | [] => []
  | i :: is => txI i :: txs is
end
def txB (its : List Itm) : PySem.Str := Txt.join " " (txs its)
theorem txs_len : ∀ is : List Itm, (txs is).length = is.length
  | [] => by rw [txs]; rfl
  | i :: is => by rw [txs, List.length_cons, List.length_cons, txs_len is]
theorem txs_get : ∀ (is : List Itm) (k : Nat) (i : Itm), is[k]? = some i → (txs is)[k]? = some (txI i)
  | [], k, i, e => by cases e
  | _ :: is, 0, i, e => by cases e; rw [txs]; rfl
  | _ :: is, k + 1, i, e => by rw [txs]; exact txs_get is k i e
theorem txs_app : ∀ is js : List Itm, txs (is ++ js) = txs is ++ txs js
  | [], js => by rw [txs]; rfl
  | i :: is, js => by rw [List.cons_append, txs, txs, txs_app is js]; rfl
def bI : Nat → Nat
  | 0 => 20
  | d + 1 => 40 + 6 * (bI d + 1)
theorem bI_up : ∀ {d e : Nat}, d ≤ e → bI d ≤ bI e
  | 0, 0, _ => Nat.le_refl _
  | 0, e + 1, _ => by have := bI_up (Nat.zero_le e); unfold bI at this ⊢; omega
  | d + 1, 0, h => absurd h (by omega)
  | d + 1, e + 1, h => by have := bI_up (show d ≤ e by omega); unfold bI; omega
theorem bI_lo (d : Nat) : 20 ≤ bI d := bI_up (Nat.zero_le d)
theorem wd_len {z : PySem.Str} (h : Wd z) : z.length ≤ 8 := by
  have := h.2.1
  rw [lenL]
  omega
theorem joinL_len (s : List Nat) : ∀ l : List (List Nat), (TL.joinL s l).length ≤ (l.map List.length).sum + l.length * s.length
  | [] => Nat.zero_le _
  | [p] => by simp [TL.joinL]
  | p :: q :: r => by
    have ih := joinL_len s (q :: r)
    rw [TL.joinL, List.length_append, List.length_append, List.map_cons, List.sum_cons, List.length_cons (as := q :: r), Nat.succ_mul]
    omega
theorem join_len (a : PySem.Str) (ys : List PySem.Str) : (Txt.join a ys).length ≤ (ys.map PySem.Str.length).sum + ys.length * a.length := by
  have h := joinL_len (TL.tl a) (ys.map TL.tl)
  have e : (Txt.join a ys).length = (TL.joinL (TL.tl a) (ys.map TL.tl)).length := by
    rw [← TL.tl_join, ← TL.join_eq]
    exact TL.len_tl (Txt.join a ys)
  rw [e]
  rw [List.map_map, List.length_map] at h
  have e2 : (List.length ∘ TL.tl) = PySem.Str.length := by
    funext x
    exact (TL.len_tl x).symm
  rw [e2] at h
  rw [TL.len_tl a]
  exact h
theorem sum_le {α : Type} (f : α → Nat) (b : Nat) : ∀ l : List α, (∀ x ∈ l, f x ≤ b) → (l.map f).sum ≤ l.length * b
  | [], _ => by simp
  | x :: l, h => by
    have := sum_le f b l (fun y m => h y (List.mem_cons_of_mem _ m))
    have := h x (List.mem_cons_self ..)
    rw [List.map_cons, List.sum_cons, List.length_cons, Nat.succ_mul]
    omega
mutual
theorem txI_len : ∀ {d : Nat} {i : Itm}, ItW d i → (txI i).length ≤ bI d
  | d, .say z, .say h => by
    rw [txI, Str.length_append, Str.length_append]
    have := wd_len h
    have e : (PySem.Str.empty).length = 0 := rfl
    have e2 : (("!" : PySem.Str)).length = 1 := by decide +kernel
    have := bI_lo d
    omega
  | d, .press z, .press h => by
    rw [txI]
    have := wd_len h
    have := bI_lo d
    omega
  | d, .go z, .go h => by
    rw [txI, Str.length_append, Str.length_append]
    have := wd_len h
    have e : (PySem.Str.empty).length = 0 := rfl
    have e2 : (("@" : PySem.Str)).length = 1 := by decide +kernel
    have := bI_lo d
    omega
  | d + 1, .times n its, .times a b l h => by
    rw [txI, Str.length_append, Str.length_append, Str.length_append, Str.length_append]
    have e : (PySem.Str.empty).length = 0 := rfl
    have e1 : (("(" : PySem.Str)).length = 1 := by decide +kernel
    have e2 : ((")" : PySem.Str)).length = 1 := by decide +kernel
    have e3 : ((" " : PySem.Str)).length = 1 := by decide +kernel
    have n1 : (PySem.Str.ofString (toString n)).length ≤ 10 := toString_length_le a (by decide) (by omega)
    have j := join_len " " (txs its)
    have s := sum_le PySem.Str.length (bI d) (txs its) (fun x m => txs_mem h x m)
    rw [txs_len] at s j
    have : its.length * bI d ≤ 6 * bI d := Nat.mul_le_mul_right _ l
    rw [e3] at j
    unfold bI
    omega
theorem txs_mem : ∀ {d : Nat} {is : List Itm}, ItsW d is → ∀ x ∈ txs is, PySem.Str.length x ≤ bI d
  | d, [], .nil, x, m => by rw [txs] at m; cases m
  | d, i :: is, .cons a b, x, m => by
    rw [txs] at m
    rcases List.mem_cons.mp m with rfl | m
    · exact txI_len a
    · exact txs_mem b x m
end
theorem txB_len {d : Nat} {its : List Itm} (h : ItsW d its) (l : its.length ≤ 6) : (txB its).length ≤ 6 * (bI d + 1) := by
  have e3 : ((" " : PySem.Str)).length = 1 := by decide +kernel
  have j := join_len " " (txs its)
  have s := sum_le PySem.Str.length (bI d) (txs its) (fun x m => txs_mem h x m)
  rw [txs_len] at s j
  rw [e3] at j
  have : its.length * bI d ≤ 6 * bI d := Nat.mul_le_mul_right _ l
  unfold txB
  omega
theorem txB_join {d : Nat} {its : List Itm} (h : ItsW d its) (l : its.length ≤ 6) (dd : d ≤ 3) : ((txs its).map PySem.Str.length).sum + (txs its).length * (" " : PySem.Str).length ≤ 16777216 := by
  have e3 : ((" " : PySem.Str)).length = 1 := by decide +kernel
  have s := sum_le PySem.Str.length (bI d) (txs its) (fun x m => txs_mem h x m)
  rw [txs_len] at s ⊢
  rw [e3]
  have : its.length * bI d ≤ 6 * bI d := Nat.mul_le_mul_right _ l
  have q : bI d ≤ bI 3 := bI_up dd
  have q3 : bI 3 = 6298 := by decide
  omega
end Pn
end

section
set_option Elab.async false
set_option linter.all false
set_option maxRecDepth 100000
set_option maxHeartbeats 4000000
/-! Items and bodies as objects: what stays of them; values that are items or none. -/
namespace Pn
open PySem PySem.Spec PyProof.Rows L2
def fTimes (n : Int) (b : Addr) (t : PySem.Str) : List (PySem.Str × V) := [("number", .int n), ("body", .ref b), ("_text", .str t)]
def fBody (e : Addr) (d : Int) (t : PySem.Str) : List (PySem.Str × V) := [("_entries", .ref e), ("_depth", .int d), ("_text", .str t)]
mutual
/-- an item's object -/
inductive Io (c : Cs) (H : Hp) : V → Itm → Prop
  | say {a dx : Addr} {z : PySem.Str} : H a = some (.ins c.say dx [("command", .str z)]) → Io c H (.ref a) (.say z)
  | press {a dx : Addr} {z : PySem.Str} : H a = some (.ins c.press dx [("key", .str z)]) → Io c H (.ref a) (.press z)
  | go {a dx : Addr} {z : PySem.Str} : H a = some (.ins c.go dx [("mode", .str z)]) → Io c H (.ref a) (.go z)
  | times {a dx b : Addr} {n : Int} {its : List Itm} : H a = some (.ins c.times dx (fTimes n b (txI (.times n its)))) → Bo c H b its → Io c H (.ref a) (.times n its)
/-- a body's object -/
inductive Bo (c : Cs) (H : Hp) : Addr → List Itm → Prop
  | mk {b dx e : Addr} {vs : List V} {its : List Itm} : H b = some (.ins c.body dx (fBody e ((dIs its : Nat) : Int) (txB its))) → H e = some (.tup vs) → Ios c H vs its → Bo c H b its
inductive Ios (c : Cs) (H : Hp) : List V → List Itm → Prop
  | nil : Ios c H [] []
  | cons {v : V} {vs : List V} {i : Itm} {is : List Itm} : Io c H v i → Ios c H vs is → Ios c H (v :: vs) (i :: is)
end
/-- the fields of an item or of a body that is made -/
def Whole (fs : List (PySem.Str × V)) : Prop := (∃ z : PySem.Str, fs = [(("command" : PySem.Str), V.str z)]) ∨ (∃ z : PySem.Str, fs = [(("key" : PySem.Str), V.str z)]) ∨ (∃ z : PySem.Str, fs = [(("mode" : PySem.Str), V.str z)]) ∨ (∃ n b t, fs = fTimes n b t) ∨ (∃ e d t, fs = fBody e d t)
/-- what stays: instances that are made, tuples -/
structure Kept (H H' : Hp) : Prop where
  ins : ∀ a C dx fs, Whole fs → H a = some (.ins C dx fs) → H' a = some (.ins C dx fs)
  tup : ∀ a xs, H a = some (.tup xs) → H' a = some (.tup xs)
theorem Kept.same {H H' : Hp} (S : Same H H') : Kept H H' := ⟨fun a C dx fs _ h => S a _ h, fun a xs h => S a _ h⟩
theorem Kept.ext {H H' : Hp} (S : LamX.ExtN H H') : Kept H H' := ⟨fun a C dx fs _ h => S a _ h (fun ps z => by cases z), fun a xs h => S a _ h (fun ps z => by cases z)⟩
theorem Kept.but {H H' : Hp} {p : Addr} {kvs : List (Key × V)} (B : But p H H') (hp : H p = some (.dK kvs)) : Kept H H' :=
  ⟨fun a C dx fs _ h => B a _ (ne_of h hp (by intro z; cases z)) h, fun a xs h => B a _ (ne_of h hp (by intro z; cases z)) h⟩
theorem Kept.new {H H' : Hp} {x : Addr} (hx : H x = none) (B : But x H H') : Kept H H' := ⟨fun a C dx fs _ h => B a _ (ne_of_none h hx) h, fun a xs h => B a _ (ne_of_none h hx) h⟩
/-- an instance that isn't made yet may change -/
theorem Kept.half {H H' : Hp} {x C dx : Addr} {fs : List (PySem.Str × V)} (hx : H x = some (.ins C dx fs)) (nw : ¬ Whole fs) (B : But x H H') : Kept H H' :=
  ⟨fun a C2 dx2 fs2 q h => B a _ (fun z => by rw [z, hx] at h; cases h; exact nw q) h, fun a xs h => B a _ (ne_of h hx (by intro z; cases z)) h⟩
theorem Kept.trans {H H1 H2 : Hp} (a : Kept H H1) (b : Kept H1 H2) : Kept H H2 := ⟨fun x C dx fs q h => b.ins x C dx fs q (a.ins x C dx fs q h), fun x xs h => b.tup x xs (a.tup x xs h)⟩
mutual
theorem Io.keep {c : Cs} {H H' : Hp} (k : Kept H H') : ∀ {v : V} {i : Itm}, Io c H v i → Io c H' v i
  | _, _, .say h => .say (k.ins _ _ _ _ (.inl ⟨_, rfl⟩) h)
  | _, _, .press h => .press (k.ins _ _ _ _ (.inr (.inl ⟨_, rfl⟩)) h)
  | _, _, .go h => .go (k.ins _ _ _ _ (.inr (.inr (.inl ⟨_, rfl⟩))) h)
  | _, _, .times h b => .times (k.ins _ _ _ _ (.inr (.inr (.inr (.inl ⟨_, _, _, rfl⟩)))) h) (Bo.keep k b)
theorem Bo.keep {c : Cs} {H H' : Hp} (k : Kept H H') : ∀ {b : Addr} {is : List Itm}, Bo c H b is → Bo c H' b is
  | _, _, .mk h e r => .mk (k.ins _ _ _ _ (.inr (.inr (.inr (.inr ⟨_, _, _, rfl⟩)))) h) (k.tup _ _ e) (Ios.keep k r)
theorem Ios.keep {c : Cs} {H H' : Hp} (k : Kept H H') : ∀ {vs : List V} {is : List Itm}, Ios c H vs is → Ios c H' vs is
  | _, _, .nil => .nil
  | _, _, .cons a b => .cons (Io.keep k a) (Ios.keep k b)
end
theorem Ios.len {c : Cs} {H : Hp} : ∀ {is : List Itm} {vs : List V}, Ios c H vs is → vs.length = is.length
  | [], _, h => by cases h; rfl
  | i :: is, _, h => by cases h with | cons h1 h2 => rw [List.length_cons, List.length_cons, h2.len]
theorem Ios.get {c : Cs} {H : Hp} : ∀ {is : List Itm} {vs : List V} {k : Nat} {v : V}, Ios c H vs is → vs[k]? = some v → ∃ i, is[k]? = some i ∧ Io c H v i
  | [], _, k, v, h, e => by cases h; cases e
  | i :: is, _, 0, v, h, e => by cases h with | cons h1 h2 => cases e; exact ⟨i, rfl, h1⟩
  | i :: is, _, k + 1, v, h, e => by cases h with | cons h1 h2 => exact h2.get (k := k) e
theorem Ios.app {c : Cs} {H : Hp} : ∀ {is js : List Itm} {vs ws : List V}, Ios c H vs is → Ios c H ws js → Ios c H (vs ++ ws) (is ++ js)
  | [], _, _, _, h, g => by cases h; exact g
  | i :: is, _, _, _, h, g => by cases h with | cons h1 h2 => exact .cons h1 (h2.app g)
theorem not_whole1 (n : Int) : ¬ Whole [("number", .int n)] := by
  have h1 : ¬ (("number" : PySem.Str) = "command") := by decide +kernel
  have h2 : ¬ (("number" : PySem.Str) = "key") := by decide +kernel
  have h3 : ¬ (("number" : PySem.Str) = "mode") := by decide +kernel
  rintro (⟨z, h⟩ | ⟨z, h⟩ | ⟨z, h⟩ | ⟨n, b, t, h⟩ | ⟨e, d, t, h⟩)
  · exact h1 (by injection h with a b; injection a)
  · exact h2 (by injection h with a b; injection a)
  · exact h3 (by injection h with a b; injection a)
  · unfold fTimes at h; injection h with a b; cases b
  · unfold fBody at h; injection h with a b; cases b
theorem not_whole2 (a b : PySem.Str × V) : ¬ Whole [a, b] := by
  rintro (⟨z, h⟩ | ⟨z, h⟩ | ⟨z, h⟩ | ⟨n, b, t, h⟩ | ⟨e, d, t, h⟩)
  · injection h with a b; cases b
  · injection h with a b; cases b
  · injection h with a b; cases b
  · unfold fTimes at h; injection h with a b; injection b with c d; cases d
  · unfold fBody at h; injection h with a b; injection b with c d; cases d
/-! ### kinds that stay -/
/-- what stays of things that have a type -/
structure KeptT (K : PySem.W.Frag) (H H' : Hp) : Prop where
  k : Kept H H'
  ty : ∀ v t, TyX K H v t → TyX K H' v t
theorem tyx_map {K : PySem.W.Frag} {H H' : Hp} {v : V} {t : Value} (k : ∀ b o, H b = some o → (∀ ps, o ≠ .tbl ps) → H' b = some o) (h : TyX K H v t) : TyX K H' v t := by
  cases h with
  | base h =>
    refine .base ?_
    cases h with
    | non => exact .non
    | bl x => exact .bl x
    | int i => exact .int i
    | str x => exact .str x
    | flt x => exact .flt x
    | lst e => exact .lst (k _ _ e (fun ps z => by cases z))
    | frz e => exact .frz (k _ _ e (fun ps z => by cases z))
    | tup e => exact .tup (k _ _ e (fun ps z => by cases z))
    | dK e => exact .dK (k _ _ e (fun ps z => by cases z))
    | dT e => exact .dT (k _ _ e (fun ps z => by cases z))
    | ins e cl ha hn ht hm => exact .ins (k _ _ e (fun ps z => by cases z)) cl ha hn ht hm
  | byt b => exact .byt b
  | set e => exact .set (k _ _ e (fun ps z => by cases z))
  | kList e c => exact .kList e c
  | kTuple e c => exact .kTuple e c
  | kDict e c => exact .kDict e c
  | fTuple e => exact .fTuple (k _ _ e (fun ps z => by cases z))
  | fDict e => exact .fDict (k _ _ e (fun ps z => by cases z))
theorem tyx_but {K : PySem.W.Frag} {H H' : Hp} {p : Addr} {kvs kvs' : List (Key × V)} {v : V} {t : Value} (B : But p H H') (hp : H p = some (.dK kvs)) (hp' : H' p = some (.dK kvs')) (h : TyX K H v t) : TyX K H' v t := by
  have n : ∀ {a : Addr} {o : HO}, H a = some o → (∀ kvs, o ≠ .dK kvs) → H' a = some o := fun {a o} e q => B a _ (fun z => q kvs (by rw [z, hp] at e; exact (Option.some.inj e).symm)) e
  cases h with
  | base h =>
    refine .base ?_
    cases h with
    | non => exact .non
    | bl x => exact .bl x
    | int i => exact .int i
    | str x => exact .str x
    | flt x => exact .flt x
    | lst e => exact .lst (n e (fun ps z => by cases z))
    | frz e => exact .frz (n e (fun ps z => by cases z))
    | tup e => exact .tup (n e (fun ps z => by cases z))
    | dK e =>
      rename_i a kvs2
      by_cases q : a = p
      · rw [q]; exact .dK hp'
      · exact .dK (B _ _ q e)
    | dT e => exact .dT (n e (fun ps z => by cases z))
    | ins e cl ha hn ht hm => exact .ins (n e (fun ps z => by cases z)) cl ha hn ht hm
  | byt b => exact .byt b
  | set e => exact .set (n e (fun ps z => by cases z))
  | kList e c => exact .kList e c
  | kTuple e c => exact .kTuple e c
  | kDict e c => exact .kDict e c
  | fTuple e => exact .fTuple (n e (fun ps z => by cases z))
  | fDict e => exact .fDict (n e (fun ps z => by cases z))
theorem KeptT.same {K : PySem.W.Frag} {H H' : Hp} (S : Same H H') : KeptT K H H' := ⟨.same S, fun v t h => tyx_map (fun b o e _ => S b o e) h⟩
theorem KeptT.ext {K : PySem.W.Frag} {H H' : Hp} (S : LamX.ExtN H H') : KeptT K H H' := ⟨.ext S, fun v t h => tyx_map S h⟩
theorem KeptT.but {K : PySem.W.Frag} {H H' : Hp} {p : Addr} {kvs kvs' : List (Key × V)} (B : But p H H') (hp : H p = some (.dK kvs)) (hp' : H' p = some (.dK kvs')) : KeptT K H H' := ⟨.but B hp, fun v t h => tyx_but B hp hp' h⟩
theorem KeptT.trans {K : PySem.W.Frag} {H H1 H2 : Hp} (a : KeptT K H H1) (b : KeptT K H1 H2) : KeptT K H H2 := ⟨a.k.trans b.k, fun v t h => b.ty v t (a.ty v t h)⟩
/-! ### any values -/
/-- a value of a type that isn't below one of the classes -/
def NoIt (K : PySem.W.Frag) (c : Cs) (H : Hp) (v : V) : Prop := ∃ t, TyX K H v t ∧ PySem.W.kitOne K t (.ref c.say) = some false ∧ PySem.W.kitOne K t (.ref c.press) = some false ∧ PySem.W.kitOne K t (.ref c.go) = some false ∧ PySem.W.kitOne K t (.ref c.times) = some false
inductive Ent (K : PySem.W.Frag) (c : Cs) (H : Hp) : V → Option Itm → Prop
  | item {v : V} {i : Itm} : Io c H v i → ItW 2 i → Ent K c H v (some i)
  | other {v : V} : NoIt K c H v → Ent K c H v none
inductive Ents (K : PySem.W.Frag) (c : Cs) (H : Hp) : List V → List (Option Itm) → Prop
  | nil : Ents K c H [] []
  | cons {v : V} {vs : List V} {o : Option Itm} {os : List (Option Itm)} : Ent K c H v o → Ents K c H vs os → Ents K c H (v :: vs) (o :: os)
end Pn
end

section
set_option Elab.async false
set_option linter.all false
set_option maxRecDepth 100000
set_option maxHeartbeats 4000000
/-! isinstance of the exception that is handled. -/
namespace L2
open PySem PySem.Spec PyProof.Rows
/-- isinstance(e, c), e the exception that is handled: an own one with a dict -/
def rIsS (K : PySem.W.Frag) (a : Addr) (cls : Value) (d : Option Addr) : List V → Hp → VK → Prop := fun xs H Q => ∃ (C dd : Addr) (fs : List (Str × V)) (bmB : List Value) (newId : String) (c : V) (u : Value) (b : Bool), xs = [.ref a, c] ∧ cls = .ref C ∧ Exk K C bmB newId ∧ d = some dd ∧ H dd = some (.xd fs) ∧ ClsV c u ∧ PySem.W.kitOne K (.ref C) u = some b ∧ Q (.bl b) H
section
variable {X : Cx} {a : Addr} {oe : Obj} {cls : Value} {d : Option Addr} {pn : List (Addr × Obj)}
theorem call_isS (hz : Zc cls d oe) (hf : ∃ vs, oe.data = Data.fields vs) : CallR (X.suite a ((a, oe) :: pn)) (.builtin "isinstance") (rIsS X.K a cls d) := by
  intro pins s σ H xs us Q I r h
  obtain ⟨C, dd, fs, bmB, newId, c, u, b, rfl, rfl, T, rfl, ed, k, e, q⟩ := h
  obtain ⟨u1, u2, rfl, r1, r2⟩ := vals2 r
  have e2 := k.eq r2
  subst e2
  obtain rfl : u1 = Value.ref a := r1
  obtain ⟨ha, _⟩ := I.pin (a, oe) (List.mem_append_left pins (List.mem_cons_self ..))
  obtain ⟨vs, hd⟩ := hf
  obtain ⟨mA, hns, hr⟩ := I.hok dd (HO.xd fs) ed
  obtain ⟨od, ho, hl⟩ := lookIn_ns hns
  have J : PySem.W.InstAt s.heap a oe C (some od) := ⟨ha, hz.1, by unfold PySem.W.notCls; rw [hd], by rw [hz.2]; exact ho⟩
  exact PySem.W.kia_one (PySem.W.kitx_exc (od := some od) T.cs T.ga T.gg T.sub T.cl T.sg T.tk T.mr) I.kIn J e (fun z => nomatch z) fun tk => ⟨.bl b, H, I.tok tk, rfl, q⟩
end
end L2
end

section
set_option Elab.async false
set_option linter.all false
set_option maxRecDepth 100000
set_option maxHeartbeats 4000000
/-! An own exception with one field is raised, whatever it derives from. -/
namespace L2
open PySem PySem.Spec PyProof.Rows
section
variable {X : Cx} {pins : List (Addr × Obj)} {σ : St} {H : Hp} {s : Shared} {C : Addr} {B newId initId : String} {bmB : List Value} {f : Str}
theorem run_raise1 {rest : List Value} {kw : List (Str × Value)} {y : V} {u : Value} {Q : XK} (D : Bas B newId initId bmB) (T : One X.K C bmB newId f) (hr : Room 1 X.A) (I : Inv X pins σ H s) (ry : RelV y u) (tyC : PySem.W.typeIn X.K (.ref C) = some (.type "type"))
    (ha : (rest = [u] ∧ kw = []) ∨ (rest = [] ∧ kw = [(f, u)])) (h : ∀ d, H d = none → Q (.ref C) (some d) (upd H d (.xd [(f, y)]))) :
    wpAny (model X.prog X.w) X.A (call (.ref C) rest kw) (MkP X pins σ Q) X.xe s := by
  obtain ⟨nm, N, qn, bs, bm, hdct, sn, sub, ab, col, dd, k0, k1, k2, k3, k5, hC, hT⟩ := PySem.W.excInit_of I.kIn T.ex.ini
  obtain ⟨fI, qual, oc, doc, pm, cdv, ct, od, an, osl, p1, p2, q1, q2, q3, q4, iC, tI, ho, hcd⟩ := T.ini
  have hlim := I.nolimit
  obtain ⟨hp, g, dr, tk, os⟩ := s
  have k : ∀ b o, hp.get? b = some o → ((hp.push (PySem.W.kdv_tup rest)).push (PySem.HandSPX.excO C hp.objs.size)).get? b = some o := fun b o e => Heap.get?_push_of_some _ (Heap.get?_push_of_some _ e)
  have hget : ((hp.push (PySem.W.kdv_tup rest)).push (PySem.HandSPX.excO C hp.objs.size)).get? (hp.objs.size + 1) = some (PySem.HandSPX.excO C hp.objs.size) := by heap_get
  have hl : rest.length ≤ sizeLine := by
    rcases ha with ⟨rfl, _⟩ | ⟨rfl, _⟩ <;> · rw [sizeLine_eq]; simp
  refine wpAny_call (PySem.Xv.made D.f hT hC (PySem.W.looks_findIn I.kIn iC) (fun self => PySem.W.bind_fn I.kIn self tI) hl ?_)
  refine PySem.Xv.init1 (x := hp.objs.size + 1) (t0 := hp.objs.size) (v := u) T.ff ho hcd ?_ D.s T.ex.sto T.tk (I.kIn.keeps k) (hlim.keeps k) hget ?_ fun h' tk' dx k' dn hx hns => ?_
  · rcases ha with ⟨rfl, rfl⟩ | ⟨rfl, rfl⟩ <;> rcases T.ff with rfl | rfl | rfl | rfl | rfl | rfl <;> exact .of_eq (by first | rfl | with_unfolding_all rfl)
  · rw [show (X.A.under _).depth = X.A.depth + 1 from by first | rfl | simp [Around.under, Code.weight, Code.isCreation, Code.isGuard, Code.isCaller, Code.frames, Code.isFrame, guardIds]]
    have := hr.dp
    omega
  · refine ⟨rfl, ?_⟩
    have sz : hp.objs.size + 1 + 1 ≤ dx := by
      have z := dn
      simpa only [Heap.size_push] using z
    have J := I.two (t' := tk') (d := dx) (a := hp.objs.size + 1) (o1 := exd dx [(f, y)]) (o2 := exo (hp.objs.size + 1) C (some dx)) (h' := h') (fun b o e => k' b o (Nat.ne_of_lt (Nat.lt_succ_of_lt (Heap.lt_size e))) (k b o e))
      (Nat.le_trans (Nat.le_trans (Nat.le_succ _) (Nat.le_succ _)) sz) (Nat.le_succ _) (Nat.ne_of_gt sz) (exd_ok hns (relOne ry f)) (exo_ok hx)
    have na : H (hp.objs.size + 1) = none := I.hok.fresh (Nat.le_succ _)
    have nd : H dx = none := I.hok.fresh (Nat.le_trans (Nat.le_trans (Nat.le_succ _) (Nat.le_succ _)) sz)
    have ne : dx ≠ hp.objs.size + 1 := Nat.ne_of_gt sz
    have sz2 : ((hp.push (PySem.W.kdv_tup rest)).push (PySem.HandSPX.excO C hp.objs.size)).objs.size = hp.objs.size + 1 + 1 := by simp only [Heap.size_push]
    have un : Un (frs X.stack) [] (upd H (hp.objs.size + 1) (exo (hp.objs.size + 1) C none)) (upd (upd H dx (exd dx [(f, y)])) (hp.objs.size + 1) (exo (hp.objs.size + 1) C (some dx))) ((hp.push (PySem.W.kdv_tup rest)).push (PySem.HandSPX.excO C hp.objs.size)) h' := by
      have off : ∀ b, upd H (hp.objs.size + 1) (exo (hp.objs.size + 1) C none) b = none → b ≠ hp.objs.size + 1 := fun b e z => by rw [z, upd_same] at e; cases e
      have some_of : ∀ b o, upd H (hp.objs.size + 1) (exo (hp.objs.size + 1) C none) b = some o → b ≠ hp.objs.size + 1 → upd (upd H dx (exd dx [(f, y)])) (hp.objs.size + 1) (exo (hp.objs.size + 1) C (some dx)) b = some o := fun b o e z => by
        rw [upd_ne z] at e
        rw [upd_ne z, upd_ne (ne_of_none e nd)]
        exact e
      refine ⟨fun b o e n _ _ => k' b o (off b n) e, fun b o e n _ _ => ⟨o.slots, k' b o (off b n) e⟩, fun b o e n _ => ?_, fun b o e _ => ?_, fun b xs e => ?_, fun b o u e => ?_, fun b ps e => ?_⟩
      · have z := off b n
        rw [upd_ne z] at n
        have l := Heap.lt_size e
        rw [upd_ne z, upd_ne (Nat.ne_of_lt (Nat.lt_of_lt_of_le l (Nat.le_trans (Nat.le_of_eq sz2) sz)))]
        exact n
      · by_cases z : b = hp.objs.size + 1
        · subst z
          exact ⟨_, hx⟩
        · exact ⟨o, k' b o z e⟩
      · exact some_of b _ e (fun z => by rw [z, upd_same] at e; cases e)
      · exact some_of b _ e (fun z => by rw [z, upd_same] at e; cases e)
      · exact ⟨#[], by rw [Array.append_empty]; exact some_of b _ e (fun z => by rw [z, upd_same] at e; cases e)⟩
    have same : upd (del (upd (upd H dx (exd dx [(f, y)])) (hp.objs.size + 1) (exo (hp.objs.size + 1) C (some dx))) (hp.objs.size + 1)) dx (.xd [(f, y)]) = upd H dx (.xd [(f, y)]) := by
      funext b
      by_cases z : b = dx
      · rw [z, upd_same, upd_same]
      · rw [upd_ne z, upd_ne z]
        unfold del
        by_cases z2 : b = hp.objs.size + 1
        · rw [if_pos z2, z2, na]
        · rw [if_neg z2, upd_ne z2, upd_ne z]
    refine mk_end (X := X) (fs := [(f, y)]) (d := dx) (raises_own T.ex.sub tyC) I (Nat.le_succ _) k un J.hok rfl J.bare upd_same (by rw [upd_ne ne, upd_same]) nd ?_
    rw [same]
    exact h dx nd
end
/-- an own exception is raised with one argument -/
def tRaise1 (C : Addr) (f : Str) (ta : TA) : St → Hp → XK → Prop := fun σ H Q => ta σ H fun vs H1 => ∃ y, vs = [y] ∧ ∀ d, H1 d = none → Q (.ref C) (some d) (upd H1 d (.xd [(f, y)]))
section
variable {X : Cx} {C : Addr} {B newId initId : String} {bmB : List Value} {f x : Str} {e : Expr} {ta : TA} {p pos : Pos}
theorem pmk_one (D : Bas B newId initId bmB) (T : One X.K C bmB newId f) (tyC : PySem.W.typeIn X.K (.ref C) = some (.type "type")) (hr : Room 1 X.A) (hm : X.mg x = some (.ref C)) (ha : PA X [e] ta) (hg : Gl X x := by rfl) (hdb : (x == ("__debug__" : Str)) = false := by decide)
    (he : starEach (e :: []) X.env = (false, eval e X.env) :: starEach [] X.env := by rfl) (hpl : (backTo pos (starEach [] X.env)).any (·.1) = false := by rfl) :
    PMk X (.Call (.Name x p) [e] [] pos) (tRaise1 C f ta) := by
  intro pins s σ H Q I h
  refine wpAny_Call_Name_kw (ld_glob I hg hm ?_ hdb)
  refine PySem.W.callWith_K (h₀ := X.base) I.ok.mod.kin T.ex.kC (thn (ha.run pos pins s σ H _ I h) fun us s1 ⟨vs, H1, I1, r, y, ev, q⟩ => ⟨I1.kIn, ?_⟩) he hpl
  subst ev
  obtain ⟨u, rfl, ru⟩ := vals1 r
  exact run_raise1 D T hr I1 ru tyC (.inl ⟨rfl, rfl⟩) q
end
end L2
end

section
set_option Elab.async false
set_option linter.all false
set_option maxRecDepth 100000
set_option maxHeartbeats 4000000
/-! What the defs of bodies promise. -/
namespace Pn
open PySem PySem.Spec PyProof.Rows L2
theorem NoIt.keep {K : PySem.W.Frag} {c : Cs} {H H' : Hp} {v : V} (k : KeptT K H H') (h : NoIt K c H v) : NoIt K c H' v := let ⟨t, a, r⟩ := h; ⟨t, k.ty _ _ a, r⟩
theorem Ent.keep {K : PySem.W.Frag} {c : Cs} {H H' : Hp} {v : V} {o : Option Itm} (k : KeptT K H H') (h : Ent K c H v o) : Ent K c H' v o := by
  cases h with
  | item a b => exact .item (a.keep k.k) b
  | other a => exact .other (a.keep k)
theorem Ents.keep {K : PySem.W.Frag} {c : Cs} {H H' : Hp} (k : KeptT K H H') : ∀ {vs : List V} {os : List (Option Itm)}, Ents K c H vs os → Ents K c H' vs os
  | _, _, .nil => .nil
  | _, _, .cons a b => .cons (a.keep k) (Ents.keep k b)
theorem Ents.len {K : PySem.W.Frag} {c : Cs} {H : Hp} : ∀ {vs : List V} {os : List (Option Itm)}, Ents K c H vs os → vs.length = os.length
  | _, _, .nil => rfl
  | _, _, .cons a b => by rw [List.length_cons, List.length_cons, Ents.len b]
theorem Ents.get {K : PySem.W.Frag} {c : Cs} {H : Hp} : ∀ {os : List (Option Itm)} {vs : List V} {k : Nat} {v : V}, Ents K c H vs os → vs[k]? = some v → ∃ o, os[k]? = some o ∧ Ent K c H v o
  | [], _, k, v, h, e => by cases h; cases e
  | i :: is, _, 0, v, h, e => by cases h with | cons h1 h2 => cases e; exact ⟨i, rfl, h1⟩
  | i :: is, _, k + 1, v, h, e => by cases h with | cons h1 h2 => exact h2.get (k := k) e
theorem Ents.app {K : PySem.W.Frag} {c : Cs} {H : Hp} : ∀ {os ps : List (Option Itm)} {vs ws : List V}, Ents K c H vs os → Ents K c H ws ps → Ents K c H (vs ++ ws) (os ++ ps)
  | [], _, _, _, h, g => by cases h; exact g
  | i :: is, _, _, _, h, g => by cases h with | cons h1 h2 => exact .cons h1 (h2.app g)
theorem Ents.take {K : PySem.W.Frag} {c : Cs} {H : Hp} : ∀ {os : List (Option Itm)} {vs : List V} (n : Nat), Ents K c H vs os → Ents K c H (vs.take n) (os.take n)
  | [], _, n, h => by cases h; simp; exact .nil
  | o :: os, _, 0, h => by cases h; exact .nil
  | o :: os, _, n + 1, h => by cases h with | cons a b => exact .cons a (b.take n)
theorem Ents.drop {K : PySem.W.Frag} {c : Cs} {H : Hp} : ∀ {os : List (Option Itm)} {vs : List V} (n : Nat), Ents K c H vs os → Ents K c H (vs.drop n) (os.drop n)
  | [], _, n, h => by cases h; simp; exact .nil
  | o :: os, _, 0, h => h
  | o :: os, _, n + 1, h => by cases h with | cons a b => exact b.drop n
theorem Ents.ofIos {K : PySem.W.Frag} {c : Cs} {H : Hp} : ∀ {vs : List V} {is : List Itm}, Ios c H vs is → ItsW 2 is → Ents K c H vs (is.map some)
  | _, _, .nil, _ => .nil
  | _, _, .cons a b, .cons w x => .cons (.item a w) (Ents.ofIos b x)
/-- the place of the first one that is no item -/
def firstBad : List (Option Itm) → Option Nat
  | [] => none
  | none :: _ => some 0
  | some _ :: r => (firstBad r).map (· + 1)
theorem firstBad_none {K : PySem.W.Frag} {c : Cs} {H : Hp} : ∀ {os : List (Option Itm)} {vs : List V}, firstBad os = none → Ents K c H vs os → ∃ its, os = its.map some ∧ Ios c H vs its ∧ ItsW 2 its
  | [], _, _, h => by cases h; exact ⟨[], rfl, .nil, .nil⟩
  | none :: r, _, e, h => by cases e
  | some i :: r, _, e, h => by
    cases h with
    | cons a b =>
      have e' : firstBad r = none := by
        unfold firstBad at e
        cases q : firstBad r with
        | none => rfl
        | some k => rw [q] at e; cases e
      obtain ⟨its, rfl, g, w⟩ := firstBad_none e' b
      cases a with
      | item a w1 => exact ⟨i :: its, rfl, .cons a g, .cons w1 w⟩
theorem firstBad_some : ∀ {os : List (Option Itm)} {k : Nat}, firstBad os = some k → os[k]? = some none ∧ ∀ j, j < k → ∃ i, os[j]? = some (some i)
  | [], k, e => by cases e
  | none :: r, k, e => by cases e; exact ⟨rfl, fun j h => absurd h (Nat.not_lt_zero _)⟩
  | some i :: r, k, e => by
    unfold firstBad at e
    cases q : firstBad r with
    | none => rw [q] at e; cases e
    | some m =>
      rw [q] at e
      cases e
      obtain ⟨a, b⟩ := firstBad_some q
      refine ⟨a, fun j h => ?_⟩
      cases j with
      | zero => exact ⟨i, rfl⟩
      | succ j => exact b j (by have h2 : j + 1 < m + 1 := h; omega)
theorem firstBad_at : ∀ {os : List (Option Itm)} {k : Nat}, os[k]? = some none → (∀ j, j < k → ∃ i, os[j]? = some (some i)) → firstBad os = some k
  | [], k, e, _ => by cases e
  | none :: r, 0, _, _ => rfl
  | none :: r, k + 1, _, h => by obtain ⟨i, q⟩ := h 0 (by omega); cases q
  | some i :: r, 0, e, _ => by cases e
  | some i :: r, k + 1, e, h => by
    unfold firstBad
    rw [firstBad_at (os := r) (k := k) e (fun j l => h (j + 1) (by omega))]
    rfl
theorem firstBad_map (its : List Itm) : firstBad (its.map some) = none := by
  induction its with
  | nil => rfl
  | cons i its ih => show (firstBad (its.map some)).map (· + 1) = none; rw [ih]; rfl
def goods (os : List (Option Itm)) : List Itm := os.filterMap id
theorem goods_map (its : List Itm) : goods (its.map some) = its := by
  unfold goods
  rw [List.filterMap_map]
  exact List.filterMap_some
/-- which error is due for items of which no Times may be deeper: which class, and what it tells -/
def chk (os : List (Option Itm)) (dep : Int) : Option (Nat × Int) :=
  match firstBad os with
  | some k => some (1, (k : Int))
  | none => if 6 < os.length then some (2, 6) else if dep < ((dIs (goods os) : Nat) : Int) then some (3, 2) else none
def errF : Nat → PySem.Str
  | 0 => "field"
  | 1 => "index"
  | _ => "limit"
/-- such an error is what is wished for -/
def Rz (C : Nat → Addr) (H : Hp) (E : XK) (j : Nat) (y : V) : Prop := ∀ H' dd, Same H H' → H' dd = none → E (.ref (C j)) (some dd) (upd H' dd (.xd [(errF j, y)]))
theorem Rz.same {C : Nat → Addr} {H H1 : Hp} {E : XK} {j : Nat} {y : V} (r : Rz C H E j y) (S : Same H H1) : Rz C H1 E j y := fun H' dd S' n => r H' dd (S.trans S') n
/-! ### the promises -/
def spChk (K : PySem.W.Frag) (c : Cs) (C : Nat → Addr) : Sp := fun vs H Q E => ∃ (t : Addr) (xs : List V) (os : List (Option Itm)) (dep : Int), vs = [.ref t, .int dep] ∧ SqT K H t xs ∧ Ents K c H xs os ∧ xs.length ≤ 1000 ∧
  (∀ j y, chk os dep = some (j, y) → Rz C H E j (.int y)) ∧ (chk os dep = none → ∀ H', Same H H' → Q .non H')
def spDep (K : PySem.W.Frag) (c : Cs) : Sp := fun vs H Q _ => ∃ (t : Addr) (xs : List V) (its : List Itm), vs = [.ref t] ∧ SqT K H t xs ∧ Ios c H xs its ∧ xs.length ≤ 1000 ∧ ∀ H', Same H H' → Q (.int ((dIs its : Nat) : Int)) H'
def spOneI (K : PySem.W.Frag) (C : Nat → Addr) (cls : Addr) (f : PySem.Str) : Sp := fun vs H Q E => ∃ (H0 : Hp) (x dx : Addr) (v : V) (d : PyData), vs = [.ref x, v] ∧ Same H0 H ∧ H0 x = none ∧ H x = some (.ins cls dx []) ∧ Kd K H0 v d ∧ (∀ z, d = .str z → z.length ≤ 1000) ∧
  (wordD d = false → Rz C H0 E 0 (.str f)) ∧ (∀ z H', d = .str z → Wd z → Same H0 H' → H' x = some (.ins cls dx [(f, .str z)]) → Q .non H')
def spBodyI (K : PySem.W.Frag) (c : Cs) (C : Nat → Addr) : Sp := fun vs H Q E => ∃ (H0 : Hp) (x dx : Addr) (xs : List V) (os : List (Option Itm)), vs = .ref x :: xs ∧ Same H0 H ∧ H0 x = none ∧ H x = some (.ins c.body dx []) ∧ Ents K c H0 xs os ∧ xs.length ≤ 1000 ∧
  (∀ j y, chk os 2 = some (j, y) → Rz C H0 E j (.int y)) ∧ (chk os 2 = none → ∀ its H', os = its.map some → ItsW 2 its → its.length ≤ 6 → Same H0 H' → Bo c H' x its → Q .non H')
def spTimesI (K : PySem.W.Frag) (c : Cs) (C : Nat → Addr) : Sp := fun vs H Q E => ∃ (H0 : Hp) (x dx : Addr) (nv : V) (d : PyData) (xs : List V) (os : List (Option Itm)), vs = .ref x :: nv :: xs ∧ Same H0 H ∧ H0 x = none ∧ H x = some (.ins c.times dx []) ∧ Kd K H0 nv d ∧ Ents K c H0 xs os ∧ xs.length ≤ 1000 ∧
  (withinD 0 1000000000 d = false → Rz C H0 E 0 (.str "number")) ∧ (withinD 0 1000000000 d = true → ∀ j y, chk os 1 = some (j, y) → Rz C H0 E j (.int y)) ∧
  (withinD 0 1000000000 d = true → chk os 1 = none → ∀ n its H', d = .int n → os = its.map some → ItW 2 (.times n its) → Same H0 H' → Io c H' (.ref x) (.times n its) → Q .non H')
def spBodyOf (K : PySem.W.Frag) (c : Cs) (C : Nat → Addr) : Sp := fun vs H Q E => ∃ (l : Addr) (xs : List V) (os : List (Option Itm)), vs = [.ref c.body, .ref l] ∧ (SqT K H l xs ∨ SqL K H l xs) ∧ Ents K c H xs os ∧ xs.length ≤ 1000 ∧
  (∀ j y, chk os 2 = some (j, y) → Rz C H E j (.int y)) ∧ (chk os 2 = none → ∀ its H' x, os = its.map some → ItsW 2 its → its.length ≤ 6 → Same H H' → H x = none → Bo c H' x its → Q (.ref x) H')
def spTimesOf (K : PySem.W.Frag) (c : Cs) (C : Nat → Addr) : Sp := fun vs H Q E => ∃ (nv : V) (d : PyData) (l : Addr) (xs : List V) (os : List (Option Itm)), vs = [.ref c.times, nv, .ref l] ∧ Kd K H nv d ∧ (SqT K H l xs ∨ SqL K H l xs) ∧ Ents K c H xs os ∧ xs.length ≤ 1000 ∧
  (withinD 0 1000000000 d = false → Rz C H E 0 (.str "number")) ∧ (withinD 0 1000000000 d = true → ∀ j y, chk os 1 = some (j, y) → Rz C H E j (.int y)) ∧
  (withinD 0 1000000000 d = true → chk os 1 = none → ∀ n its H' x, d = .int n → os = its.map some → ItW 2 (.times n its) → Same H H' → H x = none → Io c H' (.ref x) (.times n its) → Q (.ref x) H')
def spTxSay (c : Cs) : Sp := fun vs H Q _ => ∃ (a dx : Addr) (z : PySem.Str), vs = [.ref a] ∧ H a = some (.ins c.say dx [("command", .str z)]) ∧ z.length ≤ 1000 ∧ Q (.str (txI (.say z))) H
def spTxPress (c : Cs) : Sp := fun vs H Q _ => ∃ (a dx : Addr) (z : PySem.Str), vs = [.ref a] ∧ H a = some (.ins c.press dx [("key", .str z)]) ∧ Q (.str (txI (.press z))) H
def spTxGo (c : Cs) : Sp := fun vs H Q _ => ∃ (a dx : Addr) (z : PySem.Str), vs = [.ref a] ∧ H a = some (.ins c.go dx [("mode", .str z)]) ∧ z.length ≤ 1000 ∧ Q (.str (txI (.go z))) H
def spTxTimes (c : Cs) : Sp := fun vs H Q _ => ∃ (a dx b : Addr) (n : Int) (t : PySem.Str), vs = [.ref a] ∧ H a = some (.ins c.times dx (fTimes n b t)) ∧ Q (.str t) H
def spTxBody (c : Cs) : Sp := fun vs H Q _ => ∃ (a dx e : Addr) (d : Int) (t : PySem.Str), vs = [.ref a] ∧ H a = some (.ins c.body dx (fBody e d t)) ∧ Q (.str t) H
def spDepth (c : Cs) : Sp := fun vs H Q _ => ∃ (a dx e : Addr) (d : Int) (t : PySem.Str), vs = [.ref a] ∧ H a = some (.ins c.body dx (fBody e d t)) ∧ Q (.int d) H
def bB : Nat → String
  | 0 => "ValueError" | 1 => "TypeError" | _ => "OverflowError"
def bN : Nat → String
  | 0 => "ValueError.__new__" | 1 => "TypeError.__new__" | _ => "OverflowError.__new__"
def bI' : Nat → String
  | 0 => "ValueError.__init__" | 1 => "TypeError.__init__" | _ => "OverflowError.__init__"
def bM : Nat → List Value
  | 0 => [.type "ValueError", .type "Exception", .type "BaseException", .type "object"]
  | 1 => [.type "TypeError", .type "Exception", .type "BaseException", .type "object"]
  | _ => [.type "OverflowError", .type "ArithmeticError", .type "Exception", .type "BaseException", .type "object"]
theorem basC : ∀ b : Nat, Bas (bB b) (bN b) (bI' b) (bM b)
  | 0 => ⟨F.excBase_ValueError, F.store_ValueError⟩
  | 1 => ⟨F.excBase_TypeError, F.store_TypeError⟩
  | _ + 2 => ⟨F.excBase_OverflowError, F.store_OverflowError⟩
/-- the classes of the errors, the j-th one at C j: what raising them asks -/
structure ErrT (K : PySem.W.Frag) (mg : PySem.Str → Option Value) (C : Nat → Addr) (nm : Nat → String) : Prop where
  g : ∀ j, j < 4 → mg (PySem.Str.ofString (nm j)) = some (.ref (C j))
  one : ∀ j, j < 4 → One K (C j) (bM j) (bN j) (errF j)
  ty : ∀ j, j < 4 → PySem.W.typeIn K (.ref (C j)) = some (.type "type")
/-- an own class whose instances are told by isinstance -/
structure TyC (K : PySem.W.Frag) (C : Addr) : Prop where
  cl : Cls K C
  ha : PySem.W.findIn K (.ref C) "__class__" = some (some (.builtin "object.__class__"))
  hn : PySem.W.specialIn K (.builtin "object.__class__") "__get__" = some (some (.builtin "getset_descriptor.__get__"))
  ht : PySem.W.takesIn K (.builtin "object.__class__") = some true
  hm : PySem.W.mroIn K C (.type "object") = some true
theorem TyC.tyx {K : PySem.W.Frag} {C a dx : Addr} {H : Hp} {fs : List (PySem.Str × V)} (T : TyC K C) (h : H a = some (.ins C dx fs)) : TyX K H (.ref a) (.ref C) := .base (.ins h T.cl T.ha T.hn T.ht T.hm)
/-- what the text says of the classes -/
structure BodT (K : PySem.W.Frag) (mg : PySem.Str → Option Value) (c : Cs) : Prop where
  say : TyC K c.say
  press : TyC K c.press
  go : TyC K c.go
  times : TyC K c.times
  body : TyC K c.body
  gSay : mg "Say" = some (.ref c.say)
  gPress : mg "Press" = some (.ref c.press)
  gGo : mg "Go" = some (.ref c.go)
  gTimes : mg "Times" = some (.ref c.times)
  gBody : mg "Body" = some (.ref c.body)
  nSay : NoAttr K c.say "command"
  nPress : NoAttr K c.press "key"
  nGo : NoAttr K c.go "mode"
  nNum : NoAttr K c.times "number"
  nBod : NoAttr K c.times "body"
  nTxt : NoAttr K c.times "_text"
  nEnt : NoAttr K c.body "_entries"
  nDep : NoAttr K c.body "_depth"
  nTxb : NoAttr K c.body "_text"
  kit : ∀ C, (C = c.say ∨ C = c.press ∨ C = c.go ∨ C = c.times ∨ C = c.body) → ∀ D, (D = c.say ∨ D = c.press ∨ D = c.go ∨ D = c.times) → PySem.W.kitOne K (.ref C) (.ref D) = some (decide (C = D))
  kid : ∀ s, s ∈ ["NoneType", "bool", "int", "str", "list", "tuple", "dict"] → ∀ D, (D = c.say ∨ D = c.press ∨ D = c.go ∨ D = c.times) → PySem.W.kitOne K (.type s) (.ref D) = some false
  ne1 : c.say ≠ c.times
  ne2 : c.press ≠ c.times
  ne3 : c.go ≠ c.times
  neb : c.body ≠ c.say ∧ c.body ≠ c.press ∧ c.body ≠ c.go ∧ c.body ≠ c.times
  depth : ∃ t, mg "DEPTH" = some (.int 2 t)
  items : ∃ t, mg "ITEMS" = some (.int 6 t)
  number : ∃ t, mg "NUMBER_limits" = some (.int 1000000000 t)
end Pn
end

section
set_option Elab.async false
set_option linter.all false
set_option maxRecDepth 100000
set_option maxHeartbeats 4000000
namespace Pn
open PySem PySem.Spec PyProof.Rows L2
theorem g_cells {H : Hp} {p c : Addr} {s r : Int} (hp : H p = some (.dK (cs c s r))) : DGet H p (.str "cells") (some (.ref c)) := .k (k := .inr "cells") hp
theorem g_spot {H : Hp} {p c : Addr} {s r : Int} (hp : H p = some (.dK (cs c s r))) : DGet H p (.str "spot") (some (.int s)) := .k (k := .inr "spot") hp
theorem g_rest {H : Hp} {p c : Addr} {s r : Int} (hp : H p = some (.dK (cs c s r))) : DGet H p (.str "rest") (some (.int r)) := .k (k := .inr "rest") hp
theorem p_spot {H : Hp} {p c : Addr} {s r t : Int} (hp : H p = some (.dK (cs c s r))) : DPut H p (.str "spot") (.int t) (upd H p (.dK (cs c t r))) := .k (k := .inr "spot") hp (by show 3 < sizeLine; decide)
theorem p_rest {H : Hp} {p c : Addr} {s r t : Int} (hp : H p = some (.dK (cs c s r))) : DPut H p (.str "rest") (.int t) (upd H p (.dK (cs c s t))) := .k (k := .inr "rest") hp (by show 3 < sizeLine; decide)
theorem cut63 {ns : List Int} (h : ns.length ≤ 63) : cutV (ns.map V.int) none (some 63) = ns.map V.int := by
  have e : HT.sIx (ns.map V.int).length (ns.map V.int).length (some 63) = min 63 (ns.map V.int).length := HT.sIx_nat _ _ 63
  unfold cutV
  rw [HT.sIx_none, List.drop_zero, e, List.take_of_length_le (by rw [List.length_map]; omega)]
theorem fm (x : Int) {m : Int} (h : 0 < m) : 0 ≤ x.fmod m ∧ x.fmod m < m := by
  rw [Int.fmod_eq_emod_of_nonneg x (Int.le_of_lt h)]
  exact ⟨Int.emod_nonneg x (Int.ne_of_gt h), Int.emod_lt_of_pos x h⟩
theorem small64 (x : Int) {m : Int} (h : 0 < m) (h' : m ≤ 4294967296) : -(2 ^ 64) < x.fmod m ∧ x.fmod m < 2 ^ 64 := by
  have := fm x h
  exact ⟨by omega, by omega⟩
theorem item {xs : List V} {d : Int} (h0 : 0 ≤ d) (h1 : d < (xs.length : Int)) : ∃ x, atI xs d = some x ∧ x ∈ xs := by
  obtain ⟨k, rfl⟩ := Int.eq_ofNat_of_zero_le h0
  have hk : k < xs.length := by omega
  exact ⟨xs[k], atI_nat (List.getElem?_eq_getElem hk), List.getElem_mem hk⟩
theorem ints_dp {K : PySem.W.Frag} {H : Hp} : ∀ ns : List Int, DpAll K H (ns.map V.int) (ns.map PyData.int)
  | [] => .nil
  | n :: ns => .cons (.int n) (ints_dp ns)
mutual
theorem dp_map {K : PySem.W.Frag} {H H' : Hp} (f : ∀ a xs, SqL K H a xs → SqL K H' a xs) (g : ∀ a xs, SqT K H a xs → SqT K H' a xs) : ∀ (d : PyData) (v : V), Dp K H v d → Dp K H' v d
  | .none, _, h => by cases h; exact .non
  | .bool b, _, h => by cases h; exact .bl b
  | .int i, _, h => by cases h; exact .int i
  | .str x, _, h => by cases h; exact .str x
  | .list ds, _, h => by
    cases h with
    | lst hs ha => exact .lst (f _ _ hs) (dp_mapAll f g ds _ ha)
  | .tuple ds, _, h => by
    cases h with
    | tup hs ha => exact .tup (g _ _ hs) (dp_mapAll f g ds _ ha)
  | .dict _, _, h => by cases h
theorem dp_mapAll {K : PySem.W.Frag} {H H' : Hp} (f : ∀ a xs, SqL K H a xs → SqL K H' a xs) (g : ∀ a xs, SqT K H a xs → SqT K H' a xs) : ∀ (ds : List PyData) (vs : List V), DpAll K H vs ds → DpAll K H' vs ds
  | [], _, h => by cases h; exact .nil
  | d :: ds, _, h => by
    cases h with
    | cons h1 h2 => exact .cons (dp_map f g d _ h1) (dp_mapAll f g ds _ h2)
end
end Pn
namespace KP
open PySem PySem.Spec PyProof.Rows L2 Pn
def top (i : Nat) : Stmt := PySem.Challenge.pw_onestroke_k05_whole_bent_body_texts.main.body.getD i (.Pass ⟨0, 0, 0, 0⟩)
abbrev sPen : Stmt := top 40
abbrev sDraw : Stmt := top 41
abbrev sPick : Stmt := top 42
abbrev sAny : Stmt := top 45
/-- the built-in names that the text reads stand as built-ins -/
structure Blt (mg : Str → Option Value) : Prop where
  list : mg "list" = none
  int : mg "int" = none
  len : mg "len" = none
  range : mg "range" = none
  repr : mg "repr" = none
  isi : mg "isinstance" = none
section
variable {P : Program} {w : World} {K : PySem.W.Frag} {mg : Str → Option Value} {base : Heap}
theorem scPen : FnScope ["_law_script"] ["_law_script"] (defScope sPen) := ⟨rfl, rfl, rfl, by decide +kernel, rfl, by decide +kernel, by decide +kernel⟩
theorem ok_pen {f : Addr} {fd : FuncData} (F : Fun K "_law_pen" "_law_pen" sPen f fd) (T : Blt mg) : FnOk P w K mg base CX0 1 f fd ["_law_script"] (spPen K) := by
  refine F.ok scPen (fun vs H Q E h => ?_) (fun cdv A outer s H vs Q E hr h => ?_)
  · obtain ⟨a, ns, rfl, _⟩ := h
    rfl
  · obtain ⟨a, ns, rfl, hS, hl, k⟩ := h
    refine ⟨_, pss_one (ps_ret (pe_disp (pps_cons pe_str (pe_callTy call_list_of (by rfl) T.list (by decide +kernel) (pa_cons (pe_slice sl_list (pv 0) po_none (po_some pe_int)) pa_nil)) (pps_cons pe_str pe_int (pps_cons pe_str pe_int pps_nil))) (by rfl) (by rfl) (fun z => by cases z) (by decide))), ?_⟩
    intro p hp
    have S0 : Same H (upd H p (.dK [])) := fun b o e => by rw [upd_ne (ne_of_none e hp)]; exact e
    refine ⟨_, rfl, 63, rfl, a, _, rfl, S0.seq hS, fun q hq => ⟨q, _, rfl, .inl (SqL.of upd_same), fun c hc => ?_⟩⟩
    have pq : p ≠ q := fun z => by rw [← z, upd_same] at hq; cases hq
    have hq0 : H q = none := by rw [upd_ne pq.symm] at hq; exact hq
    have qc : q ≠ c := fun z => by rw [← z, upd_same] at hc; cases hc
    have pc : p ≠ c := fun z => by rw [← z, upd_ne pq, upd_same] at hc; cases hc
    have hc0 : H c = none := by rw [upd_ne qc.symm, upd_ne pc.symm] at hc; exact hc
    refine ⟨by rw [upd_ne pc, upd_ne pq, upd_same], cs c 0 0, rfl, by show 3 ≤ 15; decide, ?_⟩
    refine k p c _ (fun b o e => ?_) hp ⟨?_, 0, 0, by rw [upd_same]; rfl, Int.le_refl _, Int.le_refl _⟩
    · rw [upd_ne (ne_of_none e hp), upd_ne (ne_of_none e hc0), upd_ne (ne_of_none e hq0), upd_ne (ne_of_none e hp)]
      exact e
    · rw [upd_ne pc.symm, upd_same, cut63 hl]
theorem scDraw : FnScope ["_law_pen_here", "_law_size", "_law_digit", "_law_spot", "_law_cell", "_law_mixed"] ["_law_pen_here", "_law_size"] (defScope sDraw) := ⟨rfl, rfl, rfl, by decide +kernel, rfl, by decide +kernel, by decide +kernel⟩
theorem ok_draw {f : Addr} {fd : FuncData} (F : Fun K "_law_draw" "_law_draw" sDraw f fd) (T : Blt mg) : FnOk P w K mg base CX0 1 f fd ["_law_pen_here", "_law_size"] spDraw := by
  refine F.ok scDraw (fun vs H Q E h => ?_) (fun cdv A outer s H vs Q E hr h => ?_)
  · obtain ⟨p, c, ns, n, size, rfl, _⟩ := h
    rfl
  · obtain ⟨p, c, ns, n, size, rfl, ⟨hc, sp0, r0, hp, h0, h1⟩, hn, hl, z0, z1, k⟩ := h
    have hu := hu_of hr
    have zs : size ≠ 0 ∧ size.natAbs < 1073741824 := ⟨by omega, by omega⟩
    have cp : c ≠ p := ne_of hc hp (by intro z; cases z)
    refine ⟨_, (pss_cons (ps_if (pt_cmpR op_ge (pe_dget hu (pv 0) pe_str (fun _ _ => rfl)) (pv 1) (nomark _)) (pss_cons (ps_set (i := 2) scDraw.nd rfl (Or.inl rfl) (pe_op op_modN (pe_callTy call_int1 (by rfl) T.int (by decide +kernel) (pa_cons (pe_dget hu (pv 0) pe_str (fun _ _ => rfl)) pa_nil)) (pv 1)))
        (pss_cons (ps_dput hu (pv 0) pe_str (pe_op op_fdivN (pe_dget hu (pv 0) pe_str (fun _ _ => rfl)) (pv 1)) rfl)
        (pss_one (ps_ret (pv 2))))) pss_nil)
      (pss_cons (ps_set (i := 3) scDraw.nd rfl (Or.inl rfl) (pe_dget hu (pv 0) pe_str (fun _ _ => rfl)))
      (pss_cons (ps_dput hu (pv 0) pe_str (pe_op op_add (pv 3) pe_int) rfl)
      (pss_cons (ps_set (i := 4) scDraw.nd rfl (Or.inl rfl) (pe_op op_add (pe_op op_mul pe_int (pv 3)) pe_int))
      (pss_cons (ps_if (pt_cmpR (op_neD hr.units) (pe_dget hu (pv 0) pe_str (fun _ _ => rfl)) (pe_lst pa_nil) (nomark _)) (pss_one (ps_set (i := 4) scDraw.nd rfl (Or.inl rfl) (pe_ix ix_list (pe_dget hu (pv 0) pe_str (fun _ _ => rfl)) (pe_op op_modN (pe_callTy call_int1 (by rfl) T.int (by decide +kernel) (pa_cons (pv 3) pa_nil)) (pe_callB call_len_seq (by rfl) T.len PySem.boot_len (pa_cons (pe_dget hu (pv 0) pe_str (fun _ _ => rfl)) pa_nil))) (fun _ _ => rfl)))) pss_nil)
      (pss_cons (ps_if (PW.pt (pw_and (pt_cmpR op_lt (pv 3) (pe_callB call_len_seq (by rfl) T.len PySem.boot_len (pa_cons (pe_dget hu (pv 0) pe_str (fun _ _ => rfl)) pa_nil)) (nomark _)) (pw_and1 (pt_cmpR op_ge (pv 4) (pe_op op_pow pe_int pe_int) (nomark _))))) (pss_cons (ps_dput hu (pv 0) pe_str (pe_op op_fdivN (pe_op op_sub (pv 4) (pe_op op_pow pe_int pe_int)) (pv 1)) rfl)
        (pss_one (ps_ret (pe_op op_modN (pe_callTy call_int1 (by rfl) T.int (by decide +kernel) (pa_cons (pe_op op_sub (pv 4) (pe_op op_pow pe_int pe_int)) pa_nil)) (pv 1))))) pss_nil)
      (pss_cons (ps_set (i := 5) scDraw.nd rfl (Or.inl rfl) (pe_op op_mul (pe_op op_modN (pe_callTy call_int1 (by rfl) T.int (by decide +kernel) (pa_cons (pv 4) pa_nil)) pe_int) pe_int))
      (pss_cons (ps_set (i := 5) scDraw.nd rfl (Or.inl rfl) (pe_op op_modN (pe_callTy call_int1 (by rfl) T.int (by decide +kernel) (pa_cons (pe_op op_add (pe_op op_add (pe_op op_add (pv 5) (pe_op op_mul (pe_op op_mul pe_int (pv 3)) (pv 3))) (pe_op op_mul pe_int (pv 3))) pe_int) pa_nil)) pe_int))
      (pss_cons (ps_set (i := 5) scDraw.nd rfl (Or.inl rfl) (pe_op op_modN (pe_callTy call_int1 (by rfl) T.int (by decide +kernel) (pa_cons (pe_op op_mul (pv 5) (pe_op op_add (pv 5) pe_int)) pa_nil)) pe_int))
      (pss_one (ps_ret (pe_op op_modN (pe_callTy call_int1 (by rfl) T.int (by decide +kernel) (pa_cons (pe_op op_fdivN (pe_op op_modN (pe_callTy call_int1 (by rfl) T.int (by decide +kernel) (pa_cons (pe_op op_add (pe_op op_mul (pv 5) (pv 5)) (pe_op op_mul pe_int (pv 5))) pa_nil)) pe_int) pe_int) pa_nil)) (pv 1))))))))))))), ?_⟩
    refine ⟨_, rfl, p, _, rfl, g_rest hp, _, rfl, r0, size, rfl, rfl, _, rfl, ?_⟩
    have ups : ∀ t, upd (upd H p (.dK (cs c t r0))) p (.dK (cs c t r0)) p = some (.dK (cs c t r0)) := fun t => upd_same
    refine ite2 (fun _ => ?_) (fun _ => ?_)
    · refine ⟨_, rfl, p, _, rfl, g_rest hp, .inl ⟨r0, rfl, _, rfl, _, _, rfl, rfl, zs.1, ?_⟩⟩
      refine ⟨_, rfl, p, _, rfl, g_rest hp, _, rfl, r0, size, rfl, rfl, zs, _, rfl, p, _, rfl, p_rest hp, _, rfl, ?_⟩
      have m := fm r0 z0
      exact k _ _ m.1 m.2 ((But.refl p H).upd _) ⟨by rw [upd_ne cp]; exact hc, sp0, _, upd_same, h0, by omega⟩
    · refine ⟨_, rfl, p, _, rfl, g_spot hp, ?_⟩
      refine ⟨_, rfl, sp0, 1, rfl, rfl, _, rfl, p, _, rfl, p_spot hp, ?_⟩
      refine ⟨_, rfl, 71, sp0, rfl, rfl, .inl ⟨by decide, by decide⟩, _, 43, rfl, rfl, ?_⟩
      have hp1 : upd H p (.dK (cs c (sp0 + 1) r0)) p = some (.dK (cs c (sp0 + 1) r0)) := upd_same
      have hc1 : upd H p (.dK (cs c (sp0 + 1) r0)) c = some (.lst (ns.map V.int)) := by rw [upd_ne cp]; exact hc
      have hB1 : But p H (upd H p (.dK (cs c (sp0 + 1) r0))) := (But.refl p H).upd _
      generalize upd H p (.dK (cs c (sp0 + 1) r0)) = H1 at hp1 hc1 hB1 ⊢
      generalize 71 * sp0 + 43 = cell
      refine ⟨_, rfl, p, _, rfl, g_cells hp1, Nat.zero_le _, fun q hq => ⟨_, _, .lst (SqL.of (by rw [upd_ne (ne_of_none hc1 hq)]; exact hc1)) (ints_dp ns), .lst (SqL.of upd_same) .nil, PySem.W.shaped_ints ns, rfl, _, rfl, ?_⟩⟩
      have hp2 : upd H1 q (.lst []) p = some (.dK (cs c (sp0 + 1) r0)) := by rw [upd_ne (ne_of_none hp1 hq)]; exact hp1
      have hc2 : upd H1 q (.lst []) c = some (.lst (ns.map V.int)) := by rw [upd_ne (ne_of_none hc1 hq)]; exact hc1
      have hB2 : But p H (upd H1 q (.lst [])) := hB1.new hq
      generalize upd H1 q (.lst []) = H2 at hp2 hc2 hB2 ⊢
      have fin : ∀ (d t : Int), 0 ≤ d → d < size → Q (.int d) H2 := fun d t a b => k d H2 a b hB2 ⟨hc2, sp0 + 1, r0, hp2, by omega, by omega⟩
      have fin2 : ∀ (d t : Int), 0 ≤ d → d < size → Q (.int d) (upd H2 p (.dK (cs c (sp0 + 1) t))) := fun d t a b => k d _ a b (hB2.upd _) ⟨by rw [upd_ne cp]; exact hc2, sp0 + 1, t, upd_same, by omega, by omega⟩
      have eqn : (!PyData.eqv (.list (ns.map PyData.int)) (.list [])) = !ns.isEmpty := by cases ns <;> rfl
      rw [eqn]
      refine ite2 (fun e => ?a) (fun _ => ?b)
      case' a =>
        have hl0 : (0 : Int) < (((ns.map V.int).length : Nat) : Int) := by
          cases ns with
          | nil => cases e
          | cons a b => simp
        have m := fm sp0 hl0
        obtain ⟨x, hx, hm⟩ := item (xs := ns.map V.int) m.1 m.2
        obtain ⟨z, _, rfl⟩ := List.mem_map.mp hm
        refine ⟨_, rfl, p, _, rfl, g_cells hp2, _, rfl, .inl ⟨sp0, rfl, _, rfl, p, _, rfl, g_cells hp2, c, _, rfl, .inl (SqL.of hc2), sp0, _, rfl, rfl, by omega, c, _, _, _, rfl, rfl, SqL.of hc2, hx, ?_⟩⟩
      all_goals refine ⟨_, rfl, _, rfl, p, _, rfl, g_cells hp2, c, _, rfl, .inl (SqL.of hc2), sp0, _, rfl, rfl, _, rfl, ?_⟩
      all_goals refine ite2 (fun _ => ⟨_, rfl, 10, 18, rfl, rfl, ⟨by decide, by decide, by decide⟩, _, _, rfl, rfl, _, rfl, ?_⟩) (fun _ => iteF ?_)
      case' a.refine_1 => refine ite2 (fun _ => ?x1) (fun _ => ?y1)
      case' b.refine_1 => refine ite2 (fun _ => ?x2) (fun _ => ?y2)
      case x1 | x2 =>
        refine ⟨_, rfl, 10, 18, rfl, rfl, ⟨by decide, by decide, by decide⟩, _, _, rfl, rfl, _, rfl, _, _, rfl, rfl, zs, _, rfl, p, _, rfl, p_rest hp2, ?_⟩
        refine ⟨_, rfl, 10, 18, rfl, rfl, ⟨by decide, by decide, by decide⟩, _, _, rfl, rfl, .inl ⟨_, rfl, _, rfl, _, _, rfl, rfl, zs.1, ?_⟩⟩
        exact fin2 _ _ (fm _ z0).1 (fm _ z0).2
      all_goals
        refine ⟨_, rfl, .inl ⟨_, rfl, _, _, rfl, rfl, (by decide : (2147483269 : Int) ≠ 0), _, 40177, rfl, rfl, .inr ⟨by decide, by decide⟩, ?_⟩⟩
        refine ⟨_, rfl, _, rfl, _, _, rfl, rfl, .inl ⟨by decide, by decide⟩, _, rfl, _, sp0, rfl, rfl, .inr ⟨by omega, by omega⟩, _, _, rfl, rfl, _, rfl, _, _, rfl, rfl, .inl ⟨by decide, by decide⟩, _, _, rfl, rfl, _, _, rfl, rfl, .inl ⟨_, rfl, _, _, rfl, rfl, (by decide : (2147483323 : Int) ≠ 0), ?_⟩⟩
        refine ⟨_, rfl, _, rfl, _, _, rfl, rfl, _, _, rfl, rfl, .inl (small64 _ (by decide) (by decide)), .inl ⟨_, rfl, _, _, rfl, rfl, (by decide : (2147483353 : Int) ≠ 0), ?_⟩⟩
        refine ⟨_, rfl, _, rfl, _, _, rfl, rfl, .inl (small64 _ (by decide) (by decide)), _, rfl, _, _, rfl, rfl, .inl ⟨by decide, by decide⟩, _, _, rfl, rfl, .inl ⟨_, rfl, _, _, rfl, rfl, (by decide : (2147483399 : Int) ≠ 0), _, _, rfl, rfl, ⟨by decide, by decide⟩, .inl ⟨_, rfl, _, rfl, _, _, rfl, rfl, zs.1, ?_⟩⟩⟩
        exact fin _ 0 (fm _ z0).1 (fm _ z0).2
structure Fn (K : PySem.W.Frag) (mg : Str → Option Value) (nm : Str) (f : Addr) : Prop where
  g : mg nm = some (.ref f)
  k : PySem.W.keepIn K (.ref f) = true
theorem scPick : FnScope ["_law_pen_here", "_law_items_here"] ["_law_pen_here", "_law_items_here"] (defScope sPick) := ⟨rfl, rfl, rfl, by decide +kernel, rfl, by decide +kernel, by decide +kernel⟩
theorem ok_pick {f fD : Addr} {fd fdD : FuncData} (F : Fun K "_law_pick" "_law_pick" sPick f fd) (T : Blt mg) (FD : Fun K "_law_draw" "_law_draw" sDraw fD fdD) (bD : Binds K fdD ["_law_pen_here", "_law_size"] []) (gD : Fn K mg "_law_draw" fD) :
    FnOk P w K mg base CX0 2 f fd ["_law_pen_here", "_law_items_here"] (spPick2 K) := by
  have GD : FnOk P w K mg base CX0 1 fD fdD ["_law_pen_here", "_law_size"] spDraw := ok_draw FD T
  refine F.ok scPick (fun vs H Q E h => ?_) (fun cdv A outer s H vs Q E hr h => ?_)
  · obtain ⟨p, c, t, ns, n, xs, rfl, _⟩ := h
    rfl
  · obtain ⟨p, c, t, ns, n, xs, rfl, hP, hn, hl, hS, x0, x1, k⟩ := h
    have hr1 : Room 1 _ := hr
    refine ⟨_, (pss_one (ps_ret (pe_ix ix_seq (pv 1) (pe_call GD hr1 rfl gD.g gD.k bD .nil pass0 (pa_cons (pv 0) (pa_cons (pe_callB call_len (by rfl) T.len PySem.boot_len (pa_cons (pv 1) pa_nil)) pa_nil))) (fun _ _ => rfl)))), ?_⟩
    refine ⟨_, rfl, _, rfl, _, rfl, t, _, rfl, hS.len, p, c, ns, n, _, rfl, hP, hn, hl, by omega, by omega, fun d H' a b hB hP' => ?_⟩
    obtain ⟨x, hx, hm⟩ := item (xs := xs) a b
    obtain ⟨kvs, hp⟩ := hP.at
    exact (hS.but hB hp).ix hx (k x H' hm hB hP')
/-- data that is shown in few signs -/
def Good (K : PySem.W.Frag) (H : Hp) (x : V) : Prop := ∃ d : PyData, Dq K H x d ∧ d.showable = true ∧ d.depth ≤ 10 ∧ d.shown.length ≤ 1000 ∧ PyData.strOk d.shown = true
theorem Good.same {H H' : Hp} {x : V} (S : Same H H') (g : Good K H x) : Good K H' x := let ⟨d, q, r⟩ := g; ⟨d, q.same S, r⟩
def All (K : PySem.W.Frag) (H : Hp) (xs : List V) : Prop := ∀ x ∈ xs, Good K H x
theorem All.same {H H' : Hp} {xs : List V} (S : Same H H') (g : All K H xs) : All K H' xs := fun x h => (g x h).same S
theorem All.nil {H : Hp} : All K H [] := fun x h => by cases h
theorem All.cons {H : Hp} {x : V} {xs : List V} (g : Good K H x) (h : All K H xs) : All K H (x :: xs) := fun y m => by
  rcases List.mem_cons.mp m with rfl | m
  · exact g
  · exact h y m
theorem All.app {H : Hp} {xs ys : List V} (g : All K H xs) (h : All K H ys) : All K H (xs ++ ys) := fun y m => (List.mem_append.mp m).elim (g y) (h y)
theorem plain {H : Hp} {x : V} {d : PyData} (h : Dp K H x d) (n : d.hasDict = false) (sh : SeqAt.shaped d = true) (e : PyData.eqv d d = true) (s : d.showable = true) (z : d.depth ≤ 10) (l : d.shown.length ≤ 1000) (o : PyData.strOk d.shown = true) : Good K H x := ⟨d, .pl h n sh e, s, z, l, o⟩
def spAny (K : PySem.W.Frag) : Sp := fun vs H Q _ => ∃ (p c : Addr) (ns : List Int) (n : Nat), vs = [.ref p] ∧ PenAt H p c ns n ∧ n ≤ 1000000000 ∧ ns.length ≤ 63 ∧
  ∀ (x : V) (H' : Hp), Good K H' x → (∀ z, x = .str z → z.length ≤ 1000 ∧ PyData.strOk z = true) → But p H H' → PenAt H' p c ns (n + 1) → Q x H'
theorem Good.but {H H' : Hp} {p c : Addr} {ns : List Int} {n : Nat} {x : V} (hP : PenAt H p c ns n) (B : But p H H') (g : Good K H x) : Good K H' x := by
  obtain ⟨d, q, r⟩ := g
  obtain ⟨_, s, t, hp, _⟩ := hP
  refine ⟨d, ?_, r⟩
  cases q with
  | pl h n sh e => exact .pl (dp_map (fun _ _ z => B.lst hp z) (fun _ _ z => B.tup hp z) d x h) n sh e
  | d0 h => exact .d0 (B _ _ (ne_of h hp (by intro z; cases z)) h)
  | d1 h => exact .d1 (B _ _ (ne_of h hp (by intro z; cases z)) h)
/-- while the values are made: what stood stands, the pen, the first values at l, those that are made so far -/
structure Mk1 (K : PySem.W.Frag) (H0 Hk : Hp) (p c : Addr) (ns : List Int) (n : Nat) (l : Addr) (fs acc : List V) : Prop where
  S : Same H0 Hk
  P : PenAt Hk p c ns n
  L : Hk l = some (.lst fs)
  A : All K Hk acc
theorem same_new {H : Hp} {q : Addr} {o : HO} (h : H q = none) : Same H (upd H q o) := fun b u e => by
  rw [upd_ne (ne_of_none e h)]
  exact e
theorem Mk1.new {H0 Hk : Hp} {p c : Addr} {ns : List Int} {n : Nat} {l : Addr} {fs acc : List V} {q : Addr} (m : Mk1 K H0 Hk p c ns n l fs acc) (h : Hk q = none) (o : HO) : Mk1 K H0 (upd Hk q o) p c ns n l fs acc :=
  ⟨m.S.trans (same_new h), m.P.same (same_new h), same_new h _ _ m.L, m.A.same (same_new h)⟩
theorem Mk1.add {H0 Hk : Hp} {p c : Addr} {ns : List Int} {n : Nat} {l : Addr} {fs acc : List V} {x : V} (m : Mk1 K H0 Hk p c ns n l fs acc) (g : Good K Hk x) : Mk1 K H0 Hk p c ns n l fs (acc ++ [x]) :=
  ⟨m.S, m.P, m.L, m.A.app (.cons g .nil)⟩
theorem Mk1.put {H0 Hk : Hp} {p c : Addr} {ns : List Int} {n : Nat} {l : Addr} {fs acc : List V} {q : Addr} (m : Mk1 K H0 Hk p c ns n l fs acc) (h : Hk q = none) (o : HO) (g : Good K (upd Hk q o) (.ref q)) : Mk1 K H0 (upd Hk q o) p c ns n l fs (acc ++ [.ref q]) := (m.new h o).add g
theorem good_d {H : Hp} {x : V} {d : PyData} (a : Dp K H x d) (n : d.hasDict = false := by decide +kernel) (sh : SeqAt.shaped d = true := by decide +kernel) (e : PyData.eqv d d = true := by decide +kernel)
    (s : d.showable = true := by decide +kernel) (z : d.depth ≤ 10 := by decide +kernel) (l : d.shown.length ≤ 1000 := by decide +kernel) (o : PyData.strOk d.shown = true := by decide +kernel) : Good K H x := plain a n sh e s z l o
theorem good_t {H : Hp} {q : Addr} {xs : List V} {ds : List PyData} (h : H q = some (.tup xs)) (a : DpAll K H xs ds) (n : (PyData.tuple ds).hasDict = false := by decide +kernel) (sh : SeqAt.shaped (.tuple ds) = true := by decide +kernel) (e : PyData.eqv (.tuple ds) (.tuple ds) = true := by decide +kernel)
    (s : (PyData.tuple ds).showable = true := by decide +kernel) (z : (PyData.tuple ds).depth ≤ 10 := by decide +kernel) (l : (PyData.tuple ds).shown.length ≤ 1000 := by decide +kernel) (o : PyData.strOk (PyData.tuple ds).shown = true := by decide +kernel) : Good K H (.ref q) := plain (.tup (SqT.of h) a) n sh e s z l o
theorem good_l {H : Hp} {q : Addr} {xs : List V} {ds : List PyData} (h : H q = some (.lst xs)) (a : DpAll K H xs ds) (n : (PyData.list ds).hasDict = false := by decide +kernel) (sh : SeqAt.shaped (.list ds) = true := by decide +kernel) (e : PyData.eqv (.list ds) (.list ds) = true := by decide +kernel)
    (s : (PyData.list ds).showable = true := by decide +kernel) (z : (PyData.list ds).depth ≤ 10 := by decide +kernel) (l : (PyData.list ds).shown.length ≤ 1000 := by decide +kernel) (o : PyData.strOk (PyData.list ds).shown = true := by decide +kernel) : Good K H (.ref q) := plain (.lst (SqL.of h) a) n sh e s z l o
def first17 : List V := [.non, .bl true, .bl false, .int 0, .int 1, .int 2, .int 3, .int (-1), .int (10 ^ (9 : Int).toNat), .int (10 ^ (9 : Int).toNat + 1), .str "", .str "a", .str "A", .str "ab", .str "abcdefghi", .str "a b", .str "!a"]
theorem good17 {H : Hp} : All K H first17 :=
  .cons (good_d .non) (.cons (good_d (.bl true)) (.cons (good_d (.bl false)) (.cons (good_d (.int 0)) (.cons (good_d (.int 1)) (.cons (good_d (.int 2)) (.cons (good_d (.int 3)) (.cons (good_d (.int (-1)))
  (.cons (good_d (.int (10 ^ (9 : Int).toNat))) (.cons (good_d (.int (10 ^ (9 : Int).toNat + 1))) (.cons (good_d (.str "")) (.cons (good_d (.str "a")) (.cons (good_d (.str "A")) (.cons (good_d (.str "ab")) (.cons (good_d (.str "abcdefghi")) (.cons (good_d (.str "a b")) (.cons (good_d (.str "!a")) .nil))))))))))))))))
theorem s17 (z : PySem.Str) (h : V.str z ∈ first17) : z.length ≤ 1000 ∧ PyData.strOk z = true := by
  unfold first17 at h
  simp only [List.mem_cons, List.not_mem_nil, or_false, V.str.injEq, reduceCtorEq, false_or] at h
  rcases h with rfl | rfl | rfl | rfl | rfl | rfl | rfl <;> exact ⟨by decide +kernel, by decide +kernel⟩
theorem scAny : FnScope ["_law_pen_here", "_law_some"] ["_law_pen_here"] (defScope sAny) := ⟨rfl, rfl, rfl, by decide +kernel, rfl, by decide +kernel, by decide +kernel⟩
theorem ok_any {f fP fD : Addr} {fd fdP fdD : FuncData} (F : Fun K "_law_any_value" "_law_any_value" sAny f fd) (T : Blt mg) (FD : Fun K "_law_draw" "_law_draw" sDraw fD fdD) (bD : Binds K fdD ["_law_pen_here", "_law_size"] []) (gD : Fn K mg "_law_draw" fD)
    (FP : Fun K "_law_pick" "_law_pick" sPick fP fdP) (bP : Binds K fdP ["_law_pen_here", "_law_items_here"] []) (gP : Fn K mg "_law_pick" fP) : FnOk P w K mg base CX0 3 f fd ["_law_pen_here"] (spAny K) := by
  have GP : FnOk P w K mg base CX0 2 fP fdP ["_law_pen_here", "_law_items_here"] (spPick2 K) := ok_pick FP T FD bD gD
  refine F.ok scAny (fun vs H Q E h => ?_) (fun cdv A outer s H vs Q E hr h => ?_)
  · obtain ⟨p, c, ns, n, rfl, _⟩ := h
    rfl
  · obtain ⟨p, c, ns, n, rfl, hP, hn, hl, k⟩ := h
    have hr1 : Room 2 _ := hr
    refine ⟨_, (pss_cons (ps_set (i := 1) scAny.nd rfl (Or.inl rfl) (pe_lst (pa_cons pe_non (pa_cons pe_bl (pa_cons pe_bl (pa_cons pe_int (pa_cons pe_int (pa_cons pe_int (pa_cons pe_int (pa_cons (pe_un un_neg pe_int) (pa_cons (pe_op op_pow pe_int pe_int) (pa_cons (pe_op op_add (pe_op op_pow pe_int pe_int) pe_int) (pa_cons pe_str (pa_cons pe_str (pa_cons pe_str (pa_cons pe_str (pa_cons pe_str (pa_cons pe_str (pa_cons pe_str pa_nil)))))))))))))))))))
      (pss_cons (ps_set (i := 1) scAny.nd rfl (Or.inl rfl) (pe_op op_cat (pv 1) (pe_lst (pa_cons (pe_tup pa_nil) (pa_cons (pe_tup (pa_cons pe_str pa_nil)) (pa_cons (pe_lst pa_nil) (pa_cons (pe_lst (pa_cons pe_str pa_nil)) (pa_cons (pe_lst (pa_cons pe_int pa_nil)) (pa_cons pe_dnewK (pa_cons (pe_disp (pps_cons pe_str pe_int pps_nil) (by rfl) (by rfl) (fun z => by cases z) (by decide)) (pa_cons (pe_tup (pa_cons pe_int (pa_cons pe_int pa_nil))) (pa_cons (pe_tup (pa_cons pe_str (pa_cons pe_str pa_nil))) (pa_cons (pe_tup (pa_cons pe_non pa_nil)) (pa_cons (pe_tup (pa_cons pe_str (pa_cons pe_int pa_nil))) (pa_cons (pe_lst (pa_cons (pe_lst (pa_cons pe_str pa_nil)) pa_nil)) (pa_cons pe_str pa_nil))))))))))))))))
      (pss_one (ps_ret (pe_call GP hr1 rfl gP.g gP.k bP .nil pass0 (pa_cons (pv 0) (pa_cons (pv 1) pa_nil))))))), ?_⟩
    refine ⟨1, rfl, 10, 9, rfl, rfl, ⟨by decide, by decide, by decide⟩, 10, 9, rfl, rfl, ⟨by decide, by decide, by decide⟩, _, _, rfl, rfl, (by show 17 ≤ sizeLine; decide), fun l hl0 => ?_⟩
    have m0 : Mk1 K H (upd H l (.lst first17)) p c ns n l first17 [] := ⟨same_new hl0, hP.same (same_new hl0), upd_same, .nil⟩
    refine ⟨_, rfl, Nat.zero_le _, fun a1 h1 => ?_⟩
    have m1 := m0.put h1 (.tup []) (good_t upd_same .nil)
    refine ⟨(by show 1 ≤ sizeLine; decide), fun a2 h2 => ?_⟩
    have m2 := m1.put h2 (.tup [.str "a"]) (good_t upd_same (.cons (.str _) .nil))
    refine ⟨Nat.zero_le _, fun a3 h3 => ?_⟩
    have m3 := m2.put h3 (.lst []) (good_l upd_same .nil)
    refine ⟨(by show 1 ≤ sizeLine; decide), fun a4 h4 => ?_⟩
    have m4 := m3.put h4 (.lst [.str "a"]) (good_l upd_same (.cons (.str _) .nil))
    refine ⟨(by show 1 ≤ sizeLine; decide), fun a5 h5 => ?_⟩
    have m5 := m4.put h5 (.lst [.int 1]) (good_l upd_same (.cons (.int _) .nil))
    intro a6 h6
    have m6 := m5.put h6 (.dK []) ⟨_, .d0 upd_same, rfl, by decide, by decide +kernel, by decide +kernel⟩
    intro a7 h7
    refine ⟨upd_same, [(.inr "a", .int 1)], rfl, by show 1 ≤ 15; decide, ?_⟩
    rw [upd_upd]
    have m7 := m6.put h7 (.dK (mergeK [] [(.inr "a", .int 1)])) ⟨_, .d1 upd_same, rfl, by decide, by decide +kernel, by decide +kernel⟩
    refine ⟨(by show 2 ≤ sizeLine; decide), fun a8 h8 => ?_⟩
    have m8 := m7.put h8 (.tup [.int 1, .int 2]) (good_t upd_same (.cons (.int _) (.cons (.int _) .nil)))
    refine ⟨(by show 2 ≤ sizeLine; decide), fun a9 h9 => ?_⟩
    have m9 := m8.put h9 (.tup [.str "m", .str "a"]) (good_t upd_same (.cons (.str _) (.cons (.str _) .nil)))
    refine ⟨(by show 1 ≤ sizeLine; decide), fun b1 g1 => ?_⟩
    have n1 := m9.put g1 (.tup [.non]) (good_t upd_same (.cons .non .nil))
    refine ⟨(by show 2 ≤ sizeLine; decide), fun b2 g2 => ?_⟩
    have n2 := n1.put g2 (.tup [.str "a", .int 1]) (good_t upd_same (.cons (.str _) (.cons (.int _) .nil)))
    refine ⟨(by show 1 ≤ sizeLine; decide), fun b3 g3 => ?_⟩
    have n3 := n2.new g3 (.lst [.str "a"])
    refine ⟨(by show 1 ≤ sizeLine; decide), fun b4 g4 => ?_⟩
    have n4 := n3.put g4 (.lst [.ref b3]) (good_l upd_same (.cons (.lst (ds := [.str "a"]) (SqL.of (by rw [upd_ne (ne_of_none upd_same g4)]; exact upd_same)) (.cons (.str _) .nil)) .nil))
    have n5 := n4.add (x := .str "2(a)") (good_d (.str "2(a)"))
    refine ⟨(by show 13 ≤ sizeLine; decide), fun r1 j1 => ?_⟩
    have n6 := n5.new j1 (.lst [.ref a1, .ref a2, .ref a3, .ref a4, .ref a5, .ref a6, .ref a7, .ref a8, .ref a9, .ref b1, .ref b2, .ref b4, .str "2(a)"])
    refine ⟨l, r1, first17, _, rfl, rfl, n6.L, upd_same, (by show 30 ≤ sizeLine; decide), fun r2 j2 => ?_⟩
    have n7 := n6.new j2 (.lst (first17 ++ [.ref a1, .ref a2, .ref a3, .ref a4, .ref a5, .ref a6, .ref a7, .ref a8, .ref a9, .ref b1, .ref b2, .ref b4, .str "2(a)"]))
    refine ⟨_, rfl, _, rfl, p, c, _, ns, n, _, rfl, n7.P, hn, hl, .inl ⟨_, rfl, SqL.of upd_same⟩, (by show 0 < 30; decide), (by show 30 < 1073741824; decide), fun x H' hm hB hP' => ?_⟩
    have all : All K _ _ := good17.app n7.A
    refine k x H' ((all x hm).but n7.P hB) (fun z e => ?_) ((Same.but p n7.S).trans hB) hP'
    subst e
    rcases List.mem_append.mp hm with hm | hm
    · exact s17 z hm
    · simp only [List.mem_cons, List.not_mem_nil, or_false, V.str.injEq, reduceCtorEq, false_or] at hm
      subst hm
      exact ⟨by decide +kernel, by decide +kernel⟩
end
end KP
end

section
set_option Elab.async false
set_option linter.all false
set_option maxRecDepth 100000
set_option maxHeartbeats 4000000
namespace KP
open PySem PySem.Spec PyProof.Rows L2 Pn
abbrev sWords : Stmt := top 44
section
variable {P : Program} {w : World} {K : PySem.W.Frag} {mg : Str → Option Value} {base : Heap}
/-- so many words in a new list -/
def spWords : Sp := fun vs H Q _ => ∃ (p c : Addr) (ns : List Int) (n : Nat) (m : Nat), vs = [.ref p, .int m] ∧ PenAt H p c ns n ∧ n ≤ 999999000 ∧ ns.length ≤ 63 ∧ m ≤ 20 ∧
  ∀ (a : Addr) (ws : List PySem.Str) (H' : Hp), H a = none → H' a = some (.lst (ws.map V.str)) → ws.length = m → (∀ z ∈ ws, Wd z) → But p H H' → PenAt H' p c ns (n + 10) → Q (.ref a) H'
theorem scWords : FnScope ["_law_pen_here", "_law_count", "_law_signs", "_law_k", "_law_stem", "_law_at", "_law_front", "_law_step", "_law_tail", "_law_found", "_law_sign", "_law_word"] ["_law_pen_here", "_law_count"] (defScope sWords) := ⟨rfl, rfl, rfl, by decide +kernel, rfl, by decide +kernel, by decide +kernel⟩
theorem ok_words {f fP fD : Addr} {fd fdP fdD : FuncData} (F : Fun K "_law_words" "_law_words" sWords f fd) (T : Blt mg) (FD : Fun K "_law_draw" "_law_draw" sDraw fD fdD) (bD : Binds K fdD ["_law_pen_here", "_law_size"] []) (gD : Fn K mg "_law_draw" fD)
    (FP : Fun K "_law_pick" "_law_pick" sPick fP fdP) (bP : Binds K fdP ["_law_pen_here", "_law_items_here"] []) (gP : Fn K mg "_law_pick" fP) : FnOk P w K mg base CX0 3 f fd ["_law_pen_here", "_law_count"] spWords := by
  have GD : FnOk P w K mg base CX0 1 fD fdD ["_law_pen_here", "_law_size"] spDraw := ok_draw FD T
  have GP : FnOk P w K mg base CX0 2 fP fdP ["_law_pen_here", "_law_items_here"] (spPick2 K) := ok_pick FP T FD bD gD
  refine F.ok scWords (fun vs H Q E h => ?_) (fun cdv A outer s H vs Q E hr h => ?_)
  · obtain ⟨p, c, ns, n, m, rfl, _⟩ := h
    rfl
  · obtain ⟨p, c, ns, n, m, rfl, hP, hn, hl, hm, k⟩ := h
    have hr2 : Room 2 _ := hr
    have hr1 : Room 1 _ := hr.mono (by decide)
    refine ⟨_, (pss_cons (ps_set (i := 2) scWords.nd rfl (Or.inr rfl) pe_str)
      (pss_cons (ps_set (i := 4) scWords.nd rfl (Or.inl rfl) (pe_join pe_str (pe_lc (own := [("_law_k", 3)]) (g := gName 3) (tt := tYes) rfl scWords.nd (pi_range1 (by rfl) T.range (pa_cons (pe_call GD hr1 rfl gD.g gD.k bD .nil pass0 (pa_cons (pv 0) (pa_cons pe_int pa_nil))) pa_nil)) (blkOk_by (N := ["_law_pen_here", "_law_count", "_law_signs", "_law_k", "_law_stem", "_law_at", "_law_front", "_law_step", "_law_tail", "_law_found", "_law_sign", "_law_word"]) (sc := defScope sWords) (by decide +kernel)) (fun _ _ _ _ _ => pg_name (i := 3) scWords.nd rfl (Or.inl rfl)) (fun _ _ _ _ _ => pts_nil) (fun _ _ _ _ _ => (pe_call GP hr2 rfl gP.g gP.k bP .nil pass0 (pa_cons (pv 0) (pa_cons (pv 2) pa_nil)))))))
      (pss_cons (ps_par (i := 5) (j := 6) (by rfl) scWords.nd rfl rfl (by decide) rfl rfl (pa_cons (pe_call GD hr1 rfl gD.g gD.k bD .nil pass0 (pa_cons (pv 0) (pa_cons (pe_op op_add (pe_callB call_len_str (by rfl) T.len PySem.boot_len (pa_cons (pv 4) pa_nil)) pe_int) pa_nil))) (pa_cons (pe_call GD hr1 rfl gD.g gD.k bD .nil pass0 (pa_cons (pv 0) (pa_cons pe_int pa_nil))) pa_nil)) (by rfl))
      (pss_cons (ps_par (i := 7) (j := 8) (by rfl) scWords.nd rfl rfl (by decide) rfl rfl (pa_cons (pe_call GP hr2 rfl gP.g gP.k bP .nil pass0 (pa_cons (pv 0) (pa_cons (pe_lst (pa_cons pe_int (pa_cons pe_int (pa_cons pe_int (pa_cons pe_int (pa_cons pe_int (pa_cons pe_int (pa_cons pe_int (pa_cons pe_int pa_nil))))))))) pa_nil))) (pa_cons (pe_call GP hr2 rfl gP.g gP.k bP .nil pass0 (pa_cons (pv 0) (pa_cons (pe_lst (pa_cons pe_str (pa_cons pe_str (pa_cons pe_str (pa_cons pe_str pa_nil))))) pa_nil))) pa_nil)) (by rfl))
      (pss_cons (ps_set (i := 9) scWords.nd rfl (Or.inl rfl) (pe_lst pa_nil))
      (pss_cons (ps_for PassesOwn.never rfl (pi_range1 (by rfl) T.range (pa_cons (pv 1) pa_nil)) (pg_name (i := 3) scWords.nd rfl (Or.inl rfl)) (pss_cons (ps_set (i := 10) scWords.nd rfl (Or.inl rfl) (pe_ix ix_str (pv 2) (pe_op op_modN (pe_callTy call_int1 (by rfl) T.int (by decide +kernel) (pa_cons (pe_op op_add (pv 6) (pe_op op_mul (pv 7) (pv 3))) pa_nil)) pe_int) (fun _ _ => rfl)))
        (pss_cons (ps_set (i := 11) scWords.nd rfl (Or.inl rfl) (pe_op op_add_str (pe_op op_add_str (pe_slice sl_str (pv 4) po_none (po_some (pv 5))) (pv 10)) (pe_slice sl_str (pv 4) (po_some (pv 5)) po_none)))
        (pss_one (ps_expr (pe_bm PySem.F.plainAttrs_list PySem.F.slot_list_append PySem.F.type_list_append mt_append (pv 9) (pa_cons (pe_ifExp (pt_cmpR op_eq (pe_op op_modN (pe_callTy call_int1 (by rfl) T.int (by decide +kernel) (pa_cons (pv 3) pa_nil)) pe_int) pe_int (nomark _)) (pe_op op_add_str (pv 11) (pv 8)) (pv 11)) pa_nil)))))))
      (pss_one (ps_ret (pv 9))))))))), ?_⟩
    refine ⟨⟨_, rfl⟩, _, rfl, p, c, ns, n, 6, rfl, hP, by omega, hl, by decide, by decide, fun d0 H1 d0a d0b hB1 hP1 => ?_⟩
    refine ⟨d0, rfl, by omega, by omega, fun D hD => ?_⟩
    have hP1' := hP1
    obtain ⟨kvs1, hp1⟩ := hP1.at
    refine lc_range (Pv := fun i Hk => But p H1 Hk ∧ PenAt Hk p c ns (n + 1 + i) ∧ ∃ ys : List PySem.Str, Hk D = some (.lst (ys.map V.str)) ∧ ys.length = i ∧ ∀ y ∈ ys, ∃ c, y = ⟨#[c]⟩ ∧ 97 ≤ c ∧ c ≤ 122) ?h0 ?hs ?hd
    case h0 =>
      exact ⟨(But.refl p H1).new hD, hP1.same (same_new hD), [], upd_same, rfl, fun y m => by cases m⟩
    case hs =>
      rintro i Hk hi ⟨hB, hP', ys, hL, hy, hY⟩
      refine ⟨rfl, _, rfl, _, rfl, p, c, _, ns, _, _, rfl, hP', by omega, hl, .inr ⟨abc, rfl, by decide +kernel, rfl⟩, ?_, ?_, fun x H' hx hB' hP'' => ?_⟩
      · rw [List.length_map, ← lenL, abc_len]; decide
      · rw [List.length_map, ← lenL, abc_len]; decide
      obtain ⟨c1, hc1, rfl⟩ := List.mem_map.mp hx
      have ne : D ≠ p := fun z => by rw [z, hp1] at hD; cases hD
      have hL' := hB' _ _ ne hL
      refine ⟨_, hL', by rw [List.length_map, hy]; show i < 16777216; omega, ?_⟩
      refine ⟨fun b o n h => ?_, ?_, ys ++ [⟨#[c1]⟩], ?_, ?_, ?_⟩
      · rw [upd_ne (ne_of_none h hD)]; exact hB' _ _ n (hB _ _ n h)
      · exact hP''.upd (hP1'.old hD).1 (hP1'.old hD).2
      · rw [upd_same, List.map_append]; rfl
      · rw [List.length_append, hy]; rfl
      · intro y m
        rcases List.mem_append.mp m with m | m
        · exact hY y m
        · rcases List.mem_cons.mp m with rfl | m
          · exact ⟨c1, rfl, abc_low _ hc1⟩
          · cases m
    case hd =>
      rintro Hk ⟨hB, hP', ys, hL, hy, hY⟩
      have jl := join_low ys hY
      refine ⟨_, D, ys, rfl, rfl, .inl (SqL.of hL), ?_, ?_⟩
      · rw [ones_sum ys hY, hy]
        show d0.toNat + d0.toNat * 0 ≤ 16777216
        omega
      generalize Txt.join "" ys = stem at jl ⊢
      have sl : stem.length = d0.toNat := by rw [lenL, jl.1, hy]
      have hS : stem.length ≤ 5 := by omega
      have m8 : sizeLine = 16777216 := rfl
      refine ⟨_, rfl, _, rfl, _, rfl, by omega, _, 1, rfl, rfl, ?_⟩
      refine ⟨p, c, ns, _, _, rfl, hP', by omega, hl, by omega, by omega, fun d1 H2 a1 b1 hB2 hP2 => ?_⟩
      refine ⟨_, rfl, p, c, ns, _, _, rfl, hP2, by omega, hl, by decide, by decide, fun d2 H3 a2 b2 hB3 hP3 => ?_⟩
      refine ⟨_, _, rfl, _, rfl, (by show 8 ≤ sizeLine; decide), fun l4 hl4 => ?_⟩
      refine ⟨p, c, _, ns, _, _, rfl, hP3.same (same_new hl4), by omega, hl, .inl ⟨_, rfl, SqL.of upd_same⟩, by decide, by decide, fun x4 H4 m4 hB4 hP4 => ?_⟩
      have v4 : ∃ j : Int, x4 = .int j ∧ 1 ≤ j ∧ j ≤ 17 := by
        have : ∀ x ∈ ([V.int 1, .int 3, .int 5, .int 7, .int 9, .int 11, .int 15, .int 17] : List V), ∃ j : Int, x = .int j ∧ 1 ≤ j ∧ j ≤ 17 := by
          intro x m
          simp only [List.mem_cons, List.not_mem_nil, or_false] at m
          rcases m with rfl | rfl | rfl | rfl | rfl | rfl | rfl | rfl <;> exact ⟨_, rfl, by decide, by decide⟩
        exact this _ m4
      obtain ⟨st, rfl, st0, st1⟩ := v4
      refine ⟨_, rfl, (by show 4 ≤ sizeLine; decide), fun l5 hl5 => ?_⟩
      refine ⟨p, c, _, ns, _, _, rfl, hP4.same (same_new hl5), by omega, hl, .inl ⟨_, rfl, SqL.of upd_same⟩, by decide, by decide, fun x5 H5 m5 hB5 hP5 => ?_⟩
      have v5 : ∃ t : PySem.Str, x5 = .str t ∧ t.length ≤ 2 ∧ Low t.cps.toList := by
        have : ∀ x ∈ ([V.str "", .str "", .str "w", .str "ww"] : List V), ∃ t : PySem.Str, x = .str t ∧ t.length ≤ 2 ∧ Low t.cps.toList := by
          intro x m
          simp only [List.mem_cons, List.not_mem_nil, or_false] at m
          rcases m with rfl | rfl | rfl | rfl <;> exact ⟨_, rfl, by decide +kernel, by unfold Low; decide +kernel⟩
        exact this _ m5
      obtain ⟨tl, rfl, tl2, tlow⟩ := v5
      refine ⟨_, _, rfl, (Nat.zero_le _), fun a6 hl6 => ?_⟩
      have B5 : But p H H5 := (((((hB1.trans hB).trans hB2).trans hB3).new hl4).trans hB4)|>.new hl5 |>.trans hB5
      obtain ⟨kvs5, hp5⟩ := hP5.at
      have ha6 : H a6 = none := B5.fresh hp5 hl6
      have sd : stem.cps.toList.length ≤ 5 := by rw [← lenL]; exact hS
      refine ⟨_, rfl, (m : Int), rfl, by omega, by omega, for_range (n := m) (fun i σ Hk => (∃ k sn wd, σ = [some (.ref p), some (.int (m : Int)), some (.str abc), k, some (.str stem), some (.int d1), some (.int d2), some (.int st), some (.str tl), some (.ref a6), sn, wd]) ∧ But p H Hk ∧ PenAt Hk p c ns (n + 10) ∧ ∃ ws : List PySem.Str, Hk a6 = some (.lst (ws.map V.str)) ∧ ws.length = i ∧ ∀ z ∈ ws, Wd z) ⟨⟨_, _, _, rfl⟩, B5.new hl6, (hP5.same (same_new hl6)).mono (by omega), [], upd_same, rfl, fun z h => by cases h⟩ ?_ ?_⟩
      · rintro i σ Hk hi ⟨⟨kv, sn, wd, rfl⟩, hBk, hPk, ws, hL6, hw, hW⟩
        obtain ⟨c1, hc1, c1a, c1b⟩ := abc_at (fm (d2 + st * (0 + (i : Int))) (by decide : (0 : Int) < 26)).1 (fm (d2 + st * (0 + (i : Int))) (by decide : (0 : Int) < 26)).2
        refine ⟨_, rfl, _, rfl, _, rfl, _, rfl, _, _, rfl, rfl, .inl ⟨by omega, by omega⟩, _, _, rfl, rfl, .inl ⟨_, rfl, _, _, rfl, rfl, (by decide : (26 : Int) ≠ 0), abc, _, c1, rfl, rfl, by decide +kernel, hc1, ?_⟩⟩
        obtain ⟨k1, rfl⟩ := Int.eq_ofNat_of_zero_le a1
        have two := cut_two stem k1 (by omega)
        have low0 : Low stem.cps.toList := jl.2
        refine ⟨_, rfl, _, rfl, _, rfl, stem, rfl, by omega, _, rfl, _, _, rfl, rfl, ?_, _, rfl, _, rfl, _, rfl, stem, rfl, by omega, _, _, rfl, rfl, ?_, ?_⟩
        · show (cutS stem none (some (k1 : Int))).length + 1 ≤ 16777216
          rw [lenL]; omega
        · rw [lenL, cps_app, List.length_append]
          show _ + 1 + (cutS stem (some (k1 : Int)) none).length ≤ 16777216
          rw [lenL (cutS stem (some (k1 : Int)) none)]; omega
        have lo1 := low0.cut none (some (k1 : Int))
        have lo2 := low0.cut (some (k1 : Int)) none
        generalize cutS stem none (some (k1 : Int)) = zA at two lo1 ⊢
        generalize cutS stem (some (k1 : Int)) none = zB at two lo2 ⊢
        have wl : (zA ++ (⟨#[c1]⟩ : PySem.Str) ++ zB).cps.toList.length = stem.length + 1 := by
          rw [cps_app, cps_app, List.length_append, List.length_append, ← two]
          show zA.cps.toList.length + 1 + zB.cps.toList.length = _
          omega
        have wlow : Low (zA ++ (⟨#[c1]⟩ : PySem.Str) ++ zB).cps.toList := by
          rw [cps_app, cps_app]
          exact (lo1.app (Low.one ⟨c1a, c1b⟩)).app lo2
        generalize zA ++ (⟨#[c1]⟩ : PySem.Str) ++ zB = wd at wl wlow ⊢
        have fin : ∀ z : PySem.Str, Wd z → But p H (upd Hk a6 (.lst (ws.map V.str ++ [.str z]))) ∧ PenAt (upd Hk a6 (.lst (ws.map V.str ++ [.str z]))) p c ns (n + 10) ∧ ∃ ws' : List PySem.Str, upd Hk a6 (.lst (ws.map V.str ++ [.str z])) a6 = some (.lst (ws'.map V.str)) ∧ ws'.length = i + 1 ∧ ∀ z ∈ ws', Wd z := by
          intro z hz
          refine ⟨fun b o n h => ?_, hPk.upd (hP5.old hl6).1 (hP5.old hl6).2, ws ++ [z], ?_, ?_, ?_⟩
          · rw [upd_ne (ne_of_none h ha6)]; exact hBk _ _ n h
          · rw [upd_same, List.map_append]; rfl
          · rw [List.length_append, hw]; rfl
          · intro y m
            rcases List.mem_append.mp m with m | m
            · exact hW y m
            · rcases List.mem_cons.mp m with rfl | m
              · exact hz
              · cases m
        have room : (ws.map V.str).length < sizeLine := by rw [List.length_map, hw]; show i < 16777216; omega
        refine ⟨_, rfl, .inl ⟨rfl, _, SqL.of hL6⟩, ?_⟩
        refine ⟨_, rfl, .inl ⟨_, rfl, _, _, rfl, rfl, (by decide : (3 : Int) ≠ 0), rfl, _, rfl, ?_⟩⟩
        refine ite2 (fun _ => ?_) (fun _ => ?_)
        · refine ⟨_, rfl, _, rfl, _, _, rfl, rfl, ?_, a6, _, _, rfl, rfl, hL6, room, ⟨_, _, _, rfl⟩, fin _ ?_⟩
          · rw [lenL, wl]; omega
          · refine ⟨?_, ?_, ?_⟩
            · rw [cps_app, List.length_append, wl]; omega
            · rw [cps_app, List.length_append, wl, ← lenL tl]; omega
            · rw [cps_app]; exact wlow.app tlow
        · exact ⟨_, rfl, a6, _, _, rfl, rfl, hL6, room, ⟨_, _, _, rfl⟩, fin _ ⟨by rw [wl]; omega, by rw [wl]; omega, wlow⟩⟩
      · rintro σ Hk ⟨⟨kv, sn, wd, rfl⟩, hBk, hPk, ws, hL6, hw, hW⟩
        exact ⟨_, rfl, k a6 ws Hk ha6 hL6 hw hW hBk hPk⟩
end
end KP
end

section
set_option Elab.async false
set_option linter.all false
set_option maxRecDepth 100000
set_option maxHeartbeats 4000000
namespace KP
open PySem PySem.Spec PyProof.Rows L2 Pn
abbrev sNames : Stmt := top 48
abbrev sItem : Stmt := top 46
abbrev sItems : Stmt := top 47
theorem nine : ∀ {ws : List PySem.Str}, ws.length = 9 → ∃ a b c d e f g h i, ws = [a, b, c, d, e, f, g, h, i]
  | [a, b, c, d, e, f, g, h, i], _ => ⟨a, b, c, d, e, f, g, h, i, rfl⟩
section
variable {P : Program} {w : World} {K : PySem.W.Frag} {mg : Str → Option Value} {base : Heap}
/-- three words in a list -/
def WL (H : Hp) (v : V) : Prop := ∃ (t : Addr) (ws : List PySem.Str), v = .ref t ∧ (H t = some (.lst (ws.map V.str)) ∧ ws.length = 3 ∧ ∀ z ∈ ws, Wd z)
theorem WL.same {H H' : Hp} {v : V} (h : WL H v) (e : Same H H') : WL H' v := let ⟨t, ws, r, a, b⟩ := h; ⟨t, ws, r, e _ _ a, b⟩
theorem WL.but {H H' : Hp} {p : Addr} {kvs : List (Key × V)} {v : V} (h : WL H v) (e : But p H H') (hp : H p = some (.dK kvs)) : WL H' v := let ⟨t, ws, r, a, b⟩ := h; ⟨t, ws, r, e _ _ (ne_of a hp (by intro z; cases z)) a, b⟩
theorem WL.two {H : Hp} {a b : V} (h : WL H a) (g : WL H b) : ∀ x ∈ [a, b], WL H x := fun x m => by
  rcases List.mem_cons.mp m with rfl | m
  · exact h
  · rcases List.mem_cons.mp m with rfl | m
    · exact g
    · cases m
def spNames : Sp := fun vs H Q _ => ∃ (p c : Addr) (ns : List Int) (n : Nat), vs = [.ref p] ∧ PenAt H p c ns n ∧ n ≤ 999990000 ∧ ns.length ≤ 63 ∧
  ∀ (a : Addr) (H' : Hp), H a = none → NamesAt H' a → But p H H' → PenAt H' p c ns (n + 12) → Q (.ref a) H'
theorem scNames : FnScope ["_law_pen_here", "_law_some"] ["_law_pen_here"] (defScope sNames) := ⟨rfl, rfl, rfl, by decide +kernel, rfl, by decide +kernel, by decide +kernel⟩
theorem ok_names {f fP fD fW : Addr} {fd fdP fdD fdW : FuncData} (F : Fun K "_law_names" "_law_names" sNames f fd) (T : Blt mg) (FD : Fun K "_law_draw" "_law_draw" sDraw fD fdD) (bD : Binds K fdD ["_law_pen_here", "_law_size"] []) (gD : Fn K mg "_law_draw" fD)
    (FP : Fun K "_law_pick" "_law_pick" sPick fP fdP) (bP : Binds K fdP ["_law_pen_here", "_law_items_here"] []) (gP : Fn K mg "_law_pick" fP)
    (FW : Fun K "_law_words" "_law_words" sWords fW fdW) (bW : Binds K fdW ["_law_pen_here", "_law_count"] []) (gW : Fn K mg "_law_words" fW) : FnOk P w K mg base CX0 4 f fd ["_law_pen_here"] spNames := by
  have GP : FnOk P w K mg base CX0 2 fP fdP ["_law_pen_here", "_law_items_here"] (spPick2 K) := ok_pick FP T FD bD gD
  have GW : FnOk P w K mg base CX0 3 fW fdW ["_law_pen_here", "_law_count"] spWords := ok_words FW T FD bD gD FP bP gP
  refine F.ok scNames (fun vs H Q E h => ?_) (fun cdv A outer s H vs Q E hr h => ?_)
  · obtain ⟨p, c, ns, n, rfl, _⟩ := h
    rfl
  · obtain ⟨p, c, ns, n, rfl, hP, hn, hl, k⟩ := h
    have hr3 : Room 3 _ := hr
    have hr2 : Room 2 _ := hr.mono (by decide)
    refine ⟨_, (pss_cons (ps_set (i := 1) scNames.nd rfl (Or.inl rfl) (pe_call GW hr3 rfl gW.g gW.k bW .nil pass0 (pa_cons (pv 0) (pa_cons pe_int pa_nil))))
      (pss_one (ps_ret (pe_tup (pa_cons (pe_slice sl_list (pv 1) po_none (po_some pe_int)) (pa_cons (pe_call GP hr2 rfl gP.g gP.k bP .nil pass0 (pa_cons (pv 0) (pa_cons (pe_lst (pa_cons (pe_slice sl_list (pv 1) (po_some pe_int) (po_some pe_int)) (pa_cons (pe_slice sl_list (pv 1) (po_some pe_int) (po_some pe_int)) pa_nil))) pa_nil))) (pa_cons (pe_call GP hr2 rfl gP.g gP.k bP .nil pass0 (pa_cons (pv 0) (pa_cons (pe_lst (pa_cons (pe_slice sl_list (pv 1) (po_some pe_int) (po_some pe_int)) (pa_cons (pe_slice sl_list (pv 1) (po_some pe_int) (po_some pe_int)) pa_nil))) pa_nil))) pa_nil))))))), ?_⟩
    refine ⟨_, rfl, p, c, ns, n, 9, rfl, hP, by omega, hl, by decide, fun a ws H1 ha hL hw hW hB1 hP1 => ?_⟩
    obtain ⟨z0, z1, z2, z3, z4, z5, z6, z7, z8, rfl⟩ := nine hw
    refine ⟨_, rfl, 3, rfl, a, _, rfl, SqL.of hL, fun q1 h1 => ?_⟩
    have e1 : cutV (([z0, z1, z2, z3, z4, z5, z6, z7, z8] : List PySem.Str).map V.str) none (some 3) = ([z0, z1, z2] : List PySem.Str).map V.str := rfl
    have e2 : cutV (([z0, z1, z2, z3, z4, z5, z6, z7, z8] : List PySem.Str).map V.str) (some 3) (some 6) = ([z3, z4, z5] : List PySem.Str).map V.str := rfl
    have e3 : cutV (([z0, z1, z2, z3, z4, z5, z6, z7, z8] : List PySem.Str).map V.str) (some 1) (some 4) = ([z1, z2, z3] : List PySem.Str).map V.str := rfl
    have e4 : cutV (([z0, z1, z2, z3, z4, z5, z6, z7, z8] : List PySem.Str).map V.str) (some 6) (some 9) = ([z6, z7, z8] : List PySem.Str).map V.str := rfl
    have e5 : cutV (([z0, z1, z2, z3, z4, z5, z6, z7, z8] : List PySem.Str).map V.str) (some 4) (some 7) = ([z4, z5, z6] : List PySem.Str).map V.str := rfl
    rw [e1]
    have L1 : upd H1 q1 (.lst (([z0, z1, z2] : List PySem.Str).map V.str)) q1 = some (.lst (([z0, z1, z2] : List PySem.Str).map V.str)) := upd_same
    have hL' := same_new (o := .lst (([z0, z1, z2] : List PySem.Str).map V.str)) h1 _ _ hL
    have S1 : Same H1 (upd H1 q1 (.lst (([z0, z1, z2] : List PySem.Str).map V.str))) := same_new h1
    generalize upd H1 q1 (.lst (([z0, z1, z2] : List PySem.Str).map V.str)) = H2 at L1 hL' S1 ⊢
    refine ⟨_, rfl, _, rfl, 3, rfl, 6, rfl, a, _, rfl, SqL.of hL', fun q2 h2 => ?_⟩
    rw [e2]
    have L2' : upd H2 q2 (.lst (([z3, z4, z5] : List PySem.Str).map V.str)) q2 = some (.lst (([z3, z4, z5] : List PySem.Str).map V.str)) := upd_same
    have S2 : Same H2 (upd H2 q2 (.lst (([z3, z4, z5] : List PySem.Str).map V.str))) := same_new h2
    generalize upd H2 q2 (.lst (([z3, z4, z5] : List PySem.Str).map V.str)) = H3 at L2' S2 ⊢
    refine ⟨_, rfl, 1, rfl, 4, rfl, a, _, rfl, SqL.of (S2 _ _ hL'), fun q3 h3 => ?_⟩
    rw [e3]
    have L3' : upd H3 q3 (.lst (([z1, z2, z3] : List PySem.Str).map V.str)) q3 = some (.lst (([z1, z2, z3] : List PySem.Str).map V.str)) := upd_same
    have S3 : Same H3 (upd H3 q3 (.lst (([z1, z2, z3] : List PySem.Str).map V.str))) := same_new h3
    generalize upd H3 q3 (.lst (([z1, z2, z3] : List PySem.Str).map V.str)) = H4 at L3' S3 ⊢
    refine ⟨(by show 2 ≤ sizeLine; decide), fun q4 h4 => ?_⟩
    have S4 : Same H4 (upd H4 q4 (.lst [.ref q2, .ref q3])) := same_new h4
    have S14 : Same H1 _ := ((S1.trans S2).trans S3).trans S4
    have wd3 : ∀ (x y z : PySem.Str), Wd x → Wd y → Wd z → ∀ u ∈ ([x, y, z] : List PySem.Str), Wd u := fun x y z hx hy hz u m => by
      simp only [List.mem_cons, List.not_mem_nil, or_false] at m
      rcases m with rfl | rfl | rfl <;> assumption
    have hh : ∀ u ∈ ([z0, z1, z2, z3, z4, z5, z6, z7, z8] : List PySem.Str), Wd u := hW
    have g0 := hh z0 (by simp); have g1 := hh z1 (by simp); have g2 := hh z2 (by simp); have g3 := hh z3 (by simp); have g4 := hh z4 (by simp)
    have g5 := hh z5 (by simp); have g6 := hh z6 (by simp); have g7 := hh z7 (by simp); have g8 := hh z8 (by simp)
    have W1 : WL _ (.ref q1) := ⟨q1, [z0, z1, z2], rfl, S4 _ _ (S3 _ _ (S2 _ _ L1)), rfl, wd3 _ _ _ g0 g1 g2⟩
    have W2 : WL _ (.ref q2) := ⟨q2, [z3, z4, z5], rfl, S4 _ _ (S3 _ _ L2'), rfl, wd3 _ _ _ g3 g4 g5⟩
    have W3 : WL _ (.ref q3) := ⟨q3, [z1, z2, z3], rfl, S4 _ _ L3', rfl, wd3 _ _ _ g1 g2 g3⟩
    have A2 := W2.two W3
    have P5 := hP1.same S14
    have L5 := S4 _ _ (S3 _ _ (S2 _ _ hL'))
    have U5 : upd H4 q4 (.lst [.ref q2, .ref q3]) q4 = some (.lst [.ref q2, .ref q3]) := upd_same
    have B5 : But p H _ := hB1.trans (Same.but p S14)
    generalize upd H4 q4 (.lst [.ref q2, .ref q3]) = H5 at W1 A2 P5 L5 U5 B5 ⊢
    refine ⟨p, c, _, ns, _, _, rfl, P5, by omega, hl, .inl ⟨_, rfl, SqL.of U5⟩, (by show 0 < 2; decide), (by show 2 < 1073741824; decide), fun x5 H6 m5 hB6 hP6 => ?_⟩
    obtain ⟨kvs5, hp5⟩ := P5.at
    obtain ⟨kvs6, hp6⟩ := hP6.at
    have X5 := (A2 x5 m5).but hB6 hp5
    have W1' := W1.but hB6 hp5
    have B6 := B5.trans hB6
    have L6 := hB6 _ _ (ne_of L5 hp5 (by intro z; cases z)) L5
    clear A2 W2 W3 U5 L5 W1 P5 hp5 hB6 B5
    refine ⟨_, rfl, _, rfl, 6, rfl, 9, rfl, a, _, rfl, SqL.of L6, fun q5 h5 => ?_⟩
    rw [e4]
    have L7 : upd H6 q5 (.lst (([z6, z7, z8] : List PySem.Str).map V.str)) q5 = some (.lst (([z6, z7, z8] : List PySem.Str).map V.str)) := upd_same
    have S7 : Same H6 (upd H6 q5 (.lst (([z6, z7, z8] : List PySem.Str).map V.str))) := same_new h5
    generalize upd H6 q5 (.lst (([z6, z7, z8] : List PySem.Str).map V.str)) = H7 at L7 S7 ⊢
    refine ⟨_, rfl, 4, rfl, 7, rfl, a, _, rfl, SqL.of (S7 _ _ L6), fun q6 h6 => ?_⟩
    rw [e5]
    have L8 : upd H7 q6 (.lst (([z4, z5, z6] : List PySem.Str).map V.str)) q6 = some (.lst (([z4, z5, z6] : List PySem.Str).map V.str)) := upd_same
    have S8 : Same H7 (upd H7 q6 (.lst (([z4, z5, z6] : List PySem.Str).map V.str))) := same_new h6
    generalize upd H7 q6 (.lst (([z4, z5, z6] : List PySem.Str).map V.str)) = H8 at L8 S8 ⊢
    refine ⟨(by show 2 ≤ sizeLine; decide), fun q7 h7 => ?_⟩
    have S9 : Same H8 (upd H8 q7 (.lst [.ref q5, .ref q6])) := same_new h7
    have S69 : Same H6 _ := (S7.trans S8).trans S9
    have A9 := WL.two ⟨q5, [z6, z7, z8], rfl, S9 _ _ (S8 _ _ L7), rfl, wd3 _ _ _ g6 g7 g8⟩ ⟨q6, [z4, z5, z6], rfl, S9 _ _ L8, rfl, wd3 _ _ _ g4 g5 g6⟩
    have U9 : upd H8 q7 (.lst [.ref q5, .ref q6]) q7 = some (.lst [.ref q5, .ref q6]) := upd_same
    generalize upd H8 q7 (.lst [.ref q5, .ref q6]) = H9 at S69 A9 U9 S9 ⊢
    have P9 := hP6.same S69
    obtain ⟨kvs9, hp9⟩ := P9.at
    refine ⟨p, c, _, ns, _, _, rfl, P9, by omega, hl, .inl ⟨_, rfl, SqL.of U9⟩, (by show 0 < 2; decide), (by show 2 < 1073741824; decide), fun x10 H10 m10 hB10 hP10 => ?_⟩
    have X10 := (A9 x10 m10).but hB10 hp9
    have X5' := (X5.same S69).but hB10 hp9
    have X1' := (W1'.same S69).but hB10 hp9
    have B10 := (B6.trans (Same.but p S69)).trans hB10
    obtain ⟨kvs10, hp10⟩ := hP10.at
    refine ⟨(by show 3 ≤ sizeLine; decide), fun t ht => ?_⟩
    have B11 := B10.new (o := .tup [.ref q1, x5, x10]) ht
    obtain ⟨t1, w1, e1', f1⟩ := X1'
    obtain ⟨t2, w2, rfl, f2⟩ := X5'
    obtain ⟨t3, w3, rfl, f3⟩ := X10
    cases e1'
    have S11 : Same H10 (upd H10 t (.tup [.ref q1, .ref t2, .ref t3])) := same_new ht
    refine k t _ (B10.fresh hp10 ht) ⟨q1, t2, t3, w1, w2, w3, upd_same, ⟨S11 _ _ f1.1, f1.2⟩, ⟨S11 _ _ f2.1, f2.2⟩, ⟨S11 _ _ f3.1, f3.2⟩⟩ B11 (hP10.same S11)
end
end KP
end

section
set_option Elab.async false
set_option linter.all false
set_option maxRecDepth 100000
set_option maxHeartbeats 4000000
namespace KP
open PySem PySem.Spec PyProof.Rows L2 Pn
/-- how many draws an item takes -/
def cost : Nat → Nat
  | 0 => 10
  | d + 1 => 10 + 3 * cost d
def spNo : Sp := fun _ _ _ _ => False
def spItem (D : Nat) : Sp := fun vs H Q _ => ∃ (p c a : Addr) (ns : List Int) (n : Nat), vs = [.ref p, .ref a, .int D] ∧ PenAt H p c ns n ∧ NamesAt H a ∧ n + cost D ≤ 1000000000 ∧ ns.length ≤ 63 ∧
  ∀ (v : V) (it : Itm) (H' : Hp), Rp (fun b => H b ≠ none) H' v it → ItOk D it → But p H H' → PenAt H' p c ns (n + cost D) → Q v H'
def spItems (D : Nat) : Sp := fun vs H Q _ => ∃ (p c a : Addr) (ns : List Int) (n t : Nat), vs = [.ref p, .ref a, .int D, .int t] ∧ PenAt H p c ns n ∧ NamesAt H a ∧ t ≤ 20 ∧ n + 1 + t * cost D ≤ 1000000000 ∧ ns.length ≤ 63 ∧
  ∀ (l : Addr) (vs : List V) (its : List Itm) (H' : Hp), H l = none → H' l = some (.lst vs) → Rps (fun b => b = l ∨ H b ≠ none) H' vs its → ItsOk D its → its.length ≤ t → But p H H' → PenAt H' p c ns (n + 1 + t * cost D) → Q (.ref l) H'
def spItemsP : Nat → Sp
  | 0 => spNo
  | d + 1 => spItems d
section
variable {P : Program} {w : World} {K : PySem.W.Frag} {mg : Str → Option Value} {base : Heap}
theorem ok_no {k : Nat} {f : Addr} {fd : FuncData} {ps : List Str} : FnOk P w K mg base CX0 k f fd ps spNo := ⟨fun _ _ _ _ h => h.elim, fun _ _ _ _ _ _ _ _ _ _ _ _ _ h => h.elim⟩
theorem scItem : FnScope ["_law_pen_here", "_law_names_here", "_law_deep", "_law_lot", "_law_size"] ["_law_pen_here", "_law_names_here", "_law_deep"] (defScope sItem) := ⟨rfl, rfl, rfl, by decide +kernel, rfl, by decide +kernel, by decide +kernel⟩
theorem ok_item1 (D : Nat) {f fP fD fI : Addr} {fd fdP fdD fdI : FuncData} (F : Fun K "_law_item" "_law_item" sItem f fd) (T : Blt mg) (FD : Fun K "_law_draw" "_law_draw" sDraw fD fdD) (bD : Binds K fdD ["_law_pen_here", "_law_size"] []) (gD : Fn K mg "_law_draw" fD)
    (FP : Fun K "_law_pick" "_law_pick" sPick fP fdP) (bP : Binds K fdP ["_law_pen_here", "_law_items_here"] []) (gP : Fn K mg "_law_pick" fP)
    (GI : FnOk P w K mg base CX0 (2 + 2 * D) fI fdI ["_law_pen_here", "_law_names_here", "_law_deep", "_law_topmost"] (spItemsP D)) (bI : Binds K fdI ["_law_pen_here", "_law_names_here", "_law_deep", "_law_topmost"] []) (gI : Fn K mg "_law_items" fI) :
    FnOk P w K mg base CX0 (3 + 2 * D) f fd ["_law_pen_here", "_law_names_here", "_law_deep"] (spItem D) := by
  have GD : FnOk P w K mg base CX0 1 fD fdD ["_law_pen_here", "_law_size"] spDraw := ok_draw FD T
  have GP : FnOk P w K mg base CX0 2 fP fdP ["_law_pen_here", "_law_items_here"] (spPick2 K) := ok_pick FP T FD bD gD
  rw [show 3 + 2 * D = (2 + 2 * D) + 1 by omega]
  refine F.ok scItem (fun vs H Q E h => ?_) (fun cdv A outer s H vs Q E hr h => ?_)
  · obtain ⟨p, c, a, ns, n, rfl, _⟩ := h
    rfl
  · obtain ⟨p, c, a, ns, n, rfl, hP, hN, hn, hl, k⟩ := h
    have hrI : Room (2 + 2 * D) _ := hr
    have hr2 : Room 2 _ := hr.mono (by omega)
    have hr1 : Room 1 _ := hr.mono (by omega)
    refine ⟨_, (pss_cons (ps_set (i := 3) scItem.nd rfl (Or.inl rfl) (pe_call GD hr1 rfl gD.g gD.k bD .nil pass0 (pa_cons (pv 0) (pa_cons (pe_ifExp (pt_cmpR op_gt (pv 2) pe_int (nomark _)) pe_int pe_int) pa_nil))))
      (pss_cons (ps_if (pt_cmpR op_lt (pv 3) pe_int (nomark _)) (pss_one (ps_ret (pe_tup (pa_cons pe_str (pa_cons (pe_call GP hr2 rfl gP.g gP.k bP .nil pass0 (pa_cons (pv 0) (pa_cons (pe_ix ix_tup (pv 1) pe_int (fun _ _ => rfl)) pa_nil))) pa_nil))))) pss_nil)
      (pss_cons (ps_if (pt_cmpR op_lt (pv 3) pe_int (nomark _)) (pss_one (ps_ret (pe_tup (pa_cons pe_str (pa_cons (pe_call GP hr2 rfl gP.g gP.k bP .nil pass0 (pa_cons (pv 0) (pa_cons (pe_ix ix_tup (pv 1) pe_int (fun _ _ => rfl)) pa_nil))) pa_nil))))) pss_nil)
      (pss_cons (ps_if (pt_cmpR op_eq (pv 3) pe_int (nomark _)) (pss_one (ps_ret (pe_tup (pa_cons pe_str (pa_cons (pe_call GP hr2 rfl gP.g gP.k bP .nil pass0 (pa_cons (pv 0) (pa_cons (pe_ix ix_tup (pv 1) pe_int (fun _ _ => rfl)) pa_nil))) pa_nil))))) pss_nil)
      (pss_cons (ps_set (i := 4) scItem.nd rfl (Or.inl rfl) (pe_call GP hr2 rfl gP.g gP.k bP .nil pass0 (pa_cons (pv 0) (pa_cons (pe_lst (pa_cons pe_int (pa_cons pe_int (pa_cons pe_int (pa_cons pe_int (pa_cons pe_int (pa_cons (pe_op op_pow pe_int pe_int) (pa_cons (pe_call GD hr1 rfl gD.g gD.k bD .nil pass0 (pa_cons (pv 0) (pa_cons pe_int pa_nil))) pa_nil)))))))) pa_nil))))
      (pss_one (ps_ret (pe_tup (pa_cons pe_str (pa_cons (pv 4) (pa_cons (pe_call GI hrI rfl gI.g gI.k bI .nil pass0 (pa_cons (pv 0) (pa_cons (pv 1) (pa_cons (pe_op op_sub (pv 2) pe_int) (pa_cons pe_int pa_nil))))) pa_nil))))))))))), ?_⟩
    have cD : 10 ≤ cost D := by cases D <;> unfold cost <;> omega
    have m8 : sizeLine = 16777216 := rfl
    refine ⟨_, rfl, _, rfl, _, 0, rfl, rfl, _, rfl, ?_⟩
    refine ite2 (fun hD => ?a) (fun hD => ?b)
    case' a => refine ⟨p, c, ns, n, 8, rfl, hP, by omega, hl, by decide, by decide, fun lot H1 la lb hB1 hP1 => ?_⟩
    case' b => refine ⟨p, c, ns, n, 6, rfl, hP, by omega, hl, by decide, by decide, fun lot H1 la lb hB1 hP1 => ?_⟩
    all_goals
      obtain ⟨kvs, hp⟩ := hP.at
      obtain ⟨l1, l2, l3, w1, w2, w3, h0, ⟨a1, b1, c1⟩, ⟨a2, b2, c2⟩, ⟨a3, b3, c3⟩⟩ := hN.but hB1 hp
      have hN1 := hN.but hB1 hp
      refine ⟨_, rfl, _, 3, rfl, rfl, _, rfl, ?_⟩
      refine ite2 (fun _ => ?_) (fun h3 => ⟨_, rfl, _, 5, rfl, rfl, _, rfl, ite2 (fun _ => ?_) (fun h5 => ?_)⟩)
      · refine ⟨_, rfl, _, rfl, a, _, 0, _, rfl, rfl, SqT.of h0, atI_nat rfl, p, c, _, ns, _, _, rfl, hP1, by omega, hl, .inl ⟨l1, rfl, SqL.of a1⟩, by rw [List.length_map, b1]; decide, by rw [List.length_map, b1]; decide, fun x H2 hm hB2 hP2 => ?_⟩
        obtain ⟨z, hz, rfl⟩ := List.mem_map.mp hm
        refine ⟨(by show 2 ≤ sizeLine; decide), fun t ht => ?_⟩
        obtain ⟨kvs2, hp2⟩ := hP2.at
        have B2 := hB1.trans hB2
        have ht0 := B2.fresh hp2 ht
        exact k _ (.say z) _ (.say (fun q => q ht0) upd_same) (.say (c1 z hz)) (B2.new ht) ((hP2.same (same_new ht)).mono (by omega))
      · refine ⟨_, rfl, _, rfl, a, _, 1, _, rfl, rfl, SqT.of h0, atI_nat rfl, p, c, _, ns, _, _, rfl, hP1, by omega, hl, .inl ⟨l2, rfl, SqL.of a2⟩, by rw [List.length_map, b2]; decide, by rw [List.length_map, b2]; decide, fun x H2 hm hB2 hP2 => ?_⟩
        obtain ⟨z, hz, rfl⟩ := List.mem_map.mp hm
        refine ⟨(by show 2 ≤ sizeLine; decide), fun t ht => ?_⟩
        obtain ⟨kvs2, hp2⟩ := hP2.at
        have B2 := hB1.trans hB2
        have ht0 := B2.fresh hp2 ht
        exact k _ (.press z) _ (.press (fun q => q ht0) upd_same) (.press (c2 z hz)) (B2.new ht) ((hP2.same (same_new ht)).mono (by omega))
      refine ⟨_, rfl, rfl, _, rfl, ite2 (fun _ => ?_) (fun h6 => ?_)⟩
      · refine ⟨_, rfl, _, rfl, a, _, 2, _, rfl, rfl, SqT.of h0, atI_nat rfl, p, c, _, ns, _, _, rfl, hP1, by omega, hl, .inl ⟨l3, rfl, SqL.of a3⟩, by rw [List.length_map, b3]; decide, by rw [List.length_map, b3]; decide, fun x H2 hm hB2 hP2 => ?_⟩
        obtain ⟨z, hz, rfl⟩ := List.mem_map.mp hm
        refine ⟨(by show 2 ≤ sizeLine; decide), fun t ht => ?_⟩
        obtain ⟨kvs2, hp2⟩ := hP2.at
        have B2 := hB1.trans hB2
        have ht0 := B2.fresh hp2 ht
        exact k _ (.go z) _ (.go (fun q => q ht0) upd_same) (.go (c3 z hz)) (B2.new ht) ((hP2.same (same_new ht)).mono (by omega))
      have big : 5 < lot := by
        have x3 : ¬ lot < 3 := fun z => h3 (decide_eq_true z)
        have x5 : ¬ lot < 5 := fun z => h5 (decide_eq_true z)
        have x6 : ¬ lot = 5 := fun z => h6 (decide_eq_true (by rw [z]))
        omega
      cases D with
      | zero =>
        first
        | exact absurd hD (by decide)
        | (exfalso; omega)
      | succ d =>
        have cd : cost (d + 1) = 10 + 3 * cost d := rfl
        refine ⟨_, rfl, 10, 9, rfl, rfl, ⟨by decide, by decide, by decide⟩, _, rfl, p, c, ns, _, 1000, rfl, hP1, by omega, hl, by decide, by decide, fun q H2 q0 q1 hB2 hP2 => ?_⟩
        refine ⟨(by show 7 ≤ sizeLine; decide), fun l4 hl4 => ?_⟩
        refine ⟨p, c, _, ns, _, _, rfl, hP2.same (same_new hl4), by omega, hl, .inl ⟨_, rfl, SqL.of upd_same⟩, (by show 0 < 7; decide), (by show 7 < 1073741824; decide), fun x H4 hm hB4 hP4 => ?_⟩
        have v4 : ∃ j : Int, x = .int j ∧ 0 ≤ j ∧ j ≤ 1000000000 := by
          simp only [List.mem_cons, List.not_mem_nil, or_false] at hm
          rcases hm with rfl | rfl | rfl | rfl | rfl | rfl | rfl
          iterate 6 exact ⟨_, rfl, by decide, by decide⟩
          exact ⟨_, rfl, q0, by omega⟩
        obtain ⟨j, rfl, j0, j1⟩ := v4
        have B4 := ((hB1.trans hB2).new hl4).trans hB4
        refine ⟨_, rfl, _, rfl, _, rfl, _, rfl, _, 1, rfl, rfl, ?_⟩
        refine ⟨p, c, a, ns, _, 3, by show [V.ref p, V.ref a, V.int (((d + 1 : Nat) : Int) - 1), V.int 3] = _; rw [show ((d + 1 : Nat) : Int) - 1 = (d : Int) by omega]; rfl, hP4, hN.but B4 hp, by decide, by omega, hl, fun l vs its H5 hl0 hL hR hO hlen hB5 hP5 => ?_⟩
        obtain ⟨kvs4, hp4⟩ := hP4.at
        obtain ⟨kvs5, hp5⟩ := hP5.at
        refine ⟨(by show 3 ≤ sizeLine; decide), fun t ht => ?_⟩
        have B5 := B4.trans hB5
        have ht0 := B5.fresh hp5 ht
        have hl00 := B4.fresh hp4 hl0
        have S5 : Same H5 (upd H5 t (.tup [.str "times", .int j, .ref l])) := same_new ht
        refine k _ (.times j its) _ (.times (fun q => q ht0) (fun q => q hl00) upd_same (S5 _ _ hL) ?_) (.times j0 j1 hlen hO) (B5.new ht) ((hP5.same S5).mono (by omega))
        refine Rps.mono ?_ (fun b o _ h => S5 _ _ h) its vs hR
        exact fun b hb => .inr (fun z => hb (B4.fresh hp4 z))
theorem scItems : FnScope ["_law_pen_here", "_law_names_here", "_law_deep", "_law_topmost", "_law_k"] ["_law_pen_here", "_law_names_here", "_law_deep", "_law_topmost"] (defScope sItems) := ⟨rfl, rfl, rfl, by decide +kernel, rfl, by decide +kernel, by decide +kernel⟩
theorem ok_items1 (D : Nat) {f fD fE : Addr} {fd fdD fdE : FuncData} (F : Fun K "_law_items" "_law_items" sItems f fd) (T : Blt mg) (FD : Fun K "_law_draw" "_law_draw" sDraw fD fdD) (bD : Binds K fdD ["_law_pen_here", "_law_size"] []) (gD : Fn K mg "_law_draw" fD)
    (GE : FnOk P w K mg base CX0 (3 + 2 * D) fE fdE ["_law_pen_here", "_law_names_here", "_law_deep"] (spItem D)) (bE : Binds K fdE ["_law_pen_here", "_law_names_here", "_law_deep"] []) (gE : Fn K mg "_law_item" fE) :
    FnOk P w K mg base CX0 (4 + 2 * D) f fd ["_law_pen_here", "_law_names_here", "_law_deep", "_law_topmost"] (spItems D) := by
  have GD : FnOk P w K mg base CX0 1 fD fdD ["_law_pen_here", "_law_size"] spDraw := ok_draw FD T
  rw [show 4 + 2 * D = (3 + 2 * D) + 1 by omega]
  refine F.ok scItems (fun vs H Q E h => ?_) (fun cdv A outer s H vs Q E hr h => ?_)
  · obtain ⟨p, c, a, ns, n, t, rfl, _⟩ := h
    rfl
  · obtain ⟨p, c, a, ns, n, t, rfl, hP, hN, ht, hn, hl, k⟩ := h
    have hrE : Room (3 + 2 * D) _ := hr
    have hr1 : Room 1 _ := hr.mono (by omega)
    refine ⟨_, (pss_one (ps_ret (pe_lc (own := [("_law_k", 4)]) (g := gName 4) (tt := tYes) rfl scItems.nd (pi_range1 (by rfl) T.range (pa_cons (pe_call GD hr1 rfl gD.g gD.k bD .nil pass0 (pa_cons (pv 0) (pa_cons (pe_op op_add (pv 3) pe_int) pa_nil))) pa_nil)) (blkOk_by (N := ["_law_pen_here", "_law_names_here", "_law_deep", "_law_topmost", "_law_k"]) (sc := defScope sItems) (by decide +kernel)) (fun _ _ _ _ _ => pg_name (i := 4) scItems.nd rfl (Or.inl rfl)) (fun _ _ _ _ _ => pts_nil) (fun _ _ _ _ _ => (pe_call GE hrE rfl gE.g gE.k bE .nil pass0 (pa_cons (pv 0) (pa_cons (pv 1) (pa_cons (pv 2) pa_nil)))))))), ?_⟩
    obtain ⟨kvs, hp⟩ := hP.at
    refine ⟨_, rfl, _, rfl, _, 1, rfl, rfl, p, c, ns, n, (t : Int) + 1, rfl, hP, by omega, hl, by omega, by omega, fun d0 H1 da db hB1 hP1 => ?_⟩
    obtain ⟨kvs1, hp1⟩ := hP1.at
    refine ⟨d0, rfl, by omega, by omega, fun L hL => ?_⟩
    have hL0 : H L = none := hB1.fresh hp1 hL
    have Lp : L ≠ p := (hP1.old hL).1
    have step : ∀ i, i < d0.toNat → n + 1 + i * cost D + cost D ≤ n + 1 + t * cost D := fun i hi => by
      have : (i + 1) * cost D ≤ t * cost D := Nat.mul_le_mul_right _ (by omega)
      rw [Nat.succ_mul] at this
      omega
    refine lc_range (Pv := fun i Hk => But p H Hk ∧ PenAt Hk p c ns (n + 1 + i * cost D) ∧ ∃ (vs : List V) (its : List Itm), Hk L = some (.lst vs) ∧ Rps (fun b => b = L ∨ H b ≠ none) Hk vs its ∧ ItsOk D its ∧ its.length = i) ?h0 ?hs ?hd
    case h0 => exact ⟨hB1.new hL, (hP1.same (same_new hL)).mono (by omega), [], [], upd_same, .nil, .nil, rfl⟩
    case hs =>
      rintro i Hk hi ⟨hB, hP', vs, its, hLk, hR, hO, hlen⟩
      obtain ⟨kvsk, hpk⟩ := hP'.at
      have hs1 := step i hi
      refine ⟨rfl, _, rfl, _, rfl, _, rfl, p, c, a, ns, _, rfl, hP', hN.but hB hp, by omega, hl, fun v it H' hR' hO' hB' hP'' => ?_⟩
      have hL' := hB' _ _ Lp hLk
      refine ⟨vs, hL', by rw [hR.len, hlen]; show i < 16777216; omega, ?_⟩
      refine ⟨fun b o nb h => by rw [upd_ne (ne_of_none h hL0)]; exact hB' _ _ nb (hB _ _ nb h), ?_, vs ++ [v], its ++ [it], upd_same, ?_, hO.app (.cons hO' .nil), by rw [List.length_append, hlen]; rfl⟩
      · rw [show n + 1 + (i + 1) * cost D = n + 1 + i * cost D + cost D by rw [Nat.succ_mul]; omega]
        exact hP''.upd Lp (hP1.old hL).2
      · refine Rps.app (Rps.mono (fun b h => h) (fun b o nb h => ?_) its vs hR) (.cons (Rp.mono (fun b h => ?_) (fun b o nb h => ?_) it v hR') .nil)
        · have bL : b ≠ L := fun z => nb (.inl z)
          have bp : b ≠ p := fun z => nb (.inr (by rw [z, hp]; exact Option.some_ne_none _))
          rw [upd_ne bL]
          exact hB' _ _ bp h
        · rcases h with rfl | h
          · rw [hLk]; exact Option.some_ne_none _
          · exact fun z => h (hB.fresh hpk z)
        · have bL : b ≠ L := fun z => nb (by rw [z, hLk]; exact Option.some_ne_none _)
          rw [upd_ne bL]
          exact h
    case hd =>
      rintro Hk ⟨hB, hP', vs, its, hLk, hR, hO, hlen⟩
      refine k L vs its Hk hL0 hLk hR hO (by omega) hB (hP'.mono ?_)
      have : d0.toNat * cost D ≤ t * cost D := Nat.mul_le_mul_right _ (by omega)
      omega
theorem ok_both {f fP fD fI : Addr} {fd fdP fdD fdI : FuncData} (F : Fun K "_law_item" "_law_item" sItem f fd) (T : Blt mg) (FD : Fun K "_law_draw" "_law_draw" sDraw fD fdD) (bD : Binds K fdD ["_law_pen_here", "_law_size"] []) (gD : Fn K mg "_law_draw" fD)
    (FP : Fun K "_law_pick" "_law_pick" sPick fP fdP) (bP : Binds K fdP ["_law_pen_here", "_law_items_here"] []) (gP : Fn K mg "_law_pick" fP)
    (FI : Fun K "_law_items" "_law_items" sItems fI fdI) (bI : Binds K fdI ["_law_pen_here", "_law_names_here", "_law_deep", "_law_topmost"] []) (gI : Fn K mg "_law_items" fI) (bE : Binds K fd ["_law_pen_here", "_law_names_here", "_law_deep"] []) (gE : Fn K mg "_law_item" f) :
    ∀ D : Nat, FnOk P w K mg base CX0 (3 + 2 * D) f fd ["_law_pen_here", "_law_names_here", "_law_deep"] (spItem D) ∧ FnOk P w K mg base CX0 (4 + 2 * D) fI fdI ["_law_pen_here", "_law_names_here", "_law_deep", "_law_topmost"] (spItems D)
  | 0 => by
    have a := ok_item1 (P := P) (w := w) (base := base) 0 F T FD bD gD FP bP gP (GI := ok_no (fd := fdI)) bI gI
    exact ⟨a, ok_items1 0 FI T FD bD gD a bE gE⟩
  | D + 1 => by
    have ih := ok_both F T FD bD gD FP bP gP FI bI gI bE gE D
    have a := ok_item1 (P := P) (w := w) (base := base) (D + 1) F T FD bD gD FP bP gP (GI := by rw [show 2 + 2 * (D + 1) = 4 + 2 * D by omega]; exact ih.2) bI gI
    exact ⟨a, ok_items1 (D + 1) FI T FD bD gD a bE gE⟩
end
end KP
end

section
set_option Elab.async false
set_option linter.all false
set_option maxRecDepth 100000
set_option maxHeartbeats 4000000
namespace KP
open PySem PySem.Spec PyProof.Rows L2 Pn
structure Blt2 (mg : Str → Option Value) : Prop where
  str : mg "str" = none
  int : mg "int" = none
  bool : mg "bool" = none
  max : mg "max" = none
end KP
end

section
set_option Elab.async false
set_option linter.all false
set_option maxRecDepth 100000
set_option maxHeartbeats 4000000
/-! values.py -/
namespace KP
open PySem PySem.Spec PyProof.Rows L2 Pn
abbrev sIsWordV : Stmt := top 25
abbrev sWhole : Stmt := top 26
abbrev sWithin : Stmt := top 27
section
variable {P : Program} {w : World} {K : PySem.W.Frag} {mg : Str → Option Value} {base : Heap}
theorem scIsWordV : FnScope ["value"] ["value"] (defScope sIsWordV) := ⟨rfl, rfl, rfl, by decide +kernel, rfl, by decide +kernel, by decide +kernel⟩
theorem ok_wordV {f : Addr} {fd : FuncData} (F : Fun K "is_word" "is_word" sIsWordV f fd) (T : Blt mg) (U : Blt2 mg) : FnOk P w K mg base CX0 1 f fd ["value"] (spWordV K) := by
  refine F.ok scIsWordV (fun vs H Q E h => ?_) (fun cdv A outer s H vs Q E hr h => ?_)
  · obtain ⟨x, d, rfl, _⟩ := h
    rfl
  · obtain ⟨x, d, rfl, hq, hz, k⟩ := h
    refine ⟨_, (pss_cons (ps_if (PW.pt (pw_or (pt_not (pt_val (pe_callB call_isi (by rfl) T.isi (by decide +kernel) (pa_cons (pv 0) (pa_cons (pe_bltn (v := .ty "str") (by rfl) U.str (by decide +kernel) rfl) pa_nil))))) (pw_or1 (pt_not (pt_chain op_le op_le pe_int (pe_callB call_len_str (by rfl) T.len PySem.boot_len (pa_cons (pv 0) pa_nil)) pe_int))))) (pss_one (ps_ret pe_bl)) pss_nil)
      (pss_one (ps_ret (pe_and (pe_bm0 PySem.F.plainAttrs_str PySem.F.slot_str_isascii PySem.F.type_str_isascii mt_isascii (pv 0)) (pe_and (pe_bm0 PySem.F.plainAttrs_str PySem.F.slot_str_isalpha PySem.F.type_str_isalpha mt_isalpha (pv 0)) (pe_one (pe_bm0 PySem.F.plainAttrs_str PySem.F.slot_str_islower PySem.F.type_str_islower mt_islower (pv 0)))))))), ?_⟩
    refine ⟨_, rfl, _, _, _, _, _, rfl, .ty _, hq.ty, kit_str d, _, rfl, ?_⟩
    by_cases hs : ∃ z, d = .str z
    · obtain ⟨z, rfl⟩ := hs
      cases hq.st z rfl
      have zl := hz z rfl
      have m8 : sizeLine = 16777216 := rfl
      rw [(isD_str (.str z)).mpr ⟨z, rfl⟩]
      refine ⟨_, rfl, z, rfl, by omega, _, _, rfl, rfl, _, rfl, ?_⟩
      have no : wdB z = false → Q (.bl false) H := fun e => by
        rw [show wordD (.str z) = wdB z from rfl, e] at k
        exact k
      refine ite2 (fun l1 => ?_) (fun l1 => ?_)
      · refine ⟨_, _, rfl, rfl, _, rfl, ite2 (fun l8 => no ?_) (fun l8 => ?_)⟩
        · have l8' : ¬ z.length ≤ 8 := fun q => by
            rw [decide_eq_true (show (z.length : Int) ≤ 8 by omega)] at l8
            cases l8
          unfold wdB
          rw [decide_eq_false l8', Bool.and_false]
          rfl
        · have l8' : z.length ≤ 8 := by
            cases e : decide ((z.length : Int) ≤ 8) with
            | true => have := of_decide_eq_true e; omega
            | false => rw [e] at l8; exact absurd rfl l8
          have l1' : 1 ≤ z.length := by have := of_decide_eq_true l1; omega
          have e : wordD (.str z) = (Txt.isascii z && (Txt.isalpha z && Txt.islower z)) := by
            rw [three z l1']
            show wdB z = _
            unfold wdB
            rw [decide_eq_true l1', decide_eq_true l8']
            rfl
          rw [e] at k
          refine ⟨_, rfl, rfl, z, rfl, rfl, trivial, Txt.isascii z, rfl, ?_⟩
          cases e1 : Txt.isascii z with
          | false =>
            rw [e1] at k
            exact k
          | true =>
            rw [e1] at k
            refine ⟨_, rfl, rfl, z, rfl, rfl, trivial, Txt.isalpha z, rfl, ?_⟩
            cases e2 : Txt.isalpha z with
            | false =>
              rw [e2] at k
              exact k
            | true =>
              rw [e2] at k
              exact ⟨_, rfl, rfl, z, rfl, rfl, trivial, k⟩
      · refine ⟨false, rfl, no ?_⟩
        have l1' : ¬ 1 ≤ z.length := fun q => l1 (decide_eq_true (by omega))
        unfold wdB
        rw [decide_eq_false l1']
        rfl
    · have e : isD "str" d = false := by
        cases e : isD "str" d with
        | false => rfl
        | true => exact absurd ((isD_str d).mp e) hs
      rw [e]
      have : wordD d = false := by
        cases d <;> first | rfl | exact absurd ⟨_, rfl⟩ hs
      rw [this] at k
      exact k
theorem scWhole : FnScope ["value"] ["value"] (defScope sWhole) := ⟨rfl, rfl, rfl, by decide +kernel, rfl, by decide +kernel, by decide +kernel⟩
theorem ok_whole {f : Addr} {fd : FuncData} (F : Fun K "is_whole" "is_whole" sWhole f fd) (T : Blt mg) (U : Blt2 mg) : FnOk P w K mg base CX0 1 f fd ["value"] (spIsInt K) := by
  refine F.ok scWhole (fun vs H Q E h => ?_) (fun cdv A outer s H vs Q E hr h => ?_)
  · obtain ⟨x, d, rfl, _⟩ := h
    rfl
  · obtain ⟨x, d, rfl, hq, k⟩ := h
    refine ⟨_, (pss_one (ps_ret (pe_and (pe_callB call_isi (by rfl) T.isi (by decide +kernel) (pa_cons (pv 0) (pa_cons (pe_bltn (v := .ty "int") (by rfl) U.int (by decide +kernel) rfl) pa_nil))) (pe_one (pe_not (pe_callB call_isi (by rfl) T.isi (by decide +kernel) (pa_cons (pv 0) (pa_cons (pe_bltn (v := .ty "bool") (by rfl) U.bool (by decide +kernel) rfl) pa_nil)))))))), ?_⟩
    unfold wholeD at k
    refine ⟨_, rfl, _, _, _, _, _, rfl, .ty _, hq.ty, kit_int d, ?_⟩
    cases e : isD "int" d with
    | true =>
      rw [e] at k
      refine ⟨true, rfl, ?_⟩
      exact ⟨_, rfl, _, _, _, _, _, rfl, .ty _, hq.ty, kit_bool d, _, rfl, k⟩
    | false =>
      rw [e] at k
      refine ⟨false, rfl, ?_⟩
      exact k
theorem scWithin : FnScope ["value", "least", "most"] ["value", "least", "most"] (defScope sWithin) := ⟨rfl, rfl, rfl, by decide +kernel, rfl, by decide +kernel, by decide +kernel⟩
theorem ok_within {f fH : Addr} {fd fdH : FuncData} (F : Fun K "is_within" "is_within" sWithin f fd) (T : Blt mg) (U : Blt2 mg) (FH : Fun K "is_whole" "is_whole" sWhole fH fdH) (bH : Binds K fdH ["value"] []) (gH : Fn K mg "is_whole" fH) : FnOk P w K mg base CX0 2 f fd ["value", "least", "most"] (spWithin K) := by
  have GH : FnOk P w K mg base CX0 1 fH fdH ["value"] (spIsInt K) := ok_whole FH T U
  refine F.ok scWithin (fun vs H Q E h => ?_) (fun cdv A outer s H vs Q E hr h => ?_)
  · obtain ⟨x, d, lo, hi, rfl, _⟩ := h
    rfl
  · obtain ⟨x, d, lo, hi, rfl, hq, k⟩ := h
    have hr1 : Room 1 _ := hr
    refine ⟨_, (pss_one (ps_ret (pe_and (pe_call GH hr1 rfl gH.g gH.k bH .nil pass0 (pa_cons (pv 0) pa_nil)) (pe_one (pe_chain op_le op_le (pv 1) (pv 0) (pv 2)))))), ?_⟩
    refine ⟨_, rfl, x, d, rfl, hq, ?_⟩
    cases e : wholeD d with
    | true =>
      obtain ⟨i, rfl⟩ := (wholeD_iff d).mp e
      cases hq.nu i rfl
      refine ⟨true, rfl, ?_⟩
      refine ⟨_, rfl, _, rfl, _, _, rfl, rfl, decide (lo ≤ i), rfl, ?_⟩
      rw [show withinD lo hi (.int i) = (decide (lo ≤ i) && decide (i ≤ hi)) from rfl] at k
      cases e1 : decide (lo ≤ i) with
      | false =>
        rw [e1] at k
        exact k
      | true =>
        rw [e1] at k
        exact ⟨_, rfl, _, _, rfl, rfl, k⟩
    | false =>
      refine ⟨false, rfl, ?_⟩
      have : withinD lo hi d = false := by
        cases d <;> first | rfl | (rw [(wholeD_iff _).mpr ⟨_, rfl⟩] at e; cases e)
      rw [this] at k
      exact k
end
end KP
end

section
set_option Elab.async false
set_option linter.all false
set_option maxRecDepth 100000
set_option maxHeartbeats 4000000
/-! Several clauses, each with the exception's name. -/
namespace L2
open PySem PySem.Spec PyProof.Rows
inductive HdsAs (X : Cx) : List ExceptHandler → List (Value × Nat × (Addr → Value → Option Addr → TS)) → Prop
  | nil : HdsAs X [] []
  | cons {x n : Str} {c : Value} {i : Nat} {ts : Addr → Value → Option Addr → TS} {b : Stmt} {bs : List Stmt} {p1 p2 : Pos} {r : List ExceptHandler} {l : List (Value × Nat × (Addr → Value → Option Addr → TS))} :
      Names X x c → X.N[i]? = some n → X.env.kindOf n = some NameKind.local →
      (∀ (a : Addr) (oe : Obj) (cls : Value) (d : Option Addr) (pn : List (Addr × Obj)), Zc cls d oe → (∃ vs, oe.data = Data.fields vs) → PSs (X.suite a ((a, oe) :: pn)) (b :: bs) (ts a cls d)) →
      HdsAs X r l → HdsAs X (ExceptHandler.ExceptHandler (some (Expr.Name x p1)) (some n) (b :: bs) p2 :: r) ((c, i, ts) :: l)
/-- behind the suite the name is gone -/
def Ends.wiped (D : Ends) (i : Nat) : Ends := { nx := fun σ H => D.nx (List.set σ i none) H, rt := D.rt, bk := fun σ H => D.bk (List.set σ i none) H, ct := fun σ H => D.ct (List.set σ i none) H }
def wManyAs (K : PySem.W.Frag) (Wout : WX) (D : Ends) : List (Value × Nat × (Addr → Value → Option Addr → TS)) → WX
  | [] => Wout
  | (c, i, ts) :: r => fun cls d σ H => ∃ b, PySem.W.exmOne K cls c = some b ∧ (b = true → ∀ a, H a = none → ts a cls d (D.wiped i) (List.set σ i (some (V.ref a))) H) ∧ (b = false → wManyAs K Wout D r cls d σ H)
theorem ps_try_manyAs {X : Cx} {body : List Stmt} {h₀ : ExceptHandler} {hds : List ExceptHandler} {l : List (Value × Nat × (Addr → Value → Option Addr → TS))} {pos : Pos} {tb : WX → TS} {Wout : WX}
    (hs : X.stack = X.env :: X.outer) (hf : X.env.frame = some X.env.locals) (hN : X.N.Nodup) (tk : Takes X Wout)
    (hb : ∀ (W : WX) (pn : List (Addr × Obj)) (xe : Value → Shared → Prop), Takes (X.tr pn xe) W → PassesOwn (model X.prog X.w) X.A X.env xe → PSs (X.tr pn xe) body (tb W))
    (hh : HdsAs X (h₀ :: hds) l) : PS X (Stmt.Try body (h₀ :: hds) [] [] pos) fun D σ H => tb (wManyAs X.K Wout D l) D σ H := by
  refine ⟨fun pins s σ H D I h => ?_⟩
  have ok := I.ok
  have hfr := ok.frames
  rw [hs] at hfr
  refine wpAny_Try_except (wpAny_mono ((hb (wManyAs X.K Wout D l) (X.pn ++ pins) (fun e s₁ => wpAny (model X.prog X.w) X.A (noteFrame e X.env) (fun _ s₂ => wpAny (model X.prog X.w) X.A (setFlight e none) (fun _ s₃ => wpAny (model X.prog X.w) X.A (handleBy e X.env (h₀ :: hds)) (SP X pins D) X.xe s₃) X.xe s₂) X.xe s₁) (fun u s' xx => ?tk) PassesOwn.looking).run [] s σ H D (Inv.toTry I _) h) (fun f s1 hsp => ?fin) (fun e s1 he => he))
  case fin =>
    cases f with
    | next =>
      obtain ⟨σ', H', J', q⟩ := hsp
      exact wpAny_execs_nil ⟨σ', H', Inv.ofTry J' ok, q⟩
    | brk =>
      obtain ⟨σ', H', J', q⟩ := hsp
      exact ⟨σ', H', Inv.ofTry J' ok, q⟩
    | cont =>
      obtain ⟨σ', H', J', q⟩ := hsp
      exact ⟨σ', H', Inv.ofTry J' ok, q⟩
    | ret u =>
      obtain ⟨v, σ', H', J', r, q⟩ := hsp
      exact ⟨v, σ', H', Inv.ofTry J' ok, r, q⟩
  case tk =>
    obtain ⟨a, B, sI, pins', σ', H', cls, d, rfl, J', nb, up, sky, na, os, ag, w⟩ := xx
    have J := Inv.ofTry J' ok
    have sky' : Sky B (X.env :: X.outer) a (Zc cls d) X.env.locals s'.heap := by
      rw [← hs]
      exact sky
    refine Sky.land Zc.steady hfr hf sky' fun h3 fl3 up3 => ?_
    have J3 : Inv X pins σ' H' { heap := h3, gens := s'.gens, drawn := s'.drawn, toks := s'.toks, os := s'.os } := Inv.landed J nb fl3.left (Heap.UpToSlots.trans up up3) os ag
    obtain ⟨oe3, vs3, he3, hz3, hd3⟩ := HandSPX.FlyingZ.there fl3
    have nfr : a ∉ List.filterMap Env.frame (X.env :: X.outer) := fun hm => by
      obtain ⟨_, o', e', hnf⟩ := Heap.FunFrames.mem fl3.right.right.left hm
      rw [he3] at e'
      cases e'
      exact hnf vs3 hd3
    have nL : a ≠ X.env.locals := fun z => nfr (List.mem_filterMap.mpr ⟨X.env, List.mem_cons_self .., by rw [hf, z]⟩)
    have nF : a ∉ frs X.outer := fun hm => by
      obtain ⟨e, he, q⟩ := List.mem_filterMap.mp hm
      exact nfr (List.mem_filterMap.mpr ⟨e, List.mem_cons_of_mem _ he, q⟩)
    have S3 := Inv.suite J3 he3 hd3 na nL nF
    clear hb h
    generalize h₀ :: hds = hl at hh ⊢
    induction hh with
    | nil =>
      refine wpAny_handleBy_nil ?_
      obtain ⟨k1, k2, k3, oe, vs, T, oT, ts', he, hz, hd, h1, hr⟩ := id fl3
      refine wpAny_bind (wpAny_field he hd h1 ?_)
      rw [if_neg (by intro z; cases z)]
      have fin : wpAny (model X.prog X.w) X.A (setFlight (Value.ref a) X.env.frame) (fun x s4 => wpAny (model X.prog X.w) X.A (throw (Value.ref a)) (SP X pins D) X.xe s4) X.xe { heap := h3, gens := s'.gens, drawn := s'.drawn, toks := s'.toks, os := s'.os } := by
        rw [hf]
        refine HandSPX.setFlight_upZ fl3 fun h4 hh4 up4 => wpAny_throw (tk (Value.ref a) _ ⟨a, B, sI, pins, σ', H', cls, d, rfl, J, nb, Heap.UpToSlots.trans (Heap.UpToSlots.trans up up3) up4, .inr (.inr (by rw [hs]; exact hh4)), na, os, ag, w⟩)
      exact wpAny_bind fin
    | cons hc hi hln hsu r ih =>
      rename_i x n c i ts b0 bs p1 p2 r' l'
      obtain ⟨b, hb1, hyes, hno⟩ := w
      have LM := PySem.W.exm_one (M := model X.prog X.w) (Inv.kIn J3) (fun A Q E s k q => wpAny_typeOf_ref (k a oe3 he3) (by rw [hz3.1]; exact q)) hb1
      have hloc : L2.Loc X.env.scope n := .inl hln
      refine wpAny_handleBy_cons (codeAny_handlers_test ?_) (fun q => by cases q)
      have test : ∀ {Q : Value → Shared → Prop} {E : Value → Shared → Prop}, Q c { heap := h3, gens := s'.gens, drawn := s'.drawn, toks := s'.toks, os := s'.os } → wpAny (model X.prog X.w) (X.A.mark (some (Value.ref a))) (eval (Expr.Name x p1) X.env) Q E { heap := h3, gens := s'.gens, drawn := s'.drawn, toks := s'.toks, os := s'.os } := by
        intro Q E q
        obtain ⟨hg, hdbg, hv⟩ := hc
        rcases hv with hm | ⟨hm, hv, hnn⟩
        · exact ld_glob S3 hg hm q hdbg
        · exact ld_blt S3 hg hm hv q hnn hdbg
      refine test (PySem.W.Looks.here LM ?_)
      cases b with
      | false => exact ih (hno rfl)
      | true =>
        refine codeAny_handlers_suite_as (HandSPX.lands_againZ fl3 fun h4 fl4 up4 => ?_)
        have J4 : Inv X pins σ' H' { heap := h4, gens := s'.gens, drawn := s'.drawn, toks := s'.toks, os := s'.os } := Inv.landed J nb fl4.left (Heap.UpToSlots.trans (Heap.UpToSlots.trans up up3) up4) os ag
        obtain ⟨oe4, vs4, he4, hz4, hd4⟩ := HandSPX.FlyingZ.there fl4
        have S4 := Inv.suite J4 he4 hd4 na nL nF
        exact store_ok (X := X.suite a ((a, oe4) :: (X.pn ++ pins))) (v := V.ref a) S4 hN hi hloc rfl (fun s5 S5 => wpAny_mono ((hsu a oe4 cls d (X.pn ++ pins) hz4 ⟨vs4, hd4⟩).run [] s5 (List.set σ' i (some (V.ref a))) H' (D.wiped i) S5 (hyes rfl a na)) (fun f s6 hsp => by
          cases f with
          | next =>
            obtain ⟨σ6, H6, S6, q6⟩ := hsp
            exact gone_ok (Inv.unsuite S6 ok) hN hi hln (fun s7 J7 => ⟨List.set σ6 i none, H6, J7, q6⟩)
          | brk =>
            obtain ⟨σ6, H6, S6, q6⟩ := hsp
            exact gone_ok (Inv.unsuite S6 ok) hN hi hln (fun s7 J7 => ⟨List.set σ6 i none, H6, J7, q6⟩)
          | cont =>
            obtain ⟨σ6, H6, S6, q6⟩ := hsp
            exact gone_ok (Inv.unsuite S6 ok) hN hi hln (fun s7 J7 => ⟨List.set σ6 i none, H6, J7, q6⟩)
          | ret u =>
            obtain ⟨v6, σ6, H6, S6, r6, q6⟩ := hsp
            exact gone_ok (Inv.unsuite S6 ok) hN hi hln (fun s7 J7 => ⟨v6, List.set σ6 i none, H6, J7, r6, q6⟩)) (fun x x1 z => False.elim z)) (.inr hln)
end L2
end

section
set_option Elab.async false
set_option linter.all false
set_option maxRecDepth 100000
set_option maxHeartbeats 4000000
namespace KP
open PySem PySem.Spec PyProof.Rows L2 Pn
theorem pe_imp {X : Cx} {e : Expr} {t t' : TE} (h : PE X e t) (i : ∀ σ H Q, t' σ H Q → t σ H Q) : PE X e t' := ⟨fun pins s σ H Q I z => h.run pins s σ H Q I (i σ H Q z)⟩
theorem takes_len {X : Cx} {W : WX} (tk : Takes X W) : Takes X (fun cls d σ H => σ.length = X.N.length → W cls d σ H) := by
  intro u s' xx
  obtain ⟨a, B, sI, pins', σ', H', cls, d, rfl, J', nb, up, sky, na, os, ag, w⟩ := xx
  exact tk _ _ ⟨a, B, sI, pins', σ', H', cls, d, rfl, J', nb, up, sky, na, os, ag, w J'.len⟩
def tclass : Nat → String
  | 0 => "InvalidItem"
  | 1 => "NotAnItem"
  | 2 => "TooMany"
  | _ => "TooDeep"
def tfield : Nat → PySem.Str
  | 0 => "field"
  | 1 => "index"
  | _ => "limit"
def tbase : Nat → String
  | 0 => "ValueError"
  | 1 => "TypeError"
  | _ => "OverflowError"
def ttag : Nat → PySem.Str
  | 0 => "item"
  | 1 => "none"
  | 2 => "many"
  | _ => "deep"
structure ToldT (K : PySem.W.Frag) (mg : Str → Option Value) (C : Nat → Addr) : Prop where
  g : ∀ j, j < 4 → mg (PySem.Str.ofString (tclass j)) = some (.ref (C j))
  b : ∀ j, j < 4 → mg (PySem.Str.ofString (tbase j)) = none
  ex : ∀ j, j < 4 → ∃ bmB newId, Exk K (C j) bmB newId
  no : ∀ j, j < 4 → PySem.W.findIn K (.ref (C j)) (tfield j) = some none
  kit : ∀ j, j < 4 → PySem.W.kitOne K (.ref (C j)) (.type (tbase j)) = some true
  em : ∀ i j, i < 4 → j < 4 → PySem.W.exmOne K (.ref (C i)) (.ref (C j)) = some (decide (i = j))
theorem ToldT.xf {K : PySem.W.Frag} {mg : Str → Option Value} {C : Nat → Addr} (T : ToldT K mg C) {j : Nat} (h : j < 4) : XfC K (C j) := by
  obtain ⟨bmB, newId, e⟩ := T.ex j h
  exact ⟨e.ga, e.gg, e.sub, e.sto.hd⟩
/-- what a refused call must have raised, and what is then told -/
def ToldE (C : Nat → Addr) (Q : VK) : XK := fun cls d H => ∃ (j : Nat) (dd : Addr) (y : V), j < 4 ∧ cls = .ref (C j) ∧ d = some dd ∧ H dd = some (.xd [(tfield j, y)]) ∧ ∀ t, H t = none → Q (.ref t) (upd H t (.tup [.str (ttag j), y, .bl true]))
def TTtold (C : Nat → Addr) (tl : XK → Hp → VK → Prop) (H : Hp) (Q : VK) : Prop := ∃ (E0 : XK) (Q0 : VK), (∀ cls d H', E0 cls d H' → ToldE C Q cls d H') ∧ (∀ v H', Q0 v H' → Q .non H') ∧ tl E0 H Q0
/-- a call whose outcome may be weakened -/
theorem pe_weak {X : Cx} {e : Expr} {W : WX} {n : Nat} {A0 : L2.St → Hp → Prop} {tl : XK → Hp → VK → Prop} (h : ∀ E : XK, (∀ cls d σ' H', E cls d H' → σ'.length = n → W cls d σ' H') → PE X e fun σ H Q => A0 σ H ∧ tl E H Q) :
    PE X e fun σ H Q => A0 σ H ∧ ∃ (E0 : XK) (Q0 : VK), (∀ cls d H', E0 cls d H' → ∀ σ' : L2.St, σ'.length = n → W cls d σ' H') ∧ (∀ v H', Q0 v H' → Q v H') ∧ tl E0 H Q0 := by
  refine ⟨fun pins s σ H Q I z => ?_⟩
  obtain ⟨a0, E0, Q0, w1, w2, t⟩ := z
  refine wpAny_mono ((h E0 (fun cls d σ' H' e => w1 cls d H' e σ')).run pins s σ H Q0 I ⟨a0, t⟩) (fun u s' r => ?_) (fun _ _ z => z)
  obtain ⟨x, H', I', rx, q⟩ := r
  exact ⟨x, H', I', rx, w2 _ _ q⟩
end KP
end

section
set_option Elab.async false
set_option linter.all false
set_option maxRecDepth 100000
set_option maxHeartbeats 4000000
namespace KP
open PySem PySem.Spec PyProof.Rows L2 Pn
theorem Kd.keep {K : PySem.W.Frag} {H H' : Hp} {x : V} {d : PyData} (k : KeptT K H H') (h : Kd K H x d) : Kd K H' x d := ⟨k.ty _ _ h.ty, h.st, h.nu⟩
theorem wordD_true {d : PyData} (h : wordD d = true) : ∃ z, d = .str z ∧ Wd z := by
  cases d with
  | str z => exact ⟨z, rfl, (wdB_iff z).mp h⟩
  | none => cases h
  | bool => cases h
  | int => cases h
  | list => cases h
  | tuple => cases h
  | dict => cases h
abbrev sSayI : Stmt := inClass (top 30) 0
abbrev sSayT : Stmt := inClass (top 30) 2
abbrev sPressI : Stmt := inClass (top 31) 0
abbrev sPressT : Stmt := inClass (top 31) 2
abbrev sGoI : Stmt := inClass (top 32) 0
abbrev sGoT : Stmt := inClass (top 32) 2
abbrev sTimesI : Stmt := inClass (top 33) 0
abbrev sTimesO : Stmt := inClass (top 33) 1
abbrev sTimesT : Stmt := inClass (top 33) 3
abbrev sBodyI : Stmt := inClass (top 34) 0
abbrev sBodyO : Stmt := inClass (top 34) 1
abbrev sBodyD : Stmt := inClass (top 34) 4
abbrev sBodyT : Stmt := inClass (top 34) 9
abbrev sDepthOf : Stmt := top 35
abbrev sCheck : Stmt := top 36
section
variable {P : Program} {w : World} {K : PySem.W.Frag} {mg : Str → Option Value} {base : Heap}
theorem scSayI : FnScope ["self", "command"] ["self", "command"] (defScope sSayI) := ⟨rfl, rfl, rfl, by decide +kernel, rfl, by decide +kernel, by decide +kernel⟩
theorem scPressI : FnScope ["self", "key"] ["self", "key"] (defScope sPressI) := ⟨rfl, rfl, rfl, by decide +kernel, rfl, by decide +kernel, by decide +kernel⟩
theorem scGoI : FnScope ["self", "mode"] ["self", "mode"] (defScope sGoI) := ⟨rfl, rfl, rfl, by decide +kernel, rfl, by decide +kernel, by decide +kernel⟩
theorem ok_sayI {f fW : Addr} {fd fdW : FuncData} {c : Cs} {C : Nat → Addr} (F : Fun K "__init__" "Say.__init__" sSayI f fd) (T : Blt mg) (U : Blt2 mg) (FW : Fun K "is_word" "is_word" sIsWordV fW fdW) (bW : Binds K fdW ["value"] []) (gW : Fn K mg "is_word" fW) (B : BodT K mg c) (R : ErrT K mg C tclass) :
    FnOk P w K mg base (L2.CX P w) 2 f fd ["self", "command"] (spOneI K C c.say "command") := by
  have GW : FnOk P w K mg base CX0 1 fW fdW ["value"] (spWordV K) := ok_wordV FW T U
  refine F.okX scSayI (fun vs H Q E h => ?_) (fun cdv A outer s H vs Q E hr h => ?_)
  · obtain ⟨H0, x, dx, v, d, rfl, _⟩ := h
    rfl
  · obtain ⟨H0, x, dx, v, d, rfl, S, n0, hx, hk, hz, kE, kQ⟩ := h
    have hr1 : Room 1 _ := hr
    refine ⟨_, pss_cons (ps_if (pt_not (pt_val (pe_call GW hr1 rfl gW.g gW.k bW .nil pass0 (pa_cons (pv 1) pa_nil)))) (pss_one (ps_raise rfl (takes_of rfl rfl rfl rfl) (pmk_one (basC 0) (R.one 0 (by decide)) (R.ty 0 (by decide)) hr1 (R.g 0 (by decide)) (pa_cons pe_str pa_nil)))) pss_nil) (pss_one (ps_fld (pv 0) (pv 1) rfl)), ?_⟩
    refine ⟨_, rfl, v, d, rfl, Kd.keep (.same S) hk, hz, _, rfl, ?_⟩
    cases e : wordD d with
    | false => exact iteT ⟨_, rfl, fun dd hdd => kE e H dd S hdd⟩
    | true =>
      obtain ⟨z, rfl, hw⟩ := wordD_true e
      have ev := hk.st z rfl
      subst ev
      refine iteF ⟨_, rfl, _, rfl, x, c.say, dx, [], rfl, hx, B.say.cl, B.nSay, (by show 0 < 1000; decide), ?_⟩
      refine kQ z _ rfl hw (fun b o h => ?_) upd_same
      rw [upd_ne (ne_of_none h n0)]
      exact S _ _ h
theorem ok_pressI {f fW : Addr} {fd fdW : FuncData} {c : Cs} {C : Nat → Addr} (F : Fun K "__init__" "Press.__init__" sPressI f fd) (T : Blt mg) (U : Blt2 mg) (FW : Fun K "is_word" "is_word" sIsWordV fW fdW) (bW : Binds K fdW ["value"] []) (gW : Fn K mg "is_word" fW) (B : BodT K mg c) (R : ErrT K mg C tclass) :
    FnOk P w K mg base (L2.CX P w) 2 f fd ["self", "key"] (spOneI K C c.press "key") := by
  have GW : FnOk P w K mg base CX0 1 fW fdW ["value"] (spWordV K) := ok_wordV FW T U
  refine F.okX scPressI (fun vs H Q E h => ?_) (fun cdv A outer s H vs Q E hr h => ?_)
  · obtain ⟨H0, x, dx, v, d, rfl, _⟩ := h
    rfl
  · obtain ⟨H0, x, dx, v, d, rfl, S, n0, hx, hk, hz, kE, kQ⟩ := h
    have hr1 : Room 1 _ := hr
    refine ⟨_, pss_cons (ps_if (pt_not (pt_val (pe_call GW hr1 rfl gW.g gW.k bW .nil pass0 (pa_cons (pv 1) pa_nil)))) (pss_one (ps_raise rfl (takes_of rfl rfl rfl rfl) (pmk_one (basC 0) (R.one 0 (by decide)) (R.ty 0 (by decide)) hr1 (R.g 0 (by decide)) (pa_cons pe_str pa_nil)))) pss_nil) (pss_one (ps_fld (pv 0) (pv 1) rfl)), ?_⟩
    refine ⟨_, rfl, v, d, rfl, Kd.keep (.same S) hk, hz, _, rfl, ?_⟩
    cases e : wordD d with
    | false => exact iteT ⟨_, rfl, fun dd hdd => kE e H dd S hdd⟩
    | true =>
      obtain ⟨z, rfl, hw⟩ := wordD_true e
      have ev := hk.st z rfl
      subst ev
      refine iteF ⟨_, rfl, _, rfl, x, c.press, dx, [], rfl, hx, B.press.cl, B.nPress, (by show 0 < 1000; decide), ?_⟩
      refine kQ z _ rfl hw (fun b o h => ?_) upd_same
      rw [upd_ne (ne_of_none h n0)]
      exact S _ _ h
theorem ok_goI {f fW : Addr} {fd fdW : FuncData} {c : Cs} {C : Nat → Addr} (F : Fun K "__init__" "Go.__init__" sGoI f fd) (T : Blt mg) (U : Blt2 mg) (FW : Fun K "is_word" "is_word" sIsWordV fW fdW) (bW : Binds K fdW ["value"] []) (gW : Fn K mg "is_word" fW) (B : BodT K mg c) (R : ErrT K mg C tclass) :
    FnOk P w K mg base (L2.CX P w) 2 f fd ["self", "mode"] (spOneI K C c.go "mode") := by
  have GW : FnOk P w K mg base CX0 1 fW fdW ["value"] (spWordV K) := ok_wordV FW T U
  refine F.okX scGoI (fun vs H Q E h => ?_) (fun cdv A outer s H vs Q E hr h => ?_)
  · obtain ⟨H0, x, dx, v, d, rfl, _⟩ := h
    rfl
  · obtain ⟨H0, x, dx, v, d, rfl, S, n0, hx, hk, hz, kE, kQ⟩ := h
    have hr1 : Room 1 _ := hr
    refine ⟨_, pss_cons (ps_if (pt_not (pt_val (pe_call GW hr1 rfl gW.g gW.k bW .nil pass0 (pa_cons (pv 1) pa_nil)))) (pss_one (ps_raise rfl (takes_of rfl rfl rfl rfl) (pmk_one (basC 0) (R.one 0 (by decide)) (R.ty 0 (by decide)) hr1 (R.g 0 (by decide)) (pa_cons pe_str pa_nil)))) pss_nil) (pss_one (ps_fld (pv 0) (pv 1) rfl)), ?_⟩
    refine ⟨_, rfl, v, d, rfl, Kd.keep (.same S) hk, hz, _, rfl, ?_⟩
    cases e : wordD d with
    | false => exact iteT ⟨_, rfl, fun dd hdd => kE e H dd S hdd⟩
    | true =>
      obtain ⟨z, rfl, hw⟩ := wordD_true e
      have ev := hk.st z rfl
      subst ev
      refine iteF ⟨_, rfl, _, rfl, x, c.go, dx, [], rfl, hx, B.go.cl, B.nGo, (by show 0 < 1000; decide), ?_⟩
      refine kQ z _ rfl hw (fun b o h => ?_) upd_same
      rw [upd_ne (ne_of_none h n0)]
      exact S _ _ h
/-! ### texts, depth -/
theorem scSayT : FnScope ["self"] ["self"] (defScope sSayT) := ⟨rfl, rfl, rfl, by decide +kernel, rfl, by decide +kernel, by decide +kernel⟩
theorem scPressT : FnScope ["self"] ["self"] (defScope sPressT) := ⟨rfl, rfl, rfl, by decide +kernel, rfl, by decide +kernel, by decide +kernel⟩
theorem scGoT : FnScope ["self"] ["self"] (defScope sGoT) := ⟨rfl, rfl, rfl, by decide +kernel, rfl, by decide +kernel, by decide +kernel⟩
theorem scTimesT : FnScope ["self"] ["self"] (defScope sTimesT) := ⟨rfl, rfl, rfl, by decide +kernel, rfl, by decide +kernel, by decide +kernel⟩
theorem scBodyT : FnScope ["self"] ["self"] (defScope sBodyT) := ⟨rfl, rfl, rfl, by decide +kernel, rfl, by decide +kernel, by decide +kernel⟩
theorem scBodyD : FnScope ["self"] ["self"] (defScope sBodyD) := ⟨rfl, rfl, rfl, by decide +kernel, rfl, by decide +kernel, by decide +kernel⟩
theorem ok_sayT {f : Addr} {fd : FuncData} {c : Cs} (F : Fun K "text" "Say.text" sSayT f fd) (B : BodT K mg c) : FnOk P w K mg base CX0 1 f fd ["self"] (spTxSay c) := by
  refine F.ok scSayT (fun vs H Q E h => ?_) (fun cdv A outer s H vs Q E hr h => ?_)
  · obtain ⟨a, dx, z, rfl, _⟩ := h
    rfl
  · obtain ⟨a, dx, z, rfl, ha, hz, q⟩ := h
    refine ⟨_, pss_one (ps_ret (pe_joined (.cons pe_str (.cons (pe_fmt (pe_fld (pv 0) rfl)) .nil)))), ?_⟩
    refine ⟨_, rfl, (by decide +kernel), _, rfl, a, c.say, dx, _, _, rfl, ha, B.say.cl, B.nSay, rfl, .inl ⟨z, rfl, ?_, z, rfl, ?_, q⟩⟩
    · exact Nat.le_trans hz (by decide)
    · rw [Str.length_append, Str.length_append]
      have e1 : (PySem.Str.empty).length = 0 := rfl
      have e2 : (("!" : PySem.Str)).length = 1 := by decide +kernel
      have e3 : sizeLine = 16777216 := rfl
      omega
theorem ok_pressT {f : Addr} {fd : FuncData} {c : Cs} (F : Fun K "text" "Press.text" sPressT f fd) (B : BodT K mg c) : FnOk P w K mg base CX0 1 f fd ["self"] (spTxPress c) := by
  refine F.ok scPressT (fun vs H Q E h => ?_) (fun cdv A outer s H vs Q E hr h => ?_)
  · obtain ⟨a, dx, z, rfl, _⟩ := h
    rfl
  · obtain ⟨a, dx, z, rfl, ha, q⟩ := h
    refine ⟨_, pss_one (ps_ret (pe_fld (pv 0) rfl)), ?_⟩
    exact ⟨_, rfl, a, c.press, dx, _, _, rfl, ha, B.press.cl, B.nPress, rfl, q⟩
theorem ok_goT {f : Addr} {fd : FuncData} {c : Cs} (F : Fun K "text" "Go.text" sGoT f fd) (B : BodT K mg c) : FnOk P w K mg base CX0 1 f fd ["self"] (spTxGo c) := by
  refine F.ok scGoT (fun vs H Q E h => ?_) (fun cdv A outer s H vs Q E hr h => ?_)
  · obtain ⟨a, dx, z, rfl, _⟩ := h
    rfl
  · obtain ⟨a, dx, z, rfl, ha, hz, q⟩ := h
    refine ⟨_, pss_one (ps_ret (pe_joined (.cons pe_str (.cons (pe_fmt (pe_fld (pv 0) rfl)) .nil)))), ?_⟩
    refine ⟨_, rfl, (by decide +kernel), _, rfl, a, c.go, dx, _, _, rfl, ha, B.go.cl, B.nGo, rfl, .inl ⟨z, rfl, ?_, z, rfl, ?_, q⟩⟩
    · exact Nat.le_trans hz (by decide)
    · rw [Str.length_append, Str.length_append]
      have e1 : (PySem.Str.empty).length = 0 := rfl
      have e2 : (("@" : PySem.Str)).length = 1 := by decide +kernel
      have e3 : sizeLine = 16777216 := rfl
      omega
theorem ok_timesT {f : Addr} {fd : FuncData} {c : Cs} (F : Fun K "text" "Times.text" sTimesT f fd) (B : BodT K mg c) : FnOk P w K mg base CX0 1 f fd ["self"] (spTxTimes c) := by
  refine F.ok scTimesT (fun vs H Q E h => ?_) (fun cdv A outer s H vs Q E hr h => ?_)
  · obtain ⟨a, dx, b, n, t, rfl, _⟩ := h
    rfl
  · obtain ⟨a, dx, b, n, t, rfl, ha, q⟩ := h
    refine ⟨_, pss_one (ps_ret (pe_fld (pv 0) rfl)), ?_⟩
    exact ⟨_, rfl, a, c.times, dx, _, _, rfl, ha, B.times.cl, B.nTxt, rfl, q⟩
theorem ok_bodyT {f : Addr} {fd : FuncData} {c : Cs} (F : Fun K "text" "Body.text" sBodyT f fd) (B : BodT K mg c) : FnOk P w K mg base CX0 1 f fd ["self"] (spTxBody c) := by
  refine F.ok scBodyT (fun vs H Q E h => ?_) (fun cdv A outer s H vs Q E hr h => ?_)
  · obtain ⟨a, dx, b, n, t, rfl, _⟩ := h
    rfl
  · obtain ⟨a, dx, b, n, t, rfl, ha, q⟩ := h
    refine ⟨_, pss_one (ps_ret (pe_fld (pv 0) rfl)), ?_⟩
    exact ⟨_, rfl, a, c.body, dx, _, _, rfl, ha, B.body.cl, B.nTxb, rfl, q⟩
theorem ok_bodyD {f : Addr} {fd : FuncData} {c : Cs} (F : Fun K "depth" "Body.depth" sBodyD f fd) (B : BodT K mg c) : FnOk P w K mg base CX0 1 f fd ["self"] (Pn.spDepth c) := by
  refine F.ok scBodyD (fun vs H Q E h => ?_) (fun cdv A outer s H vs Q E hr h => ?_)
  · obtain ⟨a, dx, b, n, t, rfl, _⟩ := h
    rfl
  · obtain ⟨a, dx, b, n, t, rfl, ha, q⟩ := h
    refine ⟨_, pss_one (ps_ret (pe_fld (pv 0) rfl)), ?_⟩
    exact ⟨_, rfl, a, c.body, dx, _, _, rfl, ha, B.body.cl, B.nDep, rfl, q⟩
end
end KP
end

section
set_option Elab.async false
set_option linter.all false
set_option maxRecDepth 100000
set_option maxHeartbeats 2000000
/-! for i, x in enumerate(t), t a tuple. -/
namespace PySem
open Sem (wp)
set_option maxHeartbeats 1000000 in
theorem meets_enumerate_newB1 {v : Value} {o : Obj} {H : Heap → Prop} (B : Begins v o H) :
    Meets (Builtin.«enumerate.__new__» ⟨[.type "enumerate", v], []⟩) (fun _ R s => H s.heap ∧
      R (.ok (.ret (.ref (s.heap.push o).objs.size))) { s with heap := (s.heap.push o).push { cls := .type "enumerate", data := .fields #[.none, .bool false, .ref s.heap.objs.size, rawInt 0, .none, .none] } }) :=
  .of_wp fun prog w A R s h => by
    obtain ⟨hp, g, d, tk, os⟩ := s; obtain ⟨h1, h⟩ := h
    have hsub := sub_enumerate
    have q1 : ∀ {A' : Around} {E : Value → Shared → Prop} {Q : Value → Shared → Prop}, Q (.ref hp.objs.size) ⟨hp.push o, g, d, tk, os⟩ → wpAny (model prog w) A' (pyIter v) Q E ⟨hp, g, d, tk, os⟩ :=
      fun q => B.iter prog w _ _ ⟨hp, g, d, tk, os⟩ _ h1 q
    wp_walk using q1
    refine wpAny_stack_any fun st => wpAny_pure ?_
    split
    · rename_i c _ _ _ _ _
      cases (c == Value.type "enumerate")
      · wp_walk using q1
        exact ⟨_, rfl, h⟩
      · wp_walk using q1
        exact ⟨_, rfl, h⟩
    · wp_walk using q1
      exact ⟨_, rfl, h⟩
theorem enum_begins1 {prog : Program} {w : World} {A : Around} {E : Value → Shared → Prop} {s : Shared} {v : Value} {o : Obj} {H : Heap → Prop} {Q : Value → Shared → Prop} (B : Begins v o H) (h1 : H s.heap)
    (h : ∀ h', IsEnum h' (s.heap.objs.size + 1) s.heap.objs.size 0 .none → h'.get? s.heap.objs.size = some o → h'.objs.size = s.heap.objs.size + 2 →
      (∀ b o, s.heap.get? b = some o → h'.get? b = some o) → Q (.ref (s.heap.objs.size + 1)) { s with heap := h' }) :
    wpAny (model prog w) A (call (.type "enumerate") [v]) Q E s := by
  refine callType_new F.called_enumerate (by decide) (F.typeCall_enumerate_1 _) (F.newCall_enumerate_1 _) (fun obj => F.args_object_init_2 obj _) F.entry_enumerate_new
    (meets_enumerate_newB1 B) ⟨h1, ?_⟩
  have hz : (s.heap.push o).objs.size = s.heap.objs.size + 1 := Heap.size_push ..
  show _ ∧ _
  rw [hz]
  have he : IsEnum ((s.heap.push o).push { cls := .type "enumerate", data := .fields #[.none, .bool false, .ref s.heap.objs.size, rawInt 0, .none, .none] }) (s.heap.objs.size + 1) s.heap.objs.size 0 .none := by
    have := Heap.get?_push_size (s.heap.push o) (o := { cls := .type "enumerate", data := .fields #[.none, .bool false, .ref s.heap.objs.size, rawInt 0, .none, .none] }) rfl
    rw [hz] at this; exact this
  refine ⟨⟨_, he, rfl⟩, h _ he (Heap.get?_push_of_some _ (Heap.get?_push_size _ B.free)) (by rw [Heap.size_push, hz]) fun b o x => Heap.get?_push_of_some _ (Heap.get?_push_of_some _ x)⟩
end PySem
namespace L2
open PySem PySem.Spec PyProof.Rows
def IteT (K : PySem.W.Frag) (a : Addr) : It :=
  ⟨fun i H => ∃ (xs : List V) (x : V), SqT K H a xs ∧ xs[i]? = some x, fun i H v H' => ∃ T x, v = .ref T ∧ H T = none ∧ H' = upd H T (.tup [.int (i : Nat), x]) ∧ ∀ xs, SqT K H a xs → xs[i]? = some x, fun i H => ∃ xs : List V, SqT K H a xs ∧ xs.length ≤ i⟩
theorem turn_enumT {P : Program} {w : World} {K : PySem.W.Frag} {elts : List Expr} {kk : Nat} {tpos : Pos} (a e it : Addr) :
    Turn P w K (.Tuple elts kk tpos) (IteT K a) [e, it] e (fun i h => (∃ old, IsEnum h e it ((i : Nat) : Int) old) ∧ h.IsTupleIter it a i ∧ e ≠ it) where
  mem := by simp
  obj := fun i h st b hb => by
    obtain ⟨⟨old, he⟩, ⟨o, ho, hc, hd⟩, _⟩ := st
    have e' : b = e ∨ b = it := by simpa using hb
    rcases e' with z | z
    · rw [z]; exact ⟨_, he, fun v q => nomatch q⟩
    · rw [z]; exact ⟨o, ho, fun v q => by rw [hd] at q; cases q⟩
  keep := fun i h h' st k => let ⟨⟨old, he⟩, hi, hne⟩ := st; ⟨⟨old, k e (by simp) _ he⟩, hi.at fun o q => k it (by simp) o q, hne⟩
  item := by
    intro X hP hw hK hc i pins s σ H E I hf st hg
    subst hP hw hK
    obtain ⟨⟨old, he⟩, hit, hne⟩ := st
    obtain ⟨xs, x, hq, hx⟩ := hg
    obtain ⟨its, rv, p, hz⟩ := I.tuple hq
    have p' : s.heap.IsTuple a its.toArray := p
    obtain ⟨u, hu, ru⟩ := rv.get hx
    have hel : e < s.heap.objs.size := Heap.lt_size he
    have hil : it < s.heap.objs.size := by obtain ⟨_, q, _⟩ := hit; exact Heap.lt_size q
    have hia : a ≠ it := fun z => by
      obtain ⟨o1, q1, c1, _⟩ := hit
      obtain ⟨o2, q2, c2, _⟩ := p'
      rw [z, q1] at q2
      cases q2
      rw [c1] at c2
      exact absurd (Value.type.inj c2) (by decide)
    have hea : e ≠ a := fun z => by
      obtain ⟨o2, q2, c2, _⟩ := p'
      have he2 : s.heap.get? e = _ := he
      rw [z, q2] at he2
      cases he2
      exact absurd (Value.type.inj c2) (by decide)
    have hin : i < its.toArray.size := by
      have := (List.getElem?_eq_some_iff.mp hu).1
      simpa using this
    refine wpAny_pyNext_enum_itemD (Draws.tuple (A := X.A.in1) (I.ok.hd hc) it a hia its.toArray) he ⟨hit, p'⟩ hin hne (by simp [hne, hea]) fun y h' tk hy ho hst' hT hsz hk => ?_
    have ey : y = u := by
      have hy' : its.toArray[i]? = some y := hy
      rw [List.getElem?_toArray, hu] at hy'
      exact (Option.some.inj hy').symm
    subst ey
    refine ⟨_, rfl, wpAny_letOwnedTupleGo_enum (s := { s with heap := h', toks := tk + 1 }) ho fun h'' he' sb => ?_⟩
    have hT2 : h''.get? s.heap.objs.size = some { cls := .type "tuple", data := .seq #[.int i tk, y] } := (sb.2 _ (Nat.ne_of_gt hel)).trans hT
    have new : ObjOk X.prog X.w (upd H s.heap.objs.size (.tup [.int (i : Nat), x])) h'' s.heap.objs.size (.tup [.int (i : Nat), x]) :=
      ⟨by show 2 ≤ sizeLine; decide, [.int i tk, y], .cons ⟨_, rfl⟩ (.cons ru .nil), ⟨_, hT2, rfl, _, rfl⟩⟩
    have I1 : Inv X pins σ (upd H s.heap.objs.size (.tup [.int (i : Nat), x])) { s with heap := h'', toks := tk + 1 } :=
      I.turnedNew (ch := [e, it]) (fun b ob hb q => (sb.2 b (fun z => hb (by simp [z]))).trans (hk b ob (fun z => hb (by simp [z])) (fun z => hb (by simp [z])) q)) hf (Nat.le_refl _) new
    refine ⟨.ref s.heap.objs.size, _, I1, rfl, ⟨_, x, rfl, I.hok.fresh (Nat.le_refl _), rfl, fun ys hy => by rw [I.tuple_inj hy hq]; exact hx⟩, ⟨⟨y, ?_⟩, hst'.1.at fun o q => (sb.2 it (Ne.symm hne)).trans q, hne⟩, fun b hb => ?_⟩
    · have e1 : ((i + 1 : Nat) : Int) = (i : Int) + 1 := by omega
      rw [e1]; exact he'
    · have hb' : b < s.heap.objs.size := by
        have e' : b = e ∨ b = it := by simpa using hb
        rcases e' with z | z
        · rw [z]; exact hel
        · rw [z]; exact hil
      rw [upd_ne (Nat.ne_of_lt hb')]
      exact (hf b hb).1
  done := by
    intro X hP hw hK hc i pins s σ H E I hf st hg
    subst hP hw hK
    obtain ⟨⟨old, he⟩, hit, hne⟩ := st
    obtain ⟨xs, hq, hx⟩ := hg
    obtain ⟨its, rv, p, hz⟩ := I.tuple hq
    have p' : s.heap.IsTuple a its.toArray := p
    obtain ⟨f0, f1, f2, f3, f4, f5⟩ := hf it (by simp)
    have hl := rv.length
    have hia : a ≠ it := fun z => by
      obtain ⟨o1, q1, c1, _⟩ := hit
      obtain ⟨o2, q2, c2, _⟩ := p'
      rw [z, q1] at q2
      cases q2
      rw [c1] at c2
      exact absurd (Value.type.inj c2) (by decide)
    have D : Draws X.prog X.w X.A.in1 it [it, a] i (fun _ _ => False) (fun j h => j = i ∧ h.IsTupleIter it a i ∧ h.IsTuple a its.toArray) := by
      refine ⟨fun j h st => let ⟨o, ho, _⟩ := st.2.1; ⟨o, ho⟩, fun j h h' st hk => ⟨st.1, st.2.1.at fun o e => hk it (by simp) o e, st.2.2.at fun o e => hk a (by simp) o e⟩, fun j s Q E hj st hQ => absurd st.1 (Nat.ne_of_lt hj), fun s Q E st hE => ?_⟩
      exact wpAny_nextOf_tuple_end (I.ok.hd hc) st.2.1 st.2.2 (by simp; omega) hE
    exact wpAny_pyNext_enum_endD D he ⟨rfl, hit, p'⟩ fun h' eb => ⟨rfl, I.turned (t' := s.toks) (fun b o hb q => eb b o hb q) f0 f1 f3 f4 f5⟩
  self := fun A i s Q E st h => let ⟨⟨_, he⟩, _⟩ := st; wpAny_pyIter_enum he h
def iEnumT (K : PySem.W.Frag) (ta : TA) : TI := fun σ H R => ta σ H fun vs H1 => ∃ a xs, vs = [.ref a] ∧ SqT K H1 a xs ∧ R (IteT K a) H1
theorem pi_enumT {X : Cx} {e : Expr} {ta : TA} {p pos tpos : Pos} {elts : List Expr} {kk : Nat} (hg : Gl X "enumerate") (hm : X.mg "enumerate" = none) (ha : PA X [e] ta) (hs : starEach [e] X.env = [(false, eval e X.env)] := by rfl) :
    PI X (.Tuple elts kk tpos) (.Call (.Name "enumerate" p) [e] [] pos) (iEnumT X.K ta) := by
  refine ⟨fun pins s σ H R I h => ?_⟩
  refine Call_ (ld_blt I hg hm boot_enumerate (PyProof.Rows.callWith_type1 (thn (ha.run pos pins s σ H _ I h) fun us s1 ⟨vs, H1, I1, r1, q1⟩ => ?_) hs rfl))
  obtain ⟨a, xs, ex, hq, q⟩ := q1
  subst ex
  cases r1 with
  | cons r rr =>
    cases rr
    cases r
    obtain ⟨its, rv, p', hz⟩ := I1.tuple hq
    refine enum_begins1 (begins_tuple a its.toArray) p' fun h' he hit hsz hk => wpAny_pyIter_enum he ?_
    have I2 : Inv X pins σ H1 { s1 with heap := h' } := I1.kept (t' := s1.toks) hk
    refine ⟨s1.heap.objs.size + 1, [s1.heap.objs.size + 1, s1.heap.objs.size], _, _, H1, rfl, I2, turn_enumT a (s1.heap.objs.size + 1) s1.heap.objs.size, ⟨⟨.none, he⟩, ⟨_, hit, rfl, rfl⟩, Nat.succ_ne_self _⟩, fun b hb => ?_, q⟩
    have e' : b = s1.heap.objs.size + 1 ∨ b = s1.heap.objs.size := by simpa using hb
    have hle : s1.heap.objs.size ≤ b := by
      rcases e' with z | z
      · rw [z]; exact Nat.le_add_right _ _
      · rw [z]; exact Nat.le_refl _
    exact I1.fpOk hle (I1.hok.fresh hle)
section
variable {K : PySem.W.Frag} {a : Addr} {xs : List V}
theorem walk_enumT : Walk (IteT K a) xs.length (fun H => SqT K H a xs) (YPair (fun i => some (.int (i : Nat))) (fun i => xs[i]?)) := by
  refine ⟨fun i _ hi q => ⟨xs, xs[i], q, by simp [hi]⟩, fun _ q => ⟨xs, q, Nat.le_refl _⟩, fun i H v H' _ q y => ?_⟩
  obtain ⟨T, x, h1, h2, h3, h4⟩ := y
  exact ⟨T, .int (i : Nat), x, h1, h2, h3, rfl, h4 xs q⟩
end
end L2
end

section
set_option Elab.async false
set_option linter.all false
set_option maxRecDepth 100000
set_option maxHeartbeats 2000000
/-! Classes called with starred arguments, by their name or held by a local; max(l, default=d). -/
namespace L2
open PySem PySem.Spec PyProof.Rows StX PySem.W
/-- C(*y) -/
def tMakeR1 (K : PySem.W.Frag) (C : Addr) (sp : Sp) (E : XK) (te : TE) : TE := fun σ H Q => te σ H fun y H1 => ∃ a xs, y = V.ref a ∧ (SqT K H1 a xs ∨ SqL K H1 a xs) ∧ ∀ x dx, H1 x = Option.none → H1 dx = Option.none → dx ≠ x →
  sp (V.ref x :: xs) (upd (upd H1 dx (.own x)) x (.ins C dx [])) (fun v H2 => v = .non ∧ Q (.ref x) H2) E
/-- a local name holds the class -/
def tLocC (i : Nat) (C : Addr) (t : TE) : TE := fun σ H Q => σ[i]? = some (some (.ref C)) ∧ t σ H Q
section
variable {X : Cx} {CX : CXT} {k i : Nat} {f C : Addr} {sp : Sp} {E : XK} {x : Str} {e : Expr} {es : List Expr} {te : TE} {t : TA} {p sp_ pos : Pos}
theorem pe_makeR1 (M : Mk X.K C f) (F : FnR X.prog X.w X.K X.mg X.base CX k f sp) (hr : Room (k + 1) X.A) (hg : Gl X x) (hm : X.mg x = some (.ref C)) (hx : Passes CX X E) (he : PE X e te) (hd : (x == ("__debug__" : Str)) = false := by decide)
    (hst : starEach [.Starred e sp_] X.env = [(true, eval e X.env)] := by rfl) : PE X (.Call (.Name x p) [.Starred e sp_] [] pos) (tMakeR1 X.K C sp E te) := by
  refine ⟨fun pins s σ H Q I h => ?_⟩
  refine wpAny_Call_Name_kw (ld_glob I hg hm ?_ hd)
  refine PySem.W.callWith_S (h₀ := X.base) I.ok.mod.kin M.kp (thn (he.run pins s σ H _ I h) fun v s1 ⟨y, H1, I1, ry, a, xs, ey, hxs, q⟩ => ?_) hst
  subst ey
  obtain rfl : v = Value.ref a := ry
  exact star_any I1 hxs fun us s2 I2 rv => ⟨I2.kIn, run_makeR M F hr hx I2 rv q⟩
/-- C() -/
theorem pe_makeR0 (M : Mk X.K C f) (F : FnR X.prog X.w X.K X.mg X.base CX k f sp) (hr : Room (k + 1) X.A) (hg : Gl X x) (hm : X.mg x = some (.ref C)) (hx : Passes CX X E) (hd : (x == ("__debug__" : Str)) = false := by decide) :
    PE X (.Call (.Name x p) [] [] pos) (tMakeR C sp E tNil) := by
  refine ⟨fun pins s σ H Q I h => ?_⟩
  refine wpAny_Call_Name_kw (ld_glob I hg hm ?_ hd)
  refine PySem.W.callWith_K0 I.kIn M.kp ?_
  exact run_makeR M F hr hx I .nil h
/-- y(*z), y a local that holds the class -/
theorem pe_makeL1 (M : Mk X.K C f) (F : FnR X.prog X.w X.K X.mg X.base CX k f sp) (hr : Room (k + 1) X.A) (hN : X.N[i]? = some x) (hv : Vis X.env.scope x) (hx : Passes CX X E) (he : PE X e te) (hdb : (x == ("__debug__" : Str)) = false := by decide) (hcd : (x == ("__classdict__" : Str)) = false := by decide)
    (hst : starEach [.Starred e sp_] X.env = [(true, eval e X.env)] := by rfl) : PE X (.Call (.Name x p) [.Starred e sp_] [] pos) (tLocC i C (tMakeR1 X.K C sp E te)) := by
  refine ⟨fun pins s σ H Q I h => ?_⟩
  obtain ⟨hs, ht⟩ := h
  refine wpAny_Call_Name_kw (thn ((pe_var (pos := p) hN hv hdb hcd).run pins s σ H (fun v H1 => v = .ref C ∧ H1 = H) I ⟨.ref C, hs, rfl, rfl⟩) fun u s0 ⟨v0, H0, I0, r0, q0⟩ => ?_)
  obtain ⟨rfl, rfl⟩ := q0
  cases r0
  refine PySem.W.callWith_S (h₀ := X.base) I.ok.mod.kin M.kp (thn (he.run pins s0 σ _ _ I0 ht) fun v s1 ⟨y, H1, I1, ry, a, xs, ey, hxs, q⟩ => ?_) hst
  subst ey
  obtain rfl : v = Value.ref a := ry
  exact star_any I1 hxs fun us s2 I2 rv => ⟨I2.kIn, run_makeR M F hr hx I2 rv q⟩
/-- y(e, .., *z), y a local that holds the class -/
theorem pe_makeL2 (M : Mk X.K C f) (F : FnR X.prog X.w X.K X.mg X.base CX k f sp) (hr : Room (k + 1) X.A) (hN : X.N[i]? = some x) (hv : Vis X.env.scope x) (hx : Passes CX X E) (ha : PA X (e :: es) t) (hdb : (x == ("__debug__" : Str)) = false := by decide) (hcd : (x == ("__classdict__" : Str)) = false := by decide)
    (he : starEach (e :: es) X.env = (false, eval e X.env) :: starEach es X.env := by rfl) (hst : (backTo pos (starEach es X.env)).any (·.1) = true := by rfl) : PE X (.Call (.Name x p) (e :: es) [] pos) (tLocC i C (tMakeR C sp E t)) := by
  refine ⟨fun pins s σ H Q I h => ?_⟩
  obtain ⟨hs, ht⟩ := h
  refine wpAny_Call_Name_kw (thn ((pe_var (pos := p) hN hv hdb hcd).run pins s σ H (fun v H1 => v = .ref C ∧ H1 = H) I ⟨.ref C, hs, rfl, rfl⟩) fun u s0 ⟨v0, H0, I0, r0, q0⟩ => ?_)
  obtain ⟨rfl, rfl⟩ := q0
  cases r0
  refine PySem.W.callWith_S2 (h₀ := X.base) I.ok.mod.kin M.kp (thn (ha.run pos pins s0 σ _ _ I0 ht) fun us s1 ⟨vs, H1, I1, r, q⟩ => ⟨I1.kIn, ?_⟩) he hst
  exact run_makeR M F hr hx I1 r q
end
/-! ### max(l, default=d) -/
/-- of a list of ints -/
def rMaxD (K : PySem.W.Frag) : List V → List V → Hp → VK → Prop := fun vs zs H Q => ∃ (a : Addr) (ns : List Int) (d : V), vs = [V.ref a] ∧ zs = [d] ∧ SqL K H a (ns.map V.int) ∧ (ns = [] → Q d H) ∧ (∀ m, m ∈ ns → (∀ y, y ∈ ns → y ≤ m) → Q (.int m) H)
theorem readsAll_ints {h : Heap} : ∀ {us : List Value} {ns : List Int}, Vals (ns.map V.int) us → HoldAll h us ns
  | _, [], .nil => .nil
  | _, n :: ns, .cons r t => by
    obtain ⟨tk, rfl⟩ := r
    exact .cons (holds_int n tk) (readsAll_ints t)
theorem maxOf_cons (x y : Int) (ys : List Int) : maxOf x (y :: ys) = maxOf (if x < y then y else x) ys := by
  show List.foldl _ _ _ = List.foldl _ _ _
  rw [List.foldl_cons]
  have e : (if DatumOrd.lt x y = true then y else x) = if x < y then y else x := by
    show (if decide (x < y) = true then y else x) = _
    by_cases h : x < y
    · rw [if_pos h, if_pos (decide_eq_true h)]
    · rw [if_neg h, if_neg (by rw [decide_eq_true_iff]; exact h)]
  rw [e]
theorem maxOf_int : ∀ (xs : List Int) (x : Int), maxOf x xs ∈ x :: xs ∧ ∀ y, y ∈ x :: xs → y ≤ maxOf x xs
  | [], x => ⟨List.mem_cons_self .., fun y h => by rcases List.mem_cons.mp h with rfl | h; exact Int.le_refl _; cases h⟩
  | z :: zs, x => by
    rw [maxOf_cons]
    by_cases h : x < z
    · rw [if_pos h]
      obtain ⟨a, b⟩ := maxOf_int zs z
      refine ⟨List.mem_cons_of_mem _ a, fun y m => ?_⟩
      rcases List.mem_cons.mp m with rfl | m
      · have := b z (List.mem_cons_self ..)
        omega
      · exact b y m
    · rw [if_neg h]
      obtain ⟨a, b⟩ := maxOf_int zs x
      refine ⟨?_, fun y m => ?_⟩
      · rcases List.mem_cons.mp a with e | e
        · rw [e]; exact List.mem_cons_self ..
        · exact List.mem_cons_of_mem _ (List.mem_cons_of_mem _ e)
      · rcases List.mem_cons.mp m with rfl | m
        · exact b _ (List.mem_cons_self ..)
        · rcases List.mem_cons.mp m with rfl | m
          · have := b x (List.mem_cons_self ..)
            omega
          · exact b y (List.mem_cons_of_mem _ m)
theorem cr_maxD {X : Cx} (hc : X.calm = true) (hu : X.A.units + 3 < cLine) : CallRK X (.builtin "max") ["default"] (rMaxD X.K) := by
  intro pins s σ H xs zs us ws Q I r rz h
  obtain ⟨a, ns, d, rfl, rfl, hs, h0, h1⟩ := h
  obtain ⟨its, rv, hl, _⟩ := I.list hs
  rw [Vals.ref1 r]
  cases rz with
  | cons rd rn =>
    cases rn
    show wpAny _ _ (call (.builtin "max") [.ref a] [(Str.ofString "default", _)]) _ _ _
    refine max_list_datum_default (α := Int) (vs := its.toArray) (xs := ns) (I.ok.hd hc) hl.isList (by simpa using readsAll_ints rv) (by show X.A.units + 1 + 0 < cLine; omega) (fun e h' tk hk => ⟨d, H, I.kept hk, rd, h0 e⟩) fun y ys i v h' tk e hi hv hk => ?_
    subst e
    obtain ⟨m1, m2⟩ := maxOf_int ys y
    obtain ⟨as, hr⟩ := hv
    have ev : ∃ t, v = .int (maxOf y ys) t := by
      have hr' : Reads h' v (.int (maxOf y ys)) as := hr
      cases hr' with
      | int _ t => exact ⟨t, rfl⟩
    obtain ⟨t, rfl⟩ := ev
    exact ⟨.int (maxOf y ys), H, I.kept hk, ⟨t, rfl⟩, h1 _ m1 m2⟩
end L2
end

section
set_option Elab.async false
set_option linter.all false
set_option maxRecDepth 100000
set_option maxHeartbeats 4000000
namespace KP
open PySem PySem.Spec PyProof.Rows L2 Pn
theorem pe_cst {X : Cx} {x : PySem.Str} {i : Int} {pos : Pos} (hg : Gl X x) (h : ∃ t, X.mg x = some (.int i t)) (hd : (x == ("__debug__" : PySem.Str)) = false := by decide) : PE X (.Name x pos) (tC (.int i)) := by
  obtain ⟨t, h⟩ := h
  exact pe_glob hg h ⟨_, rfl⟩ hd
theorem bIsi : bootBuiltins "isinstance" = some (.builtin "isinstance") := by decide +kernel
theorem room3 {k : Nat} {A : Around} (r : Room k A) : A.units + 3 < cLine := by
  have := r.un
  omega
theorem ms_pos : ∀ (l : List Itm), ∀ y ∈ ms l, 1 ≤ y
  | [], y, h => by cases h
  | i :: l, y, h => by
    unfold ms at h
    rw [List.flatMap_cons] at h
    rcases List.mem_append.mp h with h | h
    · cases i with
      | times n its =>
        rcases List.mem_cons.mp h with rfl | h
        · omega
        · cases h
      | say => cases h
      | press => cases h
      | go => cases h
    · exact ms_pos l y h
theorem firstBad_all : ∀ {os : List (Option Itm)}, (∀ j, j < os.length → ∃ i, os[j]? = some (some i)) → firstBad os = none
  | [], _ => rfl
  | none :: r, h => by obtain ⟨i, q⟩ := h 0 (by simp); cases q
  | some i :: r, h => by
    unfold firstBad
    rw [firstBad_all (os := r) (fun j l => h (j + 1) (by simp; omega))]
    rfl
theorem _root_.Pn.BodT.any {K : PySem.W.Frag} {mg : PySem.Str → Option Value} {c : Cs} (B : BodT K mg c) {C : Addr} (h : C = c.say ∨ C = c.press ∨ C = c.go ∨ C = c.times) : PySem.W.kitAny K (.ref C) [.ref c.say, .ref c.press, .ref c.go, .ref c.times] = some true := by
  have h5 : C = c.say ∨ C = c.press ∨ C = c.go ∨ C = c.times ∨ C = c.body := by rcases h with h | h | h | h <;> simp [h]
  refine kitAny_cons (B.kit C h5 c.say (.inl rfl)) (fun h1 => kitAny_cons (B.kit C h5 c.press (.inr (.inl rfl))) (fun h2 => kitAny_cons (B.kit C h5 c.go (.inr (.inr (.inl rfl)))) (fun h3 => kitAny_cons (B.kit C h5 c.times (.inr (.inr (.inr rfl)))) (fun h4 => ?_) (fun _ => rfl)) (fun _ => rfl)) (fun _ => rfl)) (fun _ => rfl)
  rw [decide_eq_false_iff_not] at h1 h2 h3 h4
  rcases h with h | h | h | h
  · exact absurd h h1
  · exact absurd h h2
  · exact absurd h h3
  · exact absurd h h4
theorem _root_.Pn.NoIt.any {K : PySem.W.Frag} {c : Cs} {H : Hp} {v : V} (h : NoIt K c H v) : ∃ t, TyX K H v t ∧ PySem.W.kitAny K t [.ref c.say, .ref c.press, .ref c.go, .ref c.times] = some false := by
  obtain ⟨t, a, h1, h2, h3, h4⟩ := h
  exact ⟨t, a, kitAny_cons h1 (fun _ => kitAny_cons h2 (fun _ => kitAny_cons h3 (fun _ => kitAny_cons h4 (fun _ => kitAny_nil) (fun z => by cases z)) (fun z => by cases z)) (fun z => by cases z)) (fun z => by cases z)⟩
/-- the class of an item's object -/
theorem _root_.Pn.Io.ty {K : PySem.W.Frag} {mg : PySem.Str → Option Value} {c : Cs} {H : Hp} {v : V} {i : Itm} (B : BodT K mg c) (h : Io c H v i) : ∃ C, (C = c.say ∨ C = c.press ∨ C = c.go ∨ C = c.times) ∧ TyX K H v (.ref C) := by
  cases h with
  | say h => exact ⟨_, .inl rfl, B.say.tyx h⟩
  | press h => exact ⟨_, .inr (.inl rfl), B.press.tyx h⟩
  | go h => exact ⟨_, .inr (.inr (.inl rfl)), B.go.tyx h⟩
  | times h b => exact ⟨_, .inr (.inr (.inr rfl)), B.times.tyx h⟩
structure Blt3 (mg : PySem.Str → Option Value) : Prop where
  max : mg "max" = none
  enum : mg "enumerate" = none
  isi : mg "isinstance" = none
  len : mg "len" = none
section
variable {P : Program} {w : World} {K : PySem.W.Frag} {mg : PySem.Str → Option Value} {base : Heap}
theorem scDepthOf : FnScope ["items", "item"] ["items"] (defScope sDepthOf) := ⟨rfl, rfl, rfl, by decide +kernel, rfl, by decide +kernel, by decide +kernel⟩
theorem ok_depthOf {f fD pD : Addr} {fd fdD : FuncData} {c : Cs} (F : Fun K "depth_of" "depth_of" sDepthOf f fd) (T : Blt3 mg) (B : BodT K mg c) (FD : Fun K "depth" "Body.depth" sBodyD fD fdD) (bD : Binds K fdD ["self"] []) (gD : PropOf K c.body "depth" pD fD) :
    FnOk P w K mg base CX0 3 f fd ["items"] (spDep K c) := by
  have GD : FnOk P w K mg base CX0 1 fD fdD ["self"] (Pn.spDepth c) := ok_bodyD FD B
  refine F.ok scDepthOf (fun vs H Q E h => ?_) (fun cdv A outer s H vs Q E hr h => ?_)
  · obtain ⟨t, xs, its, rfl, _⟩ := h
    rfl
  · obtain ⟨t, xs, its, rfl, hS, hI, hl, q⟩ := h
    have hr2 : Room 2 _ := hr
    have hu := room3 hr2
    refine ⟨_, pss_one (ps_ret (pe_callBK (cr_maxD rfl hu) (by rfl) T.max (by decide +kernel) (pa_cons (pe_lc (own := [("item", 1)]) (g := gName 1) (tt := _) rfl scDepthOf.nd (pi_tup (pv 0)) (blkOk_by (N := ["items", "item"]) (sc := defScope sDepthOf) (by decide +kernel)) (fun _ _ _ _ _ => pg_name (i := 1) scDepthOf.nd rfl (Or.inl rfl))
      (fun _ _ _ _ _ => (pts_one (pt_val (pe_callB (r := rIsi K) call_isi (by rfl) T.isi bIsi (pa_cons (pv 1) (pa_cons (pe_glob (v := .ref c.times) rfl B.gTimes rfl) pa_nil))))))
      (fun _ _ _ _ _ => (pe_op op_add pe_int (pe_prop (show PE _ _ (tFld K _ _) from pe_fld (pv 1) rfl) B.body.cl gD GD hr2 bD .nil pass0 rfl)))) pa_nil) (pk_cons pe_int pk_nil))), ?_⟩
    refine ⟨_, rfl, t, rfl, ⟨_, hS⟩, fun L hLn => ?_⟩
    have hx := hI.len
    refine lc_tup (xs := xs) (fun i Hk => Same H Hk ∧ Hk L = some (.lst ((ms (its.take i)).map V.int)) ∧ (ms (its.take i)).length ≤ i) ⟨same_new hLn, upd_same, Nat.le_refl _⟩ (fun i Hk _ h => SqT.same h.1 hS) ?_ ?_
    · rintro i x Hk hxi ⟨hSk, hLk, hlen⟩
      have hIk := hI.keep (.same hSk)
      obtain ⟨it, hit, hr0⟩ := hIk.get hxi
      have tk : its.take (i + 1) = its.take i ++ [it] := by
        rw [List.take_add_one, hit]; rfl
      have il : i < xs.length := (List.getElem?_eq_some_iff.mp hxi).1
      refine ⟨rfl, ?_⟩
      have skip : tm it = [] → Same H Hk ∧ Hk L = some (.lst ((ms (its.take (i + 1))).map V.int)) ∧ (ms (its.take (i + 1))).length ≤ i + 1 := fun e => by
        have e2 : ms (its.take (i + 1)) = ms (its.take i) := by
          rw [tk, ms_app]
          show ms (its.take i) ++ (tm it ++ []) = _
          rw [e]; simp
        rw [e2]
        exact ⟨hSk, hLk, by omega⟩
      cases hr0 with
      | say h => exact ⟨_, rfl, _, _, _, _, _, rfl, .own _, B.say.tyx h, B.kit _ (.inl rfl) _ (.inr (.inr (.inr rfl))), _, rfl, ite2 (fun z => absurd (of_decide_eq_true z) B.ne1) (fun _ => skip rfl)⟩
      | press h => exact ⟨_, rfl, _, _, _, _, _, rfl, .own _, B.press.tyx h, B.kit _ (.inr (.inl rfl)) _ (.inr (.inr (.inr rfl))), _, rfl, ite2 (fun z => absurd (of_decide_eq_true z) B.ne2) (fun _ => skip rfl)⟩
      | go h => exact ⟨_, rfl, _, _, _, _, _, rfl, .own _, B.go.tyx h, B.kit _ (.inr (.inr (.inl rfl))) _ (.inr (.inr (.inr rfl))), _, rfl, ite2 (fun z => absurd (of_decide_eq_true z) B.ne3) (fun _ => skip rfl)⟩
      | times h b =>
        rename_i a dx b n its2
        refine ⟨_, rfl, _, _, _, _, _, rfl, .own _, B.times.tyx h, B.kit _ (.inr (.inr (.inr (.inl rfl)))) _ (.inr (.inr (.inr rfl))), _, rfl, ite2 (fun _ => ?_) (fun z => absurd (decide_eq_true rfl) z)⟩
        cases b with
        | mk hb he hi2 =>
          refine ⟨_, rfl, _, _, _, _, _, rfl, h, B.times.cl, B.nBod, rfl, _, _, _, rfl, hb, _, _, _, _, _, rfl, hb, _, _, rfl, rfl, _, hLk, by rw [List.length_map]; show _ < 16777216; omega, fun b o e => ?_, ?_, ?_⟩
          · rw [upd_ne (ne_of_none e hLn)]
            exact hSk _ _ e
          · rw [upd_same, tk, ms_app, List.map_append]
            rfl
          · rw [tk, ms_app, List.length_append]
            show _ + 1 ≤ _
            omega
    · rintro Hk ⟨hSk, hLk, hlen⟩
      have tl : its.take xs.length = its := List.take_of_length_le (by omega)
      rw [tl] at hLk hlen
      refine ⟨L, _, _, rfl, rfl, SqL.of hLk, fun e => ?_, fun m hm hle => ?_⟩
      · have d0 : dIs its = 0 := by
          have := ms_mem its
          rw [e] at this
          have := List.mem_singleton.mp this
          omega
        have := q Hk hSk
        rw [d0] at this
        exact this
      · have q1 := ms_le its m hm
        have q2 : ((dIs its : Nat) : Int) ≤ m := by
          rcases List.mem_cons.mp (ms_mem its) with e | e
          · have := ms_pos its m hm
            omega
          · exact hle _ e
        rw [show m = ((dIs its : Nat) : Int) by omega]
        exact q Hk hSk
end
end KP
end

section
set_option Elab.async false
set_option linter.all false
set_option maxRecDepth 100000
set_option maxHeartbeats 4000000
namespace KP
open PySem PySem.Spec PyProof.Rows L2 Pn
section
variable {P : Program} {w : World} {K : PySem.W.Frag} {mg : Str → Option Value} {base : Heap}
theorem scCheck : FnScope ["items", "depth", "index", "item"] ["items", "depth"] (defScope sCheck) := ⟨rfl, rfl, rfl, by decide +kernel, rfl, by decide +kernel, by decide +kernel⟩
theorem ok_check {f fD pD fO : Addr} {fd fdD fdO : FuncData} {c : Cs} {C : Nat → Addr} (F : Fun K "check_items" "check_items" sCheck f fd) (T : Blt3 mg) (B : BodT K mg c) (R : ErrT K mg C tclass) (FD : Fun K "depth" "Body.depth" sBodyD fD fdD) (bD : Binds K fdD ["self"] []) (gD : PropOf K c.body "depth" pD fD)
    (FO : Fun K "depth_of" "depth_of" sDepthOf fO fdO) (bO : Binds K fdO ["items"] []) (gO : Fn K mg "depth_of" fO) :
    FnOk P w K mg base (L2.CX P w) 4 f fd ["items", "depth"] (spChk K c C) := by
  have GO : FnOk P w K mg base CX0 3 fO fdO ["items"] (spDep K c) := ok_depthOf FO T B FD bD gD
  refine F.okX scCheck (fun vs H Q E h => ?_) (fun cdv A outer s H vs Q E hr h => ?_)
  · obtain ⟨t, xs, os, dep, rfl, _⟩ := h
    rfl
  · obtain ⟨t, xs, os, dep, rfl, hS, hI, hl, kE, q⟩ := h
    have hr3 : Room 3 _ := hr
    have hr1 : Room 1 _ := hr.mono (by decide)
    refine ⟨_, pss_cons (ps_for (passes_of rfl) rfl (pi_enumT (by rfl) T.enum (pa_cons (pv 0) pa_nil)) (pg_tup (by rfl) (pgs_cons (pg_name (i := 2) scCheck.nd rfl (Or.inl rfl)) (pgs_cons (pg_name (i := 3) scCheck.nd rfl (Or.inl rfl)) pgs_nil)))
        (pss_one (ps_if (pt_not (pt_val (pe_callB call_isiT (by rfl) T.isi bIsi (pa_cons (pv 3) (pa_cons (pe_tup (pa_cons (pe_glob (v := .ref c.say) rfl B.gSay rfl) (pa_cons (pe_glob (v := .ref c.press) rfl B.gPress rfl) (pa_cons (pe_glob (v := .ref c.go) rfl B.gGo rfl) (pa_cons (pe_glob (v := .ref c.times) rfl B.gTimes rfl) pa_nil))))) pa_nil)))))
          (pss_one (ps_raise rfl (takes_of rfl rfl rfl rfl) (pmk_one (basC 1) (R.one 1 (by decide)) (R.ty 1 (by decide)) hr1 (R.g 1 (by decide)) (pa_cons (pv 2) pa_nil)))) pss_nil)))
      (pss_cons (ps_if (pt_cmpR op_gt (pe_callB call_len_seq (by rfl) T.len PySem.boot_len (pa_cons (pv 0) pa_nil)) (pe_cst rfl B.items) (nomark _)) (pss_one (ps_raise rfl (takes_of rfl rfl rfl rfl) (pmk_one (basC 2) (R.one 2 (by decide)) (R.ty 2 (by decide)) hr1 (R.g 2 (by decide)) (pa_cons (pe_cst rfl B.items) pa_nil)))) pss_nil)
      (pss_one (ps_if (pt_cmpR op_gt (pe_call GO hr3 rfl gO.g gO.k bO .nil pass0 (pa_cons (pv 0) pa_nil)) (pv 1) (nomark _)) (pss_one (ps_raise rfl (takes_of rfl rfl rfl rfl) (pmk_one (basC 3) (R.one 3 (by decide)) (R.ty 3 (by decide)) hr1 (R.g 3 (by decide)) (pa_cons (pe_cst rfl B.depth) pa_nil)))) pss_nil))), ?_⟩
    refine ⟨_, rfl, t, xs, rfl, hS, for_it walk_enumT (fun i σ Hk => ∃ y2 y3, σ = [some (.ref t), some (.int dep), y2, y3] ∧ Same H Hk ∧ ∀ j, j < i → ∃ it, os[j]? = some (some it)) ⟨none, none, rfl, Same.refl H, fun j hj => absurd hj (Nat.not_lt_zero _)⟩ (fun i σ Hk _ h => let ⟨_, _, _, S, _⟩ := h; SqT.same S hS) ?_ ?_⟩
    · rintro i x σ Hk Hk' hi ⟨y2, y3, rfl, S, hg⟩ ⟨T', a, b, rfl, nT, rfl, ea, eb⟩
      cases ea
      obtain ⟨o, ho, he⟩ := hI.get eb
      have S1 : Same Hk (upd Hk T' (.tup [.int (i : Nat), b])) := same_new nT
      refine ⟨T', [.int (i : Nat), b], rfl, .inl (.inl upd_same), rfl, _, [b], rfl, b, [], rfl, rfl, ?_⟩
      refine ⟨b, rfl, (by show 4 ≤ sizeLine; decide), fun tp htp => ?_⟩
      have S2 := (S.trans S1).trans (same_new (o := .tup [.ref c.say, .ref c.press, .ref c.go, .ref c.times]) htp)
      have pc : Paired ClsV [V.ref c.say, .ref c.press, .ref c.go, .ref c.times] [.ref c.say, .ref c.press, .ref c.go, .ref c.times] := .cons (.own _) (.cons (.own _) (.cons (.own _) (.cons (.own _) .nil)))
      cases he with
      | item hio hw =>
        obtain ⟨Ct, hC, hty⟩ := Io.ty B (hio.keep (.same S2))
        refine ⟨b, tp, _, _, _, _, rfl, upd_same, pc, hty, B.any hC, _, rfl, iteF ⟨_, _, rfl, S2, fun j hj => ?_⟩⟩
        by_cases e : j = i
        · rw [e]; exact ⟨_, ho⟩
        · exact hg j (by omega)
      | other hno =>
        obtain ⟨ty, hty, hk⟩ := (hno.keep (.same S2)).any
        refine ⟨b, tp, _, _, _, _, rfl, upd_same, pc, hty, hk, _, rfl, iteT ⟨_, rfl, _, rfl, fun dd hdd => ?_⟩⟩
        have fb : firstBad os = some i := firstBad_at ho hg
        exact kE 1 (i : Nat) (by unfold chk; rw [fb]) _ dd S2 hdd
    · rintro σ Hk ⟨y2, y3, rfl, S, hg⟩
      have hlen := hI.len
      have fb : firstBad os = none := firstBad_all (fun j hj => hg j (by omega))
      obtain ⟨its, rfl, hio, hw⟩ := firstBad_none fb hI
      have hlen2 : xs.length = its.length := by rw [hlen, List.length_map]
      refine ⟨_, rfl, t, _, rfl, .inr (SqT.same S hS), _, _, rfl, rfl, _, rfl, ?_⟩
      refine ite2 (fun h6 => ⟨_, rfl, fun dd hdd => ?_⟩) (fun h6 => ?_)
      · have h6' : (6 : Int) < ((xs.length : Nat) : Int) := of_decide_eq_true h6
        exact kE 2 6 (by unfold chk; rw [fb]; show (if 6 < (its.map some).length then _ else _) = _; rw [if_pos (by rw [List.length_map]; omega)]) _ dd S hdd
      · have h6' : ¬ (6 : Int) < ((xs.length : Nat) : Int) := fun z => h6 (decide_eq_true z)
        refine ⟨_, rfl, t, xs, its, rfl, SqT.same S hS, hio.keep (.same S), hl, fun H' S' => ?_⟩
        refine ⟨_, rfl, _, _, rfl, rfl, _, rfl, ?_⟩
        have c6 : ¬ 6 < (its.map some).length := by rw [List.length_map]; omega
        refine ite2 (fun hd => ⟨_, rfl, fun dd hdd => ?_⟩) (fun hd => ?_)
        · have hd' : dep < ((dIs its : Nat) : Int) := of_decide_eq_true hd
          exact kE 3 2 (by unfold chk; rw [fb]; show (if 6 < (its.map some).length then _ else if dep < ((dIs (goods (its.map some)) : Nat) : Int) then _ else _) = _; rw [if_neg c6, goods_map, if_pos hd']) _ dd (S.trans S') hdd
        · have hd' : ¬ dep < ((dIs its : Nat) : Int) := fun z => hd (decide_eq_true z)
          exact q (by unfold chk; rw [fb]; show (if 6 < (its.map some).length then _ else if dep < ((dIs (goods (its.map some)) : Nat) : Int) then _ else _) = _; rw [if_neg c6, goods_map, if_neg hd']) _ (S.trans S')
end
end KP
end

section
set_option Elab.async false
set_option linter.all false
set_option maxRecDepth 100000
set_option maxHeartbeats 4000000
namespace KP
open PySem PySem.Spec PyProof.Rows L2 Pn
def tOr (t u : TE) : TE := fun σ H Q => t σ H Q ∨ u σ H Q
theorem pe_or {X : Cx} {e : Expr} {t u : TE} (h : PE X e t) (g : PE X e u) : PE X e (tOr t u) := ⟨fun pins s σ H Q I z => z.elim (fun z => h.run pins s σ H Q I z) (fun z => g.run pins s σ H Q I z)⟩
theorem fBody_put (e : Addr) (d : Int) (t : PySem.Str) : putF "_text" (.str t) (putF "_depth" (.int d) (putF "_entries" (.ref e) [])) = fBody e d t := by
  have h1 : ¬ (("_entries" : PySem.Str) = "_depth") := by decide +kernel
  have h2 : ¬ (("_entries" : PySem.Str) = "_text") := by decide +kernel
  have h3 : ¬ (("_depth" : PySem.Str) = "_text") := by decide +kernel
  simp only [putF, if_neg h1, if_neg h2, if_neg h3]
  rfl
theorem fTimes_put (n : Int) (b : Addr) (t : PySem.Str) : putF "_text" (.str t) (putF "body" (.ref b) (putF "number" (.int n) [])) = fTimes n b t := by
  have h1 : ¬ (("number" : PySem.Str) = "body") := by decide +kernel
  have h2 : ¬ (("number" : PySem.Str) = "_text") := by decide +kernel
  have h3 : ¬ (("body" : PySem.Str) = "_text") := by decide +kernel
  simp only [putF, if_neg h1, if_neg h2, if_neg h3]
  rfl
theorem putF_len (f : PySem.Str) (v : V) : ∀ fs : List (PySem.Str × V), (putF f v fs).length ≤ fs.length + 1
  | [] => Nat.le_refl _
  | (g, x) :: r => by
    unfold putF
    by_cases h : g = f
    · rw [if_pos h]; exact Nat.le_succ _
    · rw [if_neg h, List.length_cons, List.length_cons]
      have := putF_len f v r
      omega
/-- what the text says of the methods -/
structure MetT (K : PySem.W.Frag) (c : Cs) (tS tP tG tT tB : Addr) : Prop where
  say : Meth K c.say "text" tS
  press : Meth K c.press "text" tP
  go : Meth K c.go "text" tG
  times : Meth K c.times "text" tT
  body : Meth K c.body "text" tB
/-- the five defs named text -/
structure TexT (K : PySem.W.Frag) (tS tP tG tT tB : Addr) (dS dP dG dT dB : FuncData) : Prop where
  say : Fun K "text" "Say.text" sSayT tS dS
  press : Fun K "text" "Press.text" sPressT tP dP
  go : Fun K "text" "Go.text" sGoT tG dG
  times : Fun K "text" "Times.text" sTimesT tT dT
  body : Fun K "text" "Body.text" sBodyT tB dB
  bS : Binds K dS ["self"] []
  bP : Binds K dP ["self"] []
  bG : Binds K dG ["self"] []
  bT : Binds K dT ["self"] []
  bB : Binds K dB ["self"] []
def spBodyJ (K : PySem.W.Frag) (c : Cs) (C : Nat → Addr) : Sp := fun vs H Q E => ∃ (H0 : Hp) (x dx t : Addr) (xs : List V) (os : List (Option Itm)), vs = [.ref x, .ref t] ∧ Same H0 H ∧ H0 x = none ∧ H x = some (.ins c.body dx []) ∧ H t = some (.tup xs) ∧ Ents K c H0 xs os ∧ xs.length ≤ 1000 ∧
  (∀ j y, chk os 2 = some (j, y) → Rz C H0 E j (.int y)) ∧ (chk os 2 = none → ∀ its H', os = its.map some → ItsW 2 its → its.length ≤ 6 → Same H0 H' → Bo c H' x its → Q .non H')
theorem chk_none {K : PySem.W.Frag} {c : Cs} {H : Hp} {xs : List V} {os : List (Option Itm)} {dep : Int} (h : chk os dep = none) (e : Ents K c H xs os) : ∃ its, os = its.map some ∧ Ios c H xs its ∧ ItsW 2 its ∧ its.length ≤ 6 ∧ ((dIs its : Nat) : Int) ≤ dep := by
  unfold chk at h
  cases fb : firstBad os with
  | some k => rw [fb] at h; cases h
  | none =>
    rw [fb] at h
    obtain ⟨its, rfl, a, b⟩ := firstBad_none fb e
    have h' : (if 6 < (its.map some).length then some (2, (6 : Int)) else if dep < ((dIs (goods (its.map some)) : Nat) : Int) then some (3, (2 : Int)) else none) = none := h
    rw [List.length_map, goods_map] at h'
    by_cases l : 6 < its.length
    · rw [if_pos l] at h'; cases h'
    · rw [if_neg l] at h'
      by_cases m : dep < ((dIs its : Nat) : Int)
      · rw [if_pos m] at h'; cases h'
      · exact ⟨its, rfl, a, b, by omega, by omega⟩
section
variable {P : Program} {w : World} {K : PySem.W.Frag} {mg : Str → Option Value} {base : Heap}
theorem scBodyI : FnScope ["self", "items", "item"] ["self", "items"] (defScope sBodyI) := ⟨rfl, rfl, rfl, by decide +kernel, rfl, by decide +kernel, by decide +kernel⟩
theorem bodyI_body {fD pD fO fC tS tP tG tT tB fa : Addr} {fdD fdO fdC dS dP dG dT dB : FuncData} {c : Cs} {C : Nat → Addr} (T : Blt3 mg) (B : BodT K mg c) (R : ErrT K mg C tclass) (FD : Fun K "depth" "Body.depth" sBodyD fD fdD) (bD : Binds K fdD ["self"] []) (gD : PropOf K c.body "depth" pD fD)
    (FO : Fun K "depth_of" "depth_of" sDepthOf fO fdO) (bO : Binds K fdO ["items"] []) (gO : Fn K mg "depth_of" fO) (FC : Fun K "check_items" "check_items" sCheck fC fdC) (bC : Binds K fdC ["items", "depth"] []) (gC : Fn K mg "check_items" fC)
    (M : MetT K c tS tP tG tT tB) (X : TexT K tS tP tG tT tB dS dP dG dT dB) {cdv : Value} {A : Around} {outer : List Env} {s : Shared} {H : Hp} {vs : List V} {Q : VK} {E : XK} (hr : Room 4 (A.deeper (envOfC "Body.__init__" (defScope sBodyI) s.heap.objs.size fa cdv))) (h : spBodyJ K c C vs H Q E) :
    ∃ t, PSs (cxOf (L2.CX P w) P w K mg base ["self", "items", "item"] "Body.__init__" (defScope sBodyI) fa cdv A outer s H E) (defBody sBodyI) t ∧ t { nx := fun _ H' => Q .non H', rt := Q } (start ["self", "items", "item"] vs) H := by
  have GO : FnOk P w K mg base CX0 3 fO fdO ["items"] (spDep K c) := ok_depthOf FO T B FD bD gD
  have GC : FnOk P w K mg base (L2.CX P w) 4 fC fdC ["items", "depth"] (spChk K c C) := ok_check FC T B R FD bD gD FO bO gO
  have GS : FnOk P w K mg base CX0 1 tS dS ["self"] (spTxSay c) := ok_sayT X.say B
  have GP : FnOk P w K mg base CX0 1 tP dP ["self"] (spTxPress c) := ok_pressT X.press B
  have GG : FnOk P w K mg base CX0 1 tG dG ["self"] (spTxGo c) := ok_goT X.go B
  have GT : FnOk P w K mg base CX0 1 tT dT ["self"] (spTxTimes c) := ok_timesT X.times B
  obtain ⟨H0, x, dx, t, xs, os, rfl, S, n0, hx, ht, hI, hl, kE, kQ⟩ := h
  have hr3 : Room 3 _ := hr.mono (by decide)
  have hr1 : Room 1 _ := hr.mono (by decide)
  refine ⟨_, pss_cons (ps_expr (pe_call GC hr rfl gC.g gC.k bC .nil (passes_call (takes_of rfl rfl rfl rfl) (fun _ _ _ _ h => h)) (pa_cons (pv 1) (pa_cons (pe_cst rfl B.depth) pa_nil))))
    (pss_cons (ps_fld (pv 0) (pv 1) rfl)
    (pss_cons (ps_fld (pv 0) (pe_call GO hr3 rfl gO.g gO.k bO .nil pass0 (pa_cons (pv 1) pa_nil)) rfl)
    (pss_one (ps_fld (pv 0) (pe_join pe_str (pe_lc (own := [("item", 2)]) (g := gName 2) (tt := tYes) rfl scBodyI.nd (pi_tup (pv 1)) (blkOk_by (N := ["self", "items", "item"]) (sc := defScope sBodyI) (by decide +kernel)) (fun _ _ _ _ _ => pg_name (i := 2) scBodyI.nd rfl (Or.inl rfl)) (fun _ _ _ _ _ => pts_nil)
      (fun _ _ _ _ _ => pe_or (pe_meth0 (pv 2) B.say.cl M.say GS hr1 X.bS .nil pass0) (pe_or (pe_meth0 (pv 2) B.press.cl M.press GP hr1 X.bP .nil pass0) (pe_or (pe_meth0 (pv 2) B.go.cl M.go GG hr1 X.bG .nil pass0) (pe_meth0 (pv 2) B.times.cl M.times GT hr1 X.bT .nil pass0)))))) rfl)))), ?_⟩
  refine ⟨_, rfl, t, xs, os, 2, rfl, SqT.of ht, hI.keep (.same S), hl, fun j y e => (kE j y e).same S, fun hc H1 S1 => ?_⟩
  obtain ⟨its, rfl, hio, hw, h6, hd⟩ := chk_none hc hI
  have hx1 := S1 _ _ hx
  have ht1 := S1 _ _ ht
  have tx : t ≠ x := ne_of ht hx (by intro z; cases z)
  have S01 : Same H0 H1 := S.trans S1
  have keepx : ∀ {Hk : Hp} {o : HO}, Same H0 Hk → Same H0 (upd Hk x o) := fun {Hk o} S b u e => by
    rw [upd_ne (ne_of_none e n0)]
    exact S _ _ e
  refine ⟨_, rfl, _, rfl, x, c.body, dx, [], rfl, hx1, B.body.cl, B.nEnt, (by show 0 < 1000; decide), ?_⟩
  have S2 : Same H0 (upd H1 x (.ins c.body dx (putF "_entries" (.ref t) []))) := keepx S01
  have ht2 : upd H1 x (.ins c.body dx (putF "_entries" (.ref t) [])) t = some (.tup xs) := by rw [upd_ne tx]; exact ht1
  have hx2 : upd H1 x (.ins c.body dx (putF "_entries" (.ref t) [])) x = some (.ins c.body dx (putF "_entries" (.ref t) [])) := upd_same
  generalize upd H1 x (.ins c.body dx (putF "_entries" (.ref t) [])) = H2 at S2 ht2 hx2 ⊢
  refine ⟨_, rfl, t, xs, its, rfl, SqT.of ht2, hio.keep (.same S2), hl, fun H3 S3 => ?_⟩
  refine ⟨_, rfl, x, c.body, dx, _, rfl, S3 _ _ hx2, B.body.cl, B.nDep, (by show 1 < 1000; decide), ?_⟩
  have S4 : Same H0 (upd H3 x (.ins c.body dx (putF "_depth" (.int ((dIs its : Nat) : Int)) (putF "_entries" (.ref t) [])))) := keepx (S2.trans S3)
  have ht4 : upd H3 x (.ins c.body dx (putF "_depth" (.int ((dIs its : Nat) : Int)) (putF "_entries" (.ref t) []))) t = some (.tup xs) := by rw [upd_ne tx]; exact S3 _ _ ht2
  have hx4 : upd H3 x (.ins c.body dx (putF "_depth" (.int ((dIs its : Nat) : Int)) (putF "_entries" (.ref t) []))) x = some (.ins c.body dx (putF "_depth" (.int ((dIs its : Nat) : Int)) (putF "_entries" (.ref t) []))) := upd_same
  generalize upd H3 x (.ins c.body dx (putF "_depth" (.int ((dIs its : Nat) : Int)) (putF "_entries" (.ref t) []))) = H4 at S4 ht4 hx4 ⊢
  refine ⟨⟨_, rfl⟩, _, rfl, t, rfl, ⟨_, SqT.of ht4⟩, fun L hLn => ?_⟩
  have hlen := hio.len
  refine lc_tup (xs := xs) (fun i Hk => Same H4 Hk ∧ Hk L = some (.lst ((txs (its.take i)).map V.str))) ⟨same_new hLn, upd_same⟩ (fun i Hk _ h => SqT.same h.1 (SqT.of ht4)) ?_ ?_
  · rintro i v Hk hvi ⟨Sk, hLk⟩
    have hik := hio.keep (.same (S4.trans Sk))
    obtain ⟨it, hit, hr0⟩ := hik.get hvi
    have hwi := hw.get hit
    have il : i < xs.length := (List.getElem?_eq_some_iff.mp hvi).1
    have fin : ∃ acc, Hk L = some (.lst acc) ∧ acc.length < sizeLine ∧ (Same H4 (upd Hk L (.lst (acc ++ [V.str (txI it)]))) ∧ upd Hk L (.lst (acc ++ [V.str (txI it)])) L = some (.lst ((txs (its.take (i + 1))).map V.str))) := by
      refine ⟨_, hLk, ?_, fun b o e => ?_, ?_⟩
      · rw [List.length_map, txs_len, List.length_take]
        show _ < 16777216
        omega
      · rw [upd_ne (ne_of_none e hLn)]
        exact Sk _ _ e
      · rw [upd_same, List.take_add_one, hit, txs_app, List.map_append]
        have : txs (some it).toList = [txI it] := by show txs [it] = _; rw [txs, txs]
        rw [this]
        rfl
    refine ⟨rfl, ?_⟩
    cases hr0 with
    | say h => exact .inl ⟨_, rfl, _, _, _, rfl, h, rfl, _, _, _, rfl, h, (by cases hwi with | say w => have := wd_len w; omega), fin⟩
    | press h => exact .inr (.inl ⟨_, rfl, _, _, _, rfl, h, rfl, _, _, _, rfl, h, fin⟩)
    | go h => exact .inr (.inr (.inl ⟨_, rfl, _, _, _, rfl, h, rfl, _, _, _, rfl, h, (by cases hwi with | go w => have := wd_len w; omega), fin⟩))
    | times h b => exact .inr (.inr (.inr ⟨_, rfl, _, _, _, rfl, h, rfl, _, _, _, _, _, rfl, h, fin⟩))
  · rintro Hk ⟨Sk, hLk⟩
    have tl : its.take xs.length = its := List.take_of_length_le (by omega)
    rw [tl] at hLk
    refine ⟨_, L, txs its, rfl, rfl, .inl (SqL.of hLk), txB_join hw h6 (by decide), ?_⟩
    refine ⟨_, rfl, x, c.body, dx, _, rfl, Sk _ _ hx4, B.body.cl, B.nTxb, (by show 2 < 1000; decide), ?_⟩
    have S5 : Same H0 (upd Hk x (.ins c.body dx (putF "_text" (.str (txB its)) (putF "_depth" (.int ((dIs its : Nat) : Int)) (putF "_entries" (.ref t) []))))) := keepx (S4.trans Sk)
    refine kQ hc its _ rfl hw h6 S5 (.mk (dx := dx) (e := t) (vs := xs) ?_ ?_ ?_)
    · rw [← fBody_put]
      exact upd_same
    · show upd Hk x _ t = _
      rw [upd_ne tx]
      exact Sk _ _ ht4
    · exact hio.keep (.same S5)
end
end KP
end

section
set_option Elab.async false
set_option linter.all false
set_option maxRecDepth 100000
set_option maxHeartbeats 4000000
namespace KP
open PySem PySem.Spec PyProof.Rows L2 Pn StX
theorem chk_ok {its : List Itm} {dep : Int} (h6 : its.length ≤ 6) (hd : ((dIs its : Nat) : Int) ≤ dep) : chk (its.map some) dep = none := by
  unfold chk
  rw [firstBad_map]
  show (if 6 < (its.map some).length then some (2, (6 : Int)) else if dep < ((dIs (goods (its.map some)) : Nat) : Int) then some (3, (2 : Int)) else none) = none
  rw [List.length_map, goods_map, if_neg (by omega), if_neg (by omega)]
theorem fTimes_put2 (n : Int) (b : Addr) : putF "body" (.ref b) (putF "number" (.int n) []) = [(("number" : PySem.Str), V.int n), (("body" : PySem.Str), V.ref b)] := by
  have h1 : ¬ (("number" : PySem.Str) = "body") := by decide +kernel
  simp only [putF, if_neg h1]
theorem fTimes_put3 (n : Int) (b : Addr) (t : PySem.Str) : putF "_text" (.str t) [(("number" : PySem.Str), V.int n), (("body" : PySem.Str), V.ref b)] = fTimes n b t := by
  rw [← fTimes_put2, fTimes_put]
theorem log_ok {n : Int} (a : 0 ≤ n) (b : n ≤ 1000000000) : n.natAbs.log2 < 1920 := by
  by_cases h : n.natAbs = 0
  · rw [h]; decide
  · have := (Nat.log2_lt h).mpr (show n.natAbs < 2 ^ 31 by omega)
    omega
theorem withinD_true {d : PyData} {lo hi : Int} (h : withinD lo hi d = true) : ∃ n, d = .int n ∧ lo ≤ n ∧ n ≤ hi := by
  cases d with
  | int n =>
    have h' : (decide (lo ≤ n) && decide (n ≤ hi)) = true := h
    rw [Bool.and_eq_true, decide_eq_true_iff, decide_eq_true_iff] at h'
    exact ⟨n, rfl, h'.1, h'.2⟩
  | none => cases h
  | bool => cases h
  | str => cases h
  | list => cases h
  | tuple => cases h
  | dict => cases h
def spTimesJ (K : PySem.W.Frag) (c : Cs) (C : Nat → Addr) : Sp := fun vs H Q E => ∃ (H0 : Hp) (x dx t : Addr) (nv : V) (d : PyData) (xs : List V) (os : List (Option Itm)), vs = [.ref x, nv, .ref t] ∧ Same H0 H ∧ H0 x = none ∧ H x = some (.ins c.times dx []) ∧ H t = some (.tup xs) ∧ Kd K H0 nv d ∧ Ents K c H0 xs os ∧ xs.length ≤ 1000 ∧
  (withinD 0 1000000000 d = false → Rz C H0 E 0 (.str "number")) ∧ (withinD 0 1000000000 d = true → ∀ j y, chk os 1 = some (j, y) → Rz C H0 E j (.int y)) ∧
  (withinD 0 1000000000 d = true → chk os 1 = none → ∀ n its H', d = .int n → os = its.map some → ItW 2 (.times n its) → Same H0 H' → Io c H' (.ref x) (.times n its) → Q .non H')
/-- the defs that the two makers call, and what is known of them -/
structure MakT (K : PySem.W.Frag) (mg : PySem.Str → Option Value) (c : Cs) (fD pD fO fC tS tP tG tT tB : Addr) (fdD fdO fdC dS dP dG dT dB : FuncData) : Prop where
  FD : Fun K "depth" "Body.depth" sBodyD fD fdD
  bD : Binds K fdD ["self"] []
  gD : PropOf K c.body "depth" pD fD
  FO : Fun K "depth_of" "depth_of" sDepthOf fO fdO
  bO : Binds K fdO ["items"] []
  gO : Fn K mg "depth_of" fO
  FC : Fun K "check_items" "check_items" sCheck fC fdC
  bC : Binds K fdC ["items", "depth"] []
  gC : Fn K mg "check_items" fC
  M : MetT K c tS tP tG tT tB
  X : TexT K tS tP tG tT tB dS dP dG dT dB
section
variable {P : Program} {w : World} {K : PySem.W.Frag} {mg : Str → Option Value} {base : Heap} {fD pD fO fC tS tP tG tT tB fa : Addr} {fdD fdO fdC dS dP dG dT dB : FuncData} {c : Cs} {C : Nat → Addr}
theorem ok_bodyI {f : Addr} {fd : FuncData} (F : Fun K "__init__" "Body.__init__" sBodyI f fd) (T : Blt3 mg) (B : BodT K mg c) (R : ErrT K mg C tclass) (Z : MakT K mg c fD pD fO fC tS tP tG tT tB fdD fdO fdC dS dP dG dT dB) : FnR P w K mg base (L2.CX P w) 5 f (spBodyI K c C) := by
  obtain ⟨oc, od, kV, doc, pm, an, cdv, ct, osl, rfl, lk, hcd⟩ := F.ex
  refine FnR.imp (fn_star (ps := ["self"]) (pv := "items") (sp := spBodyJ K c C) lk hcd scBodyI cxUp (bind_star1 (B := fun us => bindArgs (PySem.W.fnOf "__init__" "Body.__init__" (defArgs sBodyI) (defBody sBodyI) (defScope sBodyI) .none kV doc pm an cdv ct) ⟨us, []⟩) (fun a => rfl) (fun a r rs => rfl))
    (fun A outer s H vs Q E hr h => bodyI_body T B R Z.FD Z.bD Z.gD Z.FO Z.bO Z.gO Z.FC Z.bC Z.gC Z.M Z.X hr h)) (fun vs H Q E h => ?_)
  obtain ⟨H0, x, dx, xs, os, rfl, S, n0, hx, hI, hl, kE, kQ⟩ := h
  refine ⟨[.ref x], xs, rfl, rfl, Nat.le_trans hl (by decide), fun p hp => ?_⟩
  exact ⟨H0, x, dx, p, xs, os, rfl, S.trans (same_new hp), n0, by rw [upd_ne (ne_of_none hx hp)]; exact hx, upd_same, hI, hl, kE, kQ⟩
theorem scTimesI : FnScope ["self", "number", "items"] ["self", "number", "items"] (defScope sTimesI) := ⟨rfl, rfl, rfl, by decide +kernel, rfl, by decide +kernel, by decide +kernel⟩
theorem timesI_body {fI fW fH : Addr} {fdI fdW fdH : FuncData} (FI : Fun K "__init__" "Body.__init__" sBodyI fI fdI) (MB : Mk K c.body fI) (T : Blt3 mg) (T1 : Blt mg) (U : Blt2 mg) (B : BodT K mg c) (R : ErrT K mg C tclass) (Z : MakT K mg c fD pD fO fC tS tP tG tT tB fdD fdO fdC dS dP dG dT dB)
    (FW : Fun K "is_within" "is_within" sWithin fW fdW) (bW : Binds K fdW ["value", "least", "most"] []) (gW : Fn K mg "is_within" fW) (FH : Fun K "is_whole" "is_whole" sWhole fH fdH) (bH : Binds K fdH ["value"] []) (gH : Fn K mg "is_whole" fH)
    {cdv : Value} {A : Around} {outer : List Env} {s : Shared} {H : Hp} {vs : List V} {Q : VK} {E : XK} (hr : Room 6 (A.deeper (envOfC "Times.__init__" (defScope sTimesI) s.heap.objs.size fa cdv))) (h : spTimesJ K c C vs H Q E) :
    ∃ t, PSs (cxOf (L2.CX P w) P w K mg base ["self", "number", "items"] "Times.__init__" (defScope sTimesI) fa cdv A outer s H E) (defBody sTimesI) t ∧ t { nx := fun _ H' => Q .non H', rt := Q } (start ["self", "number", "items"] vs) H := by
  have GC : FnOk P w K mg base (L2.CX P w) 4 fC fdC ["items", "depth"] (spChk K c C) := ok_check Z.FC T B R Z.FD Z.bD Z.gD Z.FO Z.bO Z.gO
  have GB : FnR P w K mg base (L2.CX P w) 5 fI (spBodyI K c C) := ok_bodyI FI T B R Z
  have GW : FnOk P w K mg base CX0 2 fW fdW ["value", "least", "most"] (spWithin K) := ok_within FW T1 U FH bH gH
  have GT : FnOk P w K mg base CX0 1 tB dB ["self"] (spTxBody c) := ok_bodyT Z.X.body B
  obtain ⟨H0, x, dx, t, nv, d, xs, os, rfl, S, n0, hx, ht, hk, hI, hl, kN, kE, kQ⟩ := h
  have hr4 : Room 4 _ := hr.mono (by decide)
  have hr2 : Room 2 _ := hr.mono (by decide)
  have hr1 : Room 1 _ := hr.mono (by decide)
  refine ⟨_, pss_cons (ps_if (pt_not (pt_val (pe_call GW hr2 rfl gW.g gW.k bW .nil pass0 (pa_cons (pv 1) (pa_cons pe_int (pa_cons (pe_cst rfl B.number) pa_nil)))))) (pss_one (ps_raise rfl (takes_of rfl rfl rfl rfl) (pmk_one (basC 0) (R.one 0 (by decide)) (R.ty 0 (by decide)) hr1 (R.g 0 (by decide)) (pa_cons pe_str pa_nil)))) pss_nil)
    (pss_cons (ps_expr (pe_call GC hr4 rfl Z.gC.g Z.gC.k Z.bC .nil (passes_call (takes_of rfl rfl rfl rfl) (fun _ _ _ _ h => h)) (pa_cons (pv 2) (pa_cons (pe_op op_sub (pe_cst rfl B.depth) pe_int) pa_nil))))
    (pss_cons (ps_fld (pv 0) (pv 1) rfl)
    (pss_cons (ps_fld (pv 0) (pe_makeR1 MB GB hr rfl B.gBody (passes_call (takes_of rfl rfl rfl rfl) (fun _ _ _ _ h => h)) (pv 2)) rfl)
    (pss_one (ps_fld (pv 0) (pe_joined (.cons (pe_fmt (pv 1)) (.cons pe_str (.cons (pe_fmt (pe_meth0 (pe_fld (pv 0) rfl) B.body.cl Z.M.body GT hr1 Z.X.bB .nil pass0)) (.cons pe_str .nil))))) rfl))))), ?_⟩
  refine ⟨_, rfl, nv, d, 0, 1000000000, rfl, Kd.keep (.same S) hk, _, rfl, ?_⟩
  cases e : withinD 0 1000000000 d with
  | false => exact iteT ⟨_, rfl, fun dd hdd => kN e H dd S hdd⟩
  | true =>
    refine iteF ⟨_, rfl, _, _, rfl, rfl, t, xs, os, _, rfl, SqT.of ht, hI.keep (.same S), hl, fun j y z => (kE e j y z).same S, fun hc H1 S1 => ?_⟩
    obtain ⟨n, rfl, n1, n2⟩ := withinD_true e
    have en := hk.nu n rfl
    subst en
    obtain ⟨its, rfl, hio, hw2, h6, hd⟩ := chk_none hc hI
    have hd1 : dIs its ≤ 1 := by
      have hd' : ((dIs its : Nat) : Int) ≤ 2 - 1 := hd
      omega
    have hw : ItsW 1 its := ItsW.up hd1 hw2.fit
    have hx1 := S1 _ _ hx
    have ht1 := S1 _ _ ht
    have tx : t ≠ x := ne_of ht hx (by intro z; cases z)
    have S01 : Same H0 H1 := S.trans S1
    have keepx : ∀ {Hk : Hp} {o : HO}, Same H0 Hk → Same H0 (upd Hk x o) := fun {Hk o} S b u e => by
      rw [upd_ne (ne_of_none e n0)]
      exact S _ _ e
    refine ⟨_, rfl, _, rfl, x, c.times, dx, [], rfl, hx1, B.times.cl, B.nNum, (by show 0 < 1000; decide), ?_⟩
    have S2 : Same H0 (upd H1 x (.ins c.times dx (putF "number" (.int n) []))) := keepx S01
    have ht2 : upd H1 x (.ins c.times dx (putF "number" (.int n) [])) t = some (.tup xs) := by rw [upd_ne tx]; exact ht1
    have hx2 : upd H1 x (.ins c.times dx (putF "number" (.int n) [])) x = some (.ins c.times dx (putF "number" (.int n) [])) := upd_same
    generalize upd H1 x (.ins c.times dx (putF "number" (.int n) [])) = H2 at S2 ht2 hx2 ⊢
    refine ⟨_, rfl, t, xs, rfl, .inl (SqT.of ht2), fun b db nb ndb neb => ?_⟩
    have S3 : Same H2 (upd (upd H2 db (.own b)) b (.ins c.body db [])) := fun q o h => by
      rw [upd_ne (ne_of_none h nb), upd_ne (ne_of_none h ndb)]
      exact h
    refine ⟨H2, b, db, xs, its.map some, rfl, S3, nb, upd_same, hI.keep (.same S2), hl, fun j y z => ?_, fun _ its' H4 eo hw' h6' S4 hB => ⟨rfl, ?_⟩⟩
    · rw [chk_ok h6 (by omega)] at z
      cases z
    · have : its' = its := by
        have := congrArg goods eo
        rw [goods_map, goods_map] at this
        exact this.symm
      subst this
      refine ⟨_, rfl, x, c.times, dx, _, rfl, S4 _ _ hx2, B.times.cl, B.nBod, (by show 1 < 1000; decide), ?_⟩
      have bx : b ≠ x := (ne_of_none hx2 nb).symm
      have S5 : Same H0 (upd H4 x (.ins c.times dx (putF "body" (.ref b) (putF "number" (.int n) [])))) := keepx (S2.trans S4)
      have hx4 : H4 x = some (.ins c.times dx [("number", .int n)]) := S4 _ _ hx2
      have hB5 : Bo c (upd H4 x (.ins c.times dx (putF "body" (.ref b) (putF "number" (.int n) [])))) b its' := hB.keep (.half hx4 (not_whole1 n) ((But.refl x H4).upd _))
      have hx5 : upd H4 x (.ins c.times dx (putF "body" (.ref b) (putF "number" (.int n) []))) x = some (.ins c.times dx (putF "body" (.ref b) (putF "number" (.int n) []))) := upd_same
      rw [fTimes_put2] at hB5 hx5 S5 ⊢
      generalize upd H4 x (.ins c.times dx [("number", .int n), ("body", .ref b)]) = H5 at S5 hB5 hx5 ⊢
      have hB5' := hB5
      cases hB5 with
      | mk q1 q2 q3 =>
        rename_i db2 e2 vs2
        have m8 : sizeLine = 16777216 := rfl
        have nl : (PySem.Str.ofString (toString n)).length ≤ 10 := toString_length_le n1 (by decide) (by omega)
        have bl := txB_len hw h6
        have b1 : bI 1 = 166 := by decide
        have l0 : (PySem.Str.empty).length = 0 := rfl
        have l1 : (("(" : PySem.Str)).length = 1 := by decide +kernel
        have l2 : ((")" : PySem.Str)).length = 1 := by decide +kernel
        refine ⟨_, rfl, .inr ⟨n, rfl, log_ok n1 n2, _, rfl, ?_, _, rfl, ?_, _, rfl, x, c.times, dx, _, _, rfl, hx5, B.times.cl, B.nBod, rfl, b, db2, _, rfl, q1, rfl, b, db2, e2, _, txB its', rfl, q1, .inl ⟨_, rfl, ?_, _, rfl, ?_, _, rfl, ?_, ?_⟩⟩⟩
        · rw [Str.length_append]; omega
        · rw [Str.length_append, Str.length_append]; omega
        · omega
        · rw [Str.length_append, Str.length_append, Str.length_append]; omega
        · rw [Str.length_append, Str.length_append, Str.length_append, Str.length_append]; omega
        · refine ⟨_, rfl, x, c.times, dx, _, rfl, hx5, B.times.cl, B.nTxt, (by show 2 < 1000; decide), ?_⟩
          refine kQ e hc n its' _ rfl rfl (.times n1 n2 h6 hw) (keepx S5) (.times (dx := dx) (b := b) ?_ ?_)
          · rw [upd_same, fTimes_put3]
            rw [txI]
            rfl
          · exact hB5'.keep (.half hx5 (not_whole2 _ _) ((But.refl x H5).upd _))
end
end KP
end

section
set_option Elab.async false
set_option linter.all false
set_option maxRecDepth 100000
set_option maxHeartbeats 4000000
namespace KP
open PySem PySem.Spec PyProof.Rows L2 Pn StX
abbrev sMade : Stmt := top 49
theorem passF {X : Cx} : Passes (L2.CX X.prog X.w) X (fun _ _ _ => False) := passes_call LamX.takes0 (fun _ _ _ _ h => h)
/-- the makers, found by their names -/
structure InsT (K : PySem.W.Frag) (mg : PySem.Str → Option Value) (c : Cs) (iS iP iG iT iB fW fN fH : Addr) (eS eP eG eT eB fdW fdN fdH : FuncData) : Prop where
  say : Fun K "__init__" "Say.__init__" sSayI iS eS
  press : Fun K "__init__" "Press.__init__" sPressI iP eP
  go : Fun K "__init__" "Go.__init__" sGoI iG eG
  times : Fun K "__init__" "Times.__init__" sTimesI iT eT
  body : Fun K "__init__" "Body.__init__" sBodyI iB eB
  bS : Binds K eS ["self", "command"] []
  bP : Binds K eP ["self", "key"] []
  bG : Binds K eG ["self", "mode"] []
  mS : Mk K c.say iS
  mP : Mk K c.press iP
  mG : Mk K c.go iG
  mT : Mk K c.times iT
  mB : Mk K c.body iB
  FW : Fun K "is_word" "is_word" sIsWordV fW fdW
  bW : Binds K fdW ["value"] []
  gW : Fn K mg "is_word" fW
  FN : Fun K "is_within" "is_within" sWithin fN fdN
  bN : Binds K fdN ["value", "least", "most"] []
  gN : Fn K mg "is_within" fN
  FH : Fun K "is_whole" "is_whole" sWhole fH fdH
  bH : Binds K fdH ["value"] []
  gH : Fn K mg "is_whole" fH
/-- a class method of a class -/
structure ClsT (K : PySem.W.Frag) (C : Addr) (mc : Value) (p g : Addr) (fd : FuncData) (ps : List PySem.Str) : Prop where
  rd : ClX.CRead K C mc
  mt : ClX.CMet K C mc "of" p g
  b : Binds K fd ps []
section
variable {P : Program} {w : World} {K : PySem.W.Frag} {mg : Str → Option Value} {base : Heap} {fD pD fO fC tS tP tG tT tB fa iS iP iG iT iB fW fN fH : Addr} {fdD fdO fdC dS dP dG dT dB eS eP eG eT eB fdW fdN fdH : FuncData} {c : Cs} {C : Nat → Addr}
theorem ok_timesI (T : Blt3 mg) (T1 : Blt mg) (U : Blt2 mg) (B : BodT K mg c) (R : ErrT K mg C tclass) (Z : MakT K mg c fD pD fO fC tS tP tG tT tB fdD fdO fdC dS dP dG dT dB) (Y : InsT K mg c iS iP iG iT iB fW fN fH eS eP eG eT eB fdW fdN fdH) : FnR P w K mg base (L2.CX P w) 7 iT (spTimesI K c C) := by
  obtain ⟨oc, od, kV, doc, pm, an, cdv, ct, osl, e0, lk, hcd⟩ := Y.times.ex
  subst e0
  refine FnR.imp (fn_star (ps := ["self", "number"]) (pv := "items") (sp := spTimesJ K c C) lk hcd scTimesI cxUp (bind_star2 (B := fun us => bindArgs (PySem.W.fnOf "__init__" "Times.__init__" (defArgs sTimesI) (defBody sTimesI) (defScope sTimesI) .none kV doc pm an cdv ct) ⟨us, []⟩) (fun a b => rfl) (fun a b r rs => rfl))
    (fun A outer s H vs Q E hr h => timesI_body Y.body Y.mB T T1 U B R Z Y.FN Y.bN Y.gN Y.FH Y.bH Y.gH hr h)) (fun vs H Q E h => ?_)
  obtain ⟨H0, x, dx, nv, d, xs, os, rfl, S, n0, hx, hk, hI, hl, kN, kE, kQ⟩ := h
  refine ⟨[.ref x, nv], xs, rfl, rfl, Nat.le_trans hl (by decide), fun p hp => ?_⟩
  exact ⟨H0, x, dx, p, nv, d, xs, os, rfl, S.trans (same_new hp), n0, by rw [upd_ne (ne_of_none hx hp)]; exact hx, upd_same, hk, hI, hl, kN, kE, kQ⟩
theorem scBodyO : FnScope ["cls", "items"] ["cls", "items"] (defScope sBodyO) := ⟨rfl, rfl, rfl, by decide +kernel, rfl, by decide +kernel, by decide +kernel⟩
theorem scTimesO : FnScope ["cls", "number", "items"] ["cls", "number", "items"] (defScope sTimesO) := ⟨rfl, rfl, rfl, by decide +kernel, rfl, by decide +kernel, by decide +kernel⟩
theorem ok_bodyO {f : Addr} {fd : FuncData} (F : Fun K "of" "Body.of" sBodyO f fd) (T : Blt3 mg) (B : BodT K mg c) (R : ErrT K mg C tclass) (Z : MakT K mg c fD pD fO fC tS tP tG tT tB fdD fdO fdC dS dP dG dT dB) (Y : InsT K mg c iS iP iG iT iB fW fN fH eS eP eG eT eB fdW fdN fdH) :
    FnOk P w K mg base (L2.CX P w) 7 f fd ["cls", "items"] (spBodyOf K c C) := by
  have GB : FnR P w K mg base (L2.CX P w) 5 iB (spBodyI K c C) := ok_bodyI Y.body T B R Z
  refine F.okX scBodyO (fun vs H Q E h => ?_) (fun cdv A outer s H vs Q E hr h => ?_)
  · obtain ⟨l, xs, os, rfl, _⟩ := h
    rfl
  · obtain ⟨l, xs, os, rfl, hS, hI, hl, kE, kQ⟩ := h
    have hr6 : Room 6 _ := hr
    refine ⟨_, pss_one (ps_ret (pe_makeL1 (i := 0) Y.mB GB hr6 rfl (Or.inl rfl) (passes_call (takes_of rfl rfl rfl rfl) (fun _ _ _ _ h => h)) (pv 1))), ?_⟩
    refine ⟨rfl, _, rfl, l, xs, rfl, hS, fun x dx nx ndx ne => ?_⟩
    have S : Same H (upd (upd H dx (.own x)) x (.ins c.body dx [])) := fun q o h => by
      rw [upd_ne (ne_of_none h nx), upd_ne (ne_of_none h ndx)]
      exact h
    exact ⟨H, x, dx, xs, os, rfl, S, nx, upd_same, hI, hl, kE, fun hc its H' eo hw h6 S' hB => ⟨rfl, kQ hc its H' x eo hw h6 S' nx hB⟩⟩
theorem ok_timesO {f : Addr} {fd : FuncData} (F : Fun K "of" "Times.of" sTimesO f fd) (T : Blt3 mg) (T1 : Blt mg) (U : Blt2 mg) (B : BodT K mg c) (R : ErrT K mg C tclass) (Z : MakT K mg c fD pD fO fC tS tP tG tT tB fdD fdO fdC dS dP dG dT dB) (Y : InsT K mg c iS iP iG iT iB fW fN fH eS eP eG eT eB fdW fdN fdH) :
    FnOk P w K mg base (L2.CX P w) 9 f fd ["cls", "number", "items"] (spTimesOf K c C) := by
  have GT : FnR P w K mg base (L2.CX P w) 7 iT (spTimesI K c C) := ok_timesI T T1 U B R Z Y
  refine F.okX scTimesO (fun vs H Q E h => ?_) (fun cdv A outer s H vs Q E hr h => ?_)
  · obtain ⟨nv, d, l, xs, os, rfl, _⟩ := h
    rfl
  · obtain ⟨nv, d, l, xs, os, rfl, hk, hS, hI, hl, kN, kE, kQ⟩ := h
    have hr8 : Room 8 _ := hr
    refine ⟨_, pss_one (ps_ret (pe_makeL2 (i := 0) Y.mT GT hr8 rfl (Or.inl rfl) (passes_call (takes_of rfl rfl rfl rfl) (fun _ _ _ _ h => h)) (pa_cons (pv 1) (pa_star (pv 2) pa_nil)))), ?_⟩
    refine ⟨rfl, _, rfl, _, rfl, l, xs, rfl, hS, fun x dx nx ndx ne => ?_⟩
    have S : Same H (upd (upd H dx (.own x)) x (.ins c.times dx [])) := fun q o h => by
      rw [upd_ne (ne_of_none h nx), upd_ne (ne_of_none h ndx)]
      exact h
    exact ⟨H, x, dx, nv, d, xs, os, by rw [List.append_nil], S, nx, upd_same, hk, hI, hl, kN, kE, fun hn hc n its H' en eo hw S' hB => ⟨rfl, kQ hn hc n its H' x en eo hw S' nx hB⟩⟩
/-! ### the law's makers -/
def spMade (c : Cs) (D : Nat) : Sp := fun vs H Q _ => ∃ (v : V) (it : Itm) (Bp : Addr → Prop), vs = [v] ∧ Rp Bp H v it ∧ ItOk D it ∧ ∀ u H', Same H H' → Io c H' u it → Q u H'
def spMadeP (c : Cs) : Nat → Sp
  | 0 => spNo
  | d + 1 => spMade c d
theorem scMade : FnScope ["_law_one", "_law_inner"] ["_law_one"] (defScope sMade) := ⟨rfl, rfl, rfl, by decide +kernel, rfl, by decide +kernel, by decide +kernel⟩
theorem ok_made1 (D : Nat) (hD : D ≤ 2) {f fZ gO pO : Addr} {fd fdZ fdGO : FuncData} {mc : Value} (F : Fun K "_law_made" "_law_made" sMade f fd) (T : Blt3 mg) (T1 : Blt mg) (U : Blt2 mg) (B : BodT K mg c) (R : ErrT K mg C tclass) (Z : MakT K mg c fD pD fO fC tS tP tG tT tB fdD fdO fdC dS dP dG dT dB) (Y : InsT K mg c iS iP iG iT iB fW fN fH eS eP eG eT eB fdW fdN fdH)
    (FO : Fun K "of" "Times.of" sTimesO gO fdGO) (CT : ClsT K c.times mc pO gO fdGO ["cls", "number", "items"]) (GZ : FnOk P w K mg base CX0 (9 + D) fZ fdZ ["_law_one"] (spMadeP c D)) (bZ : Binds K fdZ ["_law_one"] []) (gZ : Fn K mg "_law_made" fZ) :
    FnOk P w K mg base CX0 (10 + D) f fd ["_law_one"] (spMade c D) := by
  have GS : FnOk P w K mg base (L2.CX P w) 2 iS eS ["self", "command"] (spOneI K C c.say "command") := ok_sayI Y.say T1 U Y.FW Y.bW Y.gW B R
  have GP : FnOk P w K mg base (L2.CX P w) 2 iP eP ["self", "key"] (spOneI K C c.press "key") := ok_pressI Y.press T1 U Y.FW Y.bW Y.gW B R
  have GG : FnOk P w K mg base (L2.CX P w) 2 iG eG ["self", "mode"] (spOneI K C c.go "mode") := ok_goI Y.go T1 U Y.FW Y.bW Y.gW B R
  have GT : FnR P w K mg base (L2.CX P w) 9 gO (spTimesOf K c C) := FnR.imp (FnOk.raw (ok_timesO FO T T1 U B R Z Y) CT.b .nil) (fun vs H Q E h => by rw [List.append_nil]; exact h)
  rw [show 10 + D = (9 + D) + 1 by omega]
  refine F.ok scMade (fun vs H Q E h => ?_) (fun cdv A outer s H vs Q E hr h => ?_)
  · obtain ⟨v, it, Bp, rfl, _⟩ := h
    rfl
  · obtain ⟨v, it, Bp, rfl, hR, hO, q⟩ := h
    have hrZ : Room (9 + D) _ := hr
    have hr9 : Room 9 _ := hr.mono (by omega)
    have hr3 : Room 3 _ := hr.mono (by omega)
    refine ⟨_, pss_cons (ps_if (pt_cmpR op_eq (pe_ix (r := rIxT K) ix_tup (pv 0) pe_int (fun _ _ => rfl)) pe_str (nomark _)) (pss_one (ps_ret (pe_make Y.mS GS hr3 rfl B.gSay Y.bS .nil passF (pa_cons (pe_ix (r := rIxT K) ix_tup (pv 0) pe_int (fun _ _ => rfl)) pa_nil)))) pss_nil)
      (pss_cons (ps_if (pt_cmpR op_eq (pe_ix (r := rIxT K) ix_tup (pv 0) pe_int (fun _ _ => rfl)) pe_str (nomark _)) (pss_one (ps_ret (pe_make Y.mP GP hr3 rfl B.gPress Y.bP .nil passF (pa_cons (pe_ix (r := rIxT K) ix_tup (pv 0) pe_int (fun _ _ => rfl)) pa_nil)))) pss_nil)
      (pss_cons (ps_if (pt_cmpR op_eq (pe_ix (r := rIxT K) ix_tup (pv 0) pe_int (fun _ _ => rfl)) pe_str (nomark _)) (pss_one (ps_ret (pe_make Y.mG GG hr3 rfl B.gGo Y.bG .nil passF (pa_cons (pe_ix (r := rIxT K) ix_tup (pv 0) pe_int (fun _ _ => rfl)) pa_nil)))) pss_nil)
      (pss_one (ps_ret (ClX.pe_cmeth (pe_glob (v := .ref c.times) rfl B.gTimes rfl) CT.rd CT.mt GT hr9 passF (pa_cons (pe_ix (r := rIxT K) ix_tup (pv 0) pe_int (fun _ _ => rfl)) (pa_cons (pe_lc (own := [("_law_inner", 1)]) (g := gName 1) (tt := tYes) rfl scMade.nd (pi_list (pe_ix (r := rIxT K) ix_tup (pv 0) pe_int (fun _ _ => rfl))) (blkOk_by (N := ["_law_one", "_law_inner"]) (sc := defScope sMade) (by decide +kernel)) (fun _ _ _ _ _ => pg_name (i := 1) scMade.nd rfl (Or.inl rfl)) (fun _ _ _ _ _ => pts_nil)
        (fun _ _ _ _ _ => pe_call GZ hrZ rfl gZ.g gZ.k bZ .nil pass0 (pa_cons (pv 1) pa_nil))) pa_nil))))))), ?_⟩
    have one : ∀ (cls : Addr) (fn : PySem.Str) (z : PySem.Str) (hw : Wd z) (x dx : Addr), H x = none → H dx = none → dx ≠ x → (∀ H', Same H H' → H' x = some (.ins cls dx [(fn, .str z)]) → Q (.ref x) H') →
        spOneI K C cls fn [.ref x, .str z] (upd (upd H dx (.own x)) x (.ins cls dx [])) (fun v H2 => v = .non ∧ Q (.ref x) H2) (fun _ _ _ => False) := fun cls fn z hw x dx nx ndx ne k => by
      have S : Same H (upd (upd H dx (.own x)) x (.ins cls dx [])) := fun q o h => by
        rw [upd_ne (ne_of_none h nx), upd_ne (ne_of_none h ndx)]
        exact h
      refine ⟨H, x, dx, .str z, .str z, rfl, S, nx, upd_same, Kd.str z, fun y e => ?_, fun e => ?_, fun y H' e hw' S' hx' => ?_⟩
      · cases e
        have := wd_len hw
        omega
      · have : wdB z = true := (wdB_iff z).mpr hw
        have e' : wdB z = false := e
        rw [this] at e'
        cases e'
      · cases e
        exact ⟨rfl, k H' S' hx'⟩
    cases hR with
    | say _ h =>
      cases hO with
      | say hw =>
        refine ⟨_, rfl, _, _, 0, _, rfl, rfl, SqT.of h, atI_nat rfl, rfl, _, rfl, iteT ?_⟩
        refine ⟨_, rfl, _, _, 1, _, rfl, rfl, SqT.of h, atI_nat rfl, fun x dx nx ndx ne => one _ _ _ hw x dx nx ndx ne (fun H' S' hx => q _ H' S' (.say hx))⟩
    | press _ h =>
      cases hO with
      | press hw =>
        refine ⟨_, rfl, _, _, 0, _, rfl, rfl, SqT.of h, atI_nat rfl, rfl, _, rfl, iteF ?_⟩
        refine ⟨_, rfl, _, _, 0, _, rfl, rfl, SqT.of h, atI_nat rfl, rfl, _, rfl, iteT ?_⟩
        refine ⟨_, rfl, _, _, 1, _, rfl, rfl, SqT.of h, atI_nat rfl, fun x dx nx ndx ne => one _ _ _ hw x dx nx ndx ne (fun H' S' hx => q _ H' S' (.press hx))⟩
    | go _ h =>
      cases hO with
      | go hw =>
        refine ⟨_, rfl, _, _, 0, _, rfl, rfl, SqT.of h, atI_nat rfl, rfl, _, rfl, iteF ?_⟩
        refine ⟨_, rfl, _, _, 0, _, rfl, rfl, SqT.of h, atI_nat rfl, rfl, _, rfl, iteF ?_⟩
        refine ⟨_, rfl, _, _, 0, _, rfl, rfl, SqT.of h, atI_nat rfl, rfl, _, rfl, iteT ?_⟩
        refine ⟨_, rfl, _, _, 1, _, rfl, rfl, SqT.of h, atI_nat rfl, fun x dx nx ndx ne => one _ _ _ hw x dx nx ndx ne (fun H' S' hx => q _ H' S' (.go hx))⟩
    | @times t l n vs its _ _ h g r =>
      cases D with
      | zero => cases hO
      | succ d =>
        cases hO with
        | times n0 n1 n3 hO' =>
          refine ⟨_, rfl, _, _, 0, _, rfl, rfl, SqT.of h, atI_nat rfl, rfl, _, rfl, iteF ?_⟩
          refine ⟨_, rfl, _, _, 0, _, rfl, rfl, SqT.of h, atI_nat rfl, rfl, _, rfl, iteF ?_⟩
          refine ⟨_, rfl, _, _, 0, _, rfl, rfl, SqT.of h, atI_nat rfl, rfl, _, rfl, iteF ?_⟩
          refine ⟨rfl, _, rfl, _, _, 1, _, rfl, rfl, SqT.of h, atI_nat rfl, _, rfl, _, _, 2, _, rfl, rfl, SqT.of h, atI_nat rfl, l, rfl, ⟨_, SqL.of g⟩, fun L hLn => ?_⟩
          have hx := r.len
          refine lc_list (xs := vs) (fun i Hk => Same H Hk ∧ ∃ us, Hk L = some (.lst us) ∧ us.length = i ∧ Ios c Hk us (its.take i)) ⟨same_new hLn, [], upd_same, rfl, by rw [List.take_zero]; exact .nil⟩ (fun i Hk _ h => SqL.of (h.1 _ _ g)) ?_ ?_
          · rintro i x Hk hxi ⟨hS, us, hLk, hlen, hU⟩
            have hRk := r.same hS
            obtain ⟨it2, hit, hr0⟩ := hRk.get hxi
            have hok := hO'.get hit
            have tk : its.take (i + 1) = its.take i ++ [it2] := by
              rw [List.take_add_one, hit]; rfl
            have il : i < vs.length := (List.getElem?_eq_some_iff.mp hxi).1
            refine ⟨rfl, _, rfl, x, it2, _, rfl, hr0, hok, fun u H' S' hio => ?_⟩
            refine ⟨us, S' _ _ hLk, by rw [hlen]; show i < 16777216; omega, fun b o e => ?_, us ++ [u], upd_same, by rw [List.length_append, hlen]; rfl, ?_⟩
            · rw [upd_ne (ne_of_none e hLn)]
              exact S' _ _ (hS _ _ e)
            · rw [tk]
              have kp : Kept H' (upd H' L (.lst (us ++ [u]))) := ⟨fun a C2 dx2 fs2 _ e => by rw [upd_ne (ne_of e (S' _ _ hLk) (by intro z; cases z))]; exact e, fun a ys e => by rw [upd_ne (ne_of e (S' _ _ hLk) (by intro z; cases z))]; exact e⟩
              exact ((hU.keep (.same S')).keep kp).app (.cons (hio.keep kp) .nil)
          · rintro Hk ⟨hS, us, hLk, hlen, hU⟩
            have tl : its.take vs.length = its := List.take_of_length_le (by omega)
            rw [tl] at hU
            have hw : ItsW d its := hO'.w
            have wn : withinD 0 1000000000 (.int n) = true := by
              show (decide (0 ≤ n) && decide (n ≤ 1000000000)) = true
              rw [decide_eq_true n0, decide_eq_true n1]
              rfl
            have hc : chk (its.map some) 1 = none := chk_ok (by omega) (by have := hw.dIs; omega)
            refine ⟨.int n, .int n, L, us, its.map some, rfl, Kd.int n, .inr (SqL.of hLk), Ents.ofIos hU (hw.up (by omega)), by omega, fun e => ?_, fun _ j y e => ?_, fun _ _ n' its' H' x en eo hw' S' nx hB => ?_⟩
            · rw [wn] at e; cases e
            · rw [hc] at e; cases e
            · cases en
              have : its' = its := by
                have := congrArg goods eo
                rw [goods_map, goods_map] at this
                exact this.symm
              subst this
              exact q _ H' (hS.trans S') hB
theorem ok_made {f gO pO : Addr} {fd fdGO : FuncData} {mc : Value} (F : Fun K "_law_made" "_law_made" sMade f fd) (T : Blt3 mg) (T1 : Blt mg) (U : Blt2 mg) (B : BodT K mg c) (R : ErrT K mg C tclass) (Z : MakT K mg c fD pD fO fC tS tP tG tT tB fdD fdO fdC dS dP dG dT dB) (Y : InsT K mg c iS iP iG iT iB fW fN fH eS eP eG eT eB fdW fdN fdH)
    (FO : Fun K "of" "Times.of" sTimesO gO fdGO) (CT : ClsT K c.times mc pO gO fdGO ["cls", "number", "items"]) (bZ : Binds K fd ["_law_one"] []) (gZ : Fn K mg "_law_made" f) :
    FnOk P w K mg base CX0 12 f fd ["_law_one"] (spMade c 2) := by
  have a0 := ok_made1 (P := P) (w := w) (base := base) 0 (by decide) F T T1 U B R Z Y FO CT (fZ := f) (fdZ := fd) ok_no bZ gZ
  have a1 := ok_made1 (P := P) (w := w) (base := base) 1 (by decide) F T T1 U B R Z Y FO CT a0 bZ gZ
  exact ok_made1 (P := P) (w := w) (base := base) 2 (by decide) F T T1 U B R Z Y FO CT a1 bZ gZ
end
end KP
end

section
set_option Elab.async false
set_option linter.all false
set_option maxRecDepth 100000
set_option maxHeartbeats 4000000
/-! The texts of bodies as signs: the reader's machine, and the tokens. -/
namespace Pn
open PySem PySem.Spec PyProof.Rows L2 TL
mutual
/-- the signs of an item's text -/
def lI : Itm → List Nat
  | .say z => 33 :: tl z
  | .press z => tl z
  | .go z => 64 :: tl z
  | .times n its => numL n.toNat ++ 40 :: (joinL [32] (lIs its) ++ [41])
def lIs : List Itm → List (List Nat)
  | [] => []
  | i :: is => lI i :: lIs is
end
theorem tl_bang : tl "!" = [33] := by decide +kernel
theorem tl_at : tl "@" = [64] := by decide +kernel
theorem tl_open : tl "(" = [40] := by decide +kernel
theorem tl_close : tl ")" = [41] := by decide +kernel
theorem tl_sp : tl " " = [32] := by decide +kernel
theorem tl_empty : tl PySem.Str.empty = [] := rfl
mutual
theorem tl_txI : ∀ {d : Nat} {i : Itm}, ItW d i → tl (txI i) = lI i
  | d, .say z, _ => by rw [txI, lI, tl_append, tl_append, tl_bang, tl_empty]; rfl
  | d, .press z, _ => by rw [txI, lI]
  | d, .go z, _ => by rw [txI, lI, tl_append, tl_append, tl_at, tl_empty]; rfl
  | d + 1, .times n its, .times a b l h => by
    obtain ⟨m, rfl⟩ := Int.eq_ofNat_of_zero_le a
    rw [txI, lI, tl_append, tl_append, tl_append, tl_append, tl_open, tl_close, tl_empty, TL.join_eq, TL.tl_join, tl_sp, tl_txs h]
    show [] ++ tl (PySem.Str.ofString (toString ((m : Nat) : Int))) ++ [40] ++ _ ++ _ = _
    rw [tl_num]
    simp
theorem tl_txs : ∀ {d : Nat} {is : List Itm}, ItsW d is → (txs is).map tl = lIs is
  | d, [], .nil => by rw [txs, lIs]; rfl
  | d, i :: is, .cons a b => by rw [txs, lIs, List.map_cons, tl_txI a, tl_txs b]
end
theorem tl_txB {d : Nat} {its : List Itm} (h : ItsW d its) : tl (txB its) = joinL [32] (lIs its) := by
  unfold txB
  rw [TL.join_eq, TL.tl_join, tl_sp, tl_txs h]
/-! ### the machine -/
def smalls : List Nat := tl "abcdefghijklmnopqrstuvwxyz"
def digs : List Nat := tl "0123456789"
/-- 0 opened, 1 space, 2 sign, 3 word, 4 number, 5 closed -/
def aft (c l : Nat) (long depth : Int) : Option Nat :=
  if c ∈ smalls then (if l = 0 ∨ l = 1 ∨ l = 2 ∨ (l = 3 ∧ long < 8) then some 3 else none)
  else if c ∈ digs then (if l = 0 ∨ l = 1 ∨ (l = 4 ∧ 0 < long ∧ long < 10) then some 4 else none)
  else if c = 33 ∨ c = 64 then (if l = 0 ∨ l = 1 then some 2 else none)
  else if c = 40 then (if l = 4 then some 0 else none)
  else if c = 41 then (if 0 < depth ∧ (l = 0 ∨ l = 3 ∨ l = 5) then some 5 else none)
  else if c = 32 then (if l = 3 ∨ l = 5 then some 1 else none)
  else none
structure Sta where
  l : Nat
  long : Int
  depth : Int
def stp (s : Sta) (c : Nat) : Option Sta :=
  match aft c s.l s.long s.depth with
  | none => none
  | some f => some (if f = 0 then ⟨f, s.long, s.depth + 1⟩ else if f = 5 then ⟨f, s.long, s.depth - 1⟩ else if c = 48 ∧ s.l ≠ 4 then ⟨f, 0, s.depth⟩ else ⟨f, if f = s.l then s.long + 1 else 1, s.depth⟩)
def runA : Sta → List Nat → Option Sta
  | s, [] => some s
  | s, c :: r => match stp s c with
    | none => none
    | some t => runA t r
theorem runA_cons (s : Sta) (c : Nat) (r : List Nat) : runA s (c :: r) = match stp s c with
    | none => none
    | some t => runA t r := rfl
theorem runA_app : ∀ (a b : List Nat) (s t : Sta), runA s a = some t → runA s (a ++ b) = runA t b
  | [], b, s, t, h => by cases h; rfl
  | c :: a, b, s, t, h => by
    rw [List.cons_append, runA_cons]
    rw [runA_cons] at h
    cases e : stp s c with
    | none => rw [e] at h; cases h
    | some u => rw [e] at h; exact runA_app a b u t h
/-- the place of the first sign that can't stand there, or the length where the text doesn't end -/
def faultF : Nat → Sta → List Nat → Option Nat
  | i, s, [] => if 0 < s.depth ∨ s.l = 1 ∨ s.l = 2 ∨ s.l = 4 then some i else none
  | i, s, c :: r => match stp s c with
    | none => some i
    | some t => faultF (i + 1) t r
theorem faultF_run : ∀ (a : List Nat) (i : Nat) (s t : Sta), runA s a = some t → faultF i s a = faultF (i + a.length) t []
  | [], i, s, t, h => by cases h; rfl
  | c :: a, i, s, t, h => by
    unfold runA at h
    unfold faultF
    cases e : stp s c with
    | none => rw [e] at h; cases h
    | some u =>
      rw [e] at h
      show faultF (i + 1) u a = _
      rw [faultF_run a (i + 1) u t h]
      rw [show i + 1 + a.length = i + (c :: a).length by rw [List.length_cons]; omega]
      rfl
theorem low_small {c : Nat} (h1 : 97 ≤ c) (h2 : c ≤ 122) : c ∈ smalls := by
  have e : smalls = (List.range 26).map (· + 97) := by decide +kernel
  rw [e]
  exact List.mem_map.mpr ⟨c - 97, List.mem_range.mpr (by omega), by omega⟩
theorem small_low {c : Nat} (h : c ∈ smalls) : 97 ≤ c ∧ c ≤ 122 := by
  have e : smalls = (List.range 26).map (· + 97) := by decide +kernel
  rw [e] at h
  obtain ⟨k, hk, rfl⟩ := List.mem_map.mp h
  have := List.mem_range.mp hk
  omega
theorem dig_iff {c : Nat} : c ∈ digs ↔ 48 ≤ c ∧ c ≤ 57 := by
  have e : digs = (List.range 10).map (· + 48) := by decide +kernel
  rw [e]
  constructor
  · intro h
    obtain ⟨k, hk, rfl⟩ := List.mem_map.mp h
    have := List.mem_range.mp hk
    omega
  · rintro ⟨h1, h2⟩
    exact List.mem_map.mpr ⟨c - 48, List.mem_range.mpr (by omega), by omega⟩
theorem no_small {c : Nat} (h : c < 97) : c ∉ smalls := fun z => by have := small_low z; omega
theorem no_dig {c : Nat} (h : c < 48 ∨ 57 < c) : c ∉ digs := fun z => by have := dig_iff.mp z; omega
/-- one letter -/
theorem stp_low {s : Sta} {c : Nat} (h1 : 97 ≤ c) (h2 : c ≤ 122) (h : s.l = 0 ∨ s.l = 1 ∨ s.l = 2 ∨ (s.l = 3 ∧ s.long < 8)) : stp s c = some ⟨3, if s.l = 3 then s.long + 1 else 1, s.depth⟩ := by
  have e : aft c s.l s.long s.depth = some 3 := by
    unfold aft
    rw [if_pos (low_small h1 h2), if_pos h]
  unfold stp
  rw [e]
  have n : ¬ (c = 48 ∧ s.l ≠ 4) := fun z => by omega
  show some (if (3 : Nat) = 0 then _ else if (3 : Nat) = 5 then _ else if c = 48 ∧ s.l ≠ 4 then _ else (⟨3, if 3 = s.l then s.long + 1 else 1, s.depth⟩ : Sta)) = _
  rw [if_neg (by decide), if_neg (by decide), if_neg n]
  by_cases h3 : s.l = 3
  · rw [if_pos h3.symm, if_pos h3]
  · rw [if_neg (fun z => h3 z.symm), if_neg h3]
/-- the letters behind the first one -/
theorem run_low : ∀ (p : List Nat) (k : Int) (dp : Int), (∀ c ∈ p, 97 ≤ c ∧ c ≤ 122) → k + p.length ≤ 8 → runA ⟨3, k, dp⟩ p = some ⟨3, k + p.length, dp⟩
  | [], k, dp, _, _ => by simp [runA]
  | c :: p, k, dp, h, hk => by
    obtain ⟨h1, h2⟩ := h c (List.mem_cons_self ..)
    have hk' : k + ((p.length + 1 : Nat) : Int) ≤ 8 := hk
    have e := stp_low (s := ⟨3, k, dp⟩) h1 h2 (.inr (.inr (.inr ⟨rfl, by show k < 8; omega⟩)))
    have e2 : stp ⟨3, k, dp⟩ c = some ⟨3, k + 1, dp⟩ := e
    unfold runA
    rw [e2]
    show runA ⟨3, k + 1, dp⟩ p = _
    rw [run_low p (k + 1) dp (fun d m => h d (List.mem_cons_of_mem _ m)) (by omega)]
    have : k + 1 + (p.length : Int) = k + ((c :: p).length : Int) := by rw [List.length_cons]; omega
    rw [this]
theorem run_word {z : PySem.Str} (hw : Wd z) {s : Sta} (h : s.l = 0 ∨ s.l = 1 ∨ s.l = 2) : ∃ k, runA s (tl z) = some ⟨3, k, s.depth⟩ := by
  obtain ⟨w1, w2, w3⟩ := hw
  have hl : 1 ≤ (tl z).length := w1
  have hl2 : (tl z).length ≤ 8 := w2
  have w3' : ∀ c ∈ tl z, 97 ≤ c ∧ c ≤ 122 := w3
  cases e : tl z with
  | nil => rw [e] at hl; exact absurd hl (by decide)
  | cons c p =>
    rw [e] at hl hl2 w3'
    obtain ⟨h1, h2⟩ := w3' c (List.mem_cons_self ..)
    have q := stp_low (s := s) h1 h2 (by rcases h with h | h | h <;> simp [h])
    have ne : s.l ≠ 3 := by rcases h with h | h | h <;> omega
    rw [if_neg ne] at q
    unfold runA
    rw [q]
    exact ⟨_, run_low p 1 s.depth (fun d m => w3' d (List.mem_cons_of_mem _ m)) (by have : p.length + 1 ≤ 8 := hl2; omega)⟩
/-- one digit -/
theorem stp_dig {s : Sta} {c : Nat} (h1 : 48 ≤ c) (h2 : c ≤ 57) (h : s.l = 0 ∨ s.l = 1 ∨ (s.l = 4 ∧ 0 < s.long ∧ s.long < 10)) : stp s c = some (if c = 48 ∧ s.l ≠ 4 then ⟨4, 0, s.depth⟩ else ⟨4, if s.l = 4 then s.long + 1 else 1, s.depth⟩) := by
  have e : aft c s.l s.long s.depth = some 4 := by
    unfold aft
    rw [if_neg (no_small (by omega)), if_pos (dig_iff.mpr ⟨h1, h2⟩), if_pos h]
  unfold stp
  rw [e]
  show some (if (4 : Nat) = 0 then _ else if (4 : Nat) = 5 then _ else if c = 48 ∧ s.l ≠ 4 then _ else (⟨4, if 4 = s.l then s.long + 1 else 1, s.depth⟩ : Sta)) = _
  rw [if_neg (by decide), if_neg (by decide)]
  by_cases h3 : s.l = 4
  · have nz : ¬ (c = 48 ∧ s.l ≠ 4) := fun z => z.2 h3
    rw [if_neg nz, if_neg nz, if_pos h3.symm, if_pos h3]
  · simp only [if_neg h3, if_neg (fun z => h3 z.symm : ¬ (4 = s.l))]
theorem run_num : ∀ (n : Nat) (s : Sta), (s.l = 0 ∨ s.l = 1) → (numL n).length ≤ 10 → ∃ k, runA s (numL n) = some ⟨4, k, s.depth⟩ ∧ (1 ≤ n → k = ((numL n).length : Int)) := by
  intro n
  induction n using Nat.strongRecOn with
  | _ n ih =>
    intro s hs hl
    by_cases h : n < 10
    · rw [numL_lt h]
      have q := stp_dig (s := s) (c := 48 + n) (by omega) (by omega) (by rcases hs with h | h <;> simp [h])
      unfold runA
      rw [q]
      have ne : s.l ≠ 4 := by rcases hs with h | h <;> omega
      by_cases z : n = 0
      · subst z
        rw [if_pos ⟨rfl, ne⟩]
        exact ⟨0, rfl, fun h => absurd h (by decide)⟩
      · rw [if_neg (by omega), if_neg ne]
        exact ⟨1, rfl, fun _ => rfl⟩
    · rw [numL_step (by omega)] at hl ⊢
      have hl' : (numL (n / 10)).length + 1 ≤ 10 := by simpa using hl
      obtain ⟨k, hr, hk⟩ := ih (n / 10) (by omega) s hs (by omega)
      have hk1 := hk (by omega)
      have hp : 1 ≤ (numL (n / 10)).length := by
        cases e : numL (n / 10) with
        | nil => exact absurd e (numL_ne _)
        | cons => simp
      rw [runA_app _ _ _ _ hr]
      have hm : n % 10 < 10 := Nat.mod_lt n (by decide)
      have q := stp_dig (s := ⟨4, k, s.depth⟩) (c := 48 + n % 10) (by omega) (by omega) (.inr (.inr ⟨rfl, by show 0 < k; omega, by show k < 10; omega⟩))
      rw [if_neg (by rintro ⟨_, z⟩; exact z rfl), if_pos rfl] at q
      unfold runA
      rw [q]
      refine ⟨k + 1, rfl, fun _ => ?_⟩
      rw [List.length_append, hk1]
      simp
theorem stp_sign {s : Sta} {c : Nat} (hc : c = 33 ∨ c = 64) (h : s.l = 0 ∨ s.l = 1) : stp s c = some ⟨2, 1, s.depth⟩ := by
  have e : aft c s.l s.long s.depth = some 2 := by
    unfold aft
    rw [if_neg (no_small (by omega)), if_neg (no_dig (by omega)), if_pos hc, if_pos h]
  unfold stp
  rw [e]
  have n1 : ¬ (c = 48 ∧ s.l ≠ 4) := fun z => by omega
  have n2 : ¬ ((2 : Nat) = s.l) := by rcases h with h | h <;> omega
  simp only [if_neg n1, if_neg n2, if_neg (show ¬ (2 = 0) by decide), if_neg (show ¬ (2 = 5) by decide)]
theorem stp_open {k dp : Int} : stp ⟨4, k, dp⟩ 40 = some ⟨0, k, dp + 1⟩ := by
  have e : aft 40 4 k dp = some 0 := by
    unfold aft
    rw [if_neg (no_small (by omega)), if_neg (no_dig (by omega)), if_neg (by decide), if_pos rfl, if_pos rfl]
  unfold stp
  show (match aft 40 4 k dp with | none => none | some f => _) = _
  rw [e]
  rfl
theorem stp_close {s : Sta} (hd : 0 < s.depth) (h : s.l = 0 ∨ s.l = 3 ∨ s.l = 5) : stp s 41 = some ⟨5, s.long, s.depth - 1⟩ := by
  have e : aft 41 s.l s.long s.depth = some 5 := by
    unfold aft
    rw [if_neg (no_small (by omega)), if_neg (no_dig (by omega)), if_neg (by decide), if_neg (by decide), if_pos rfl, if_pos ⟨hd, h⟩]
  unfold stp
  rw [e]
  rfl
theorem stp_space {s : Sta} (h : s.l = 3 ∨ s.l = 5) : stp s 32 = some ⟨1, 1, s.depth⟩ := by
  have e : aft 32 s.l s.long s.depth = some 1 := by
    unfold aft
    rw [if_neg (no_small (by omega)), if_neg (no_dig (by omega)), if_neg (by decide), if_neg (by decide), if_neg (by decide), if_pos rfl, if_pos h]
  unfold stp
  rw [e]
  have n1 : ¬ (32 = 48 ∧ s.l ≠ 4) := fun z => by omega
  have n2 : ¬ ((1 : Nat) = s.l) := by rcases h with h | h <;> omega
  simp only [if_neg n1, if_neg n2, if_neg (show ¬ (1 = 0) by decide), if_neg (show ¬ (1 = 5) by decide)]
mutual
theorem run_item : ∀ {d : Nat} {i : Itm}, ItW d i → ∀ (s : Sta), (s.l = 0 ∨ s.l = 1) → 0 ≤ s.depth → ∃ t, runA s (lI i) = some t ∧ (t.l = 3 ∨ t.l = 5) ∧ t.depth = s.depth
  | d, .say z, .say hw, s, hs, _ => by
    rw [lI]
    unfold runA
    rw [stp_sign (.inl rfl) hs]
    obtain ⟨k, q⟩ := run_word hw (s := ⟨2, 1, s.depth⟩) (.inr (.inr rfl))
    exact ⟨_, q, .inl rfl, rfl⟩
  | d, .press z, .press hw, s, hs, _ => by
    rw [lI]
    obtain ⟨k, q⟩ := run_word hw (s := s) (by rcases hs with h | h <;> simp [h])
    exact ⟨_, q, .inl rfl, rfl⟩
  | d, .go z, .go hw, s, hs, _ => by
    rw [lI]
    unfold runA
    rw [stp_sign (.inr rfl) hs]
    obtain ⟨k, q⟩ := run_word hw (s := ⟨2, 1, s.depth⟩) (.inr (.inr rfl))
    exact ⟨_, q, .inl rfl, rfl⟩
  | d + 1, .times n its, .times a b l h, s, hs, h0 => by
    rw [lI]
    have nl : (numL n.toNat).length ≤ 10 := numL_len (by decide) (by omega)
    obtain ⟨k, q, _⟩ := run_num n.toNat s hs nl
    rw [runA_app _ _ _ _ q]
    unfold runA
    rw [stp_open]
    show ∃ t, runA ⟨0, k, s.depth + 1⟩ (joinL [32] (lIs its) ++ [41]) = some t ∧ _
    obtain ⟨t, r1, r2, r3⟩ := run_items h ⟨0, k, s.depth + 1⟩ (.inl rfl) (by show 0 ≤ s.depth + 1; omega)
    have r3' : t.depth = s.depth + 1 := r3
    rw [runA_app _ _ _ _ r1]
    unfold runA
    rw [stp_close (by rw [r3']; omega) (by rcases r2 with ⟨_, r⟩ | r | r; exact .inl r; exact .inr (.inl r); exact .inr (.inr r))]
    exact ⟨_, rfl, .inr rfl, by show t.depth - 1 = _; omega⟩
theorem run_items : ∀ {d : Nat} {is : List Itm}, ItsW d is → ∀ (s : Sta), (s.l = 0 ∨ s.l = 1) → 0 ≤ s.depth → ∃ t, runA s (joinL [32] (lIs is)) = some t ∧ ((is = [] ∧ t.l = s.l) ∨ t.l = 3 ∨ t.l = 5) ∧ t.depth = s.depth
  | d, [], .nil, s, hs, h0 => by
    rw [lIs]
    exact ⟨s, rfl, .inl ⟨rfl, rfl⟩, rfl⟩
  | d, [i], .cons a .nil, s, hs, h0 => by
    rw [lIs, lIs]
    obtain ⟨t, r1, r2, r3⟩ := run_item a s hs h0
    exact ⟨t, r1, .inr r2, r3⟩
  | d, i :: j :: is, .cons a b, s, hs, h0 => by
    rw [lIs]
    obtain ⟨t, r1, r2, r3⟩ := run_item a s hs h0
    have hb : lIs (j :: is) = lI j :: lIs is := by rw [lIs]
    rw [hb]
    show ∃ t, runA s (lI i ++ ([32] ++ joinL [32] (lI j :: lIs is))) = some t ∧ _
    rw [runA_app _ _ _ _ r1, ← hb]
    show ∃ u, runA t (32 :: joinL [32] (lIs (j :: is))) = some u ∧ _
    unfold runA
    rw [stp_space r2]
    obtain ⟨u, q1, q2, q3⟩ := run_items b ⟨1, 1, t.depth⟩ (.inr rfl) (by show 0 ≤ t.depth; omega)
    refine ⟨u, q1, .inr ?_, q3.trans r3⟩
    rcases q2 with ⟨z, _⟩ | z
    · cases z
    · exact z
end
/-- no fault in the text of a body -/
theorem fault_txB {d : Nat} {its : List Itm} (h : ItsW d its) : faultF 0 ⟨0, 0, 0⟩ (tl (txB its)) = none := by
  rw [tl_txB h]
  obtain ⟨t, r1, r2, r3⟩ := run_items h ⟨0, 0, 0⟩ (.inl rfl) (Int.le_refl _)
  rw [faultF_run _ _ _ _ r1]
  unfold faultF
  have r3' : t.depth = 0 := r3
  rw [if_neg]
  rintro (z | z | z | z)
  · omega
  all_goals (rcases r2 with ⟨_, r⟩ | r | r)
  all_goals (first | omega | (have r' : t.l = 0 := r; omega))
end Pn
end

section
set_option Elab.async false
set_option linter.all false
set_option maxRecDepth 100000
set_option maxHeartbeats 4000000
/-! The tokens of the texts of bodies, and how they are read. -/
namespace Pn
open PySem PySem.Spec PyProof.Rows L2 TL
theorem replL_one (y : Nat) (z : List Nat) : ∀ l : List Nat, StrLaws.replL [y] z l = l.flatMap fun c => if c = y then z else [c]
  | [] => by rw [StrLaws.replL_nil]; rfl
  | c :: r => by
    rw [List.flatMap_cons, ← replL_one y z r]
    by_cases h : c = y
    · rw [if_pos h, StrLaws.replL_hit (by simp) (by rw [h]; rfl)]
      rfl
    · rw [if_neg h, StrLaws.replL_miss (by intro z; injection z with a b; exact h a)]
      rfl
def exB (c : Nat) : List Nat := if c = 41 then [32, 41] else if c = 40 then [40, 32] else [c]
theorem ex_both : ∀ l : List Nat, (l.flatMap fun c => if c = 41 then [32, 41] else [c]).flatMap (fun c => if c = 40 then [40, 32] else [c]) = l.flatMap exB
  | [] => rfl
  | c :: r => by
    rw [List.flatMap_cons, List.flatMap_append, ex_both r, List.flatMap_cons]
    congr 1
    unfold exB
    by_cases h : c = 41
    · subst h; rfl
    · rw [if_neg h, if_neg h]
      by_cases g : c = 40
      · subst g; rfl
      · rw [if_neg g]
        simp [g]
abbrev WSt := List (List Nat) × List Nat
def Wf' (st : WSt) (l : List Nat) : WSt := (l.flatMap exB).foldl wstep st
theorem W_app (st : WSt) (a b : List Nat) : Wf' st (a ++ b) = Wf' (Wf' st a) b := by
  unfold Wf'
  rw [List.flatMap_append, List.foldl_append]
theorem W_plain (p : List Nat) (ws : List (List Nat)) (u : List Nat) (h : ∀ c ∈ p, c ≠ 40 ∧ c ≠ 41 ∧ Unicode.isSpace c = false) : Wf' (ws, u) p = (ws, u ++ p) := by
  have e : ∀ l : List Nat, (∀ c ∈ l, c ≠ 40 ∧ c ≠ 41 ∧ Unicode.isSpace c = false) → l.flatMap exB = l := by
    intro l
    induction l with
    | nil => intro _; rfl
    | cons c l ih =>
      intro hl
      have hc := hl c (List.mem_cons_self ..)
      rw [List.flatMap_cons, ih (fun d m => hl d (List.mem_cons_of_mem _ m))]
      unfold exB
      rw [if_neg hc.2.1, if_neg hc.1]
      rfl
  unfold Wf'
  rw [e p h]
  exact wfold_word p ws u (fun c m => (h c m).2.2)
theorem sp32 : Unicode.isSpace 32 = true := by decide +kernel
theorem sp41 : Unicode.isSpace 41 = false := by decide +kernel
theorem sp40 : Unicode.isSpace 40 = false := by decide +kernel
theorem w32 (st : WSt) : wstep st 32 = (wfin st, []) := by
  unfold wstep wfin
  rw [if_pos sp32]
  by_cases h : st.2 = []
  · rw [if_pos h, if_pos h, ← h]
  · rw [if_neg h, if_neg h]
theorem W_space (st : WSt) : Wf' st [32] = (wfin st, []) := w32 st
theorem W_open (ws : List (List Nat)) (u : List Nat) : Wf' (ws, u) [40] = (ws ++ [u ++ [40]], []) := by
  show wstep (wstep (ws, u) 40) 32 = _
  rw [w32]
  have e : wstep (ws, u) 40 = (ws, u ++ [40]) := if_neg (by rw [sp40]; exact Bool.false_ne_true)
  rw [e]
  unfold wfin
  rw [if_neg (by simp)]
theorem W_close (st : WSt) : Wf' st [41] = (wfin st, [41]) := by
  show wstep (wstep st 32) 41 = _
  rw [w32]
  exact if_neg (by rw [sp41]; exact Bool.false_ne_true)
inductive Tk where
  | it (i : Itm)
  | op (n : Int)
  | cl
mutual
def tkI : Itm → List Tk
  | .say z => [.it (.say z)]
  | .press z => [.it (.press z)]
  | .go z => [.it (.go z)]
  | .times n its => .op n :: (tkIs its ++ [.cl])
def tkIs : List Itm → List Tk
  | [] => []
  | i :: is => tkI i ++ tkIs is
end
def tkS : Tk → PySem.Str
  | .it i => txI i
  | .op n => PySem.Str.ofString (toString n) ++ "("
  | .cl => ")"
def tkL (t : Tk) : List Nat := tl (tkS t)
theorem low_sp : ∀ c : Nat, 33 ≤ c → c ≤ 122 → Unicode.isSpace c = false := by
  intro c h1 h2
  have : c ∈ (List.range 90).map (· + 33) := List.mem_map.mpr ⟨c - 33, List.mem_range.mpr (by omega), by omega⟩
  have all : ((List.range 90).map (· + 33)).all (fun c => !Unicode.isSpace c) = true := by decide +kernel
  have := List.all_eq_true.mp all c this
  simpa using this
theorem wd_plain {z : PySem.Str} (h : Wd z) : ∀ c ∈ tl z, c ≠ 40 ∧ c ≠ 41 ∧ Unicode.isSpace c = false := fun c m => by
  have q := h.2.2 c m
  exact ⟨by omega, by omega, low_sp c (by omega) (by omega)⟩
theorem wd_ne {z : PySem.Str} (h : Wd z) : tl z ≠ [] := fun e => by
  have : 1 ≤ (tl z).length := h.1
  rw [e] at this
  exact absurd this (by decide)
theorem wfin_ne (ws : List (List Nat)) {u : List Nat} (h : u ≠ []) : wfin (ws, u) = ws ++ [u] := if_neg h
theorem wfin_nil (ws : List (List Nat)) : wfin (ws, []) = ws := if_pos rfl
mutual
theorem W_item : ∀ {d : Nat} {i : Itm}, ItW d i → ∀ ws, wfin (Wf' (ws, []) (lI i)) = ws ++ (tkI i).map tkL
  | d, .say z, .say hw, ws => by
    rw [lI, tkI, W_plain _ _ _ (fun c m => by rcases List.mem_cons.mp m with rfl | m; exact ⟨by decide, by decide, low_sp 33 (by decide) (by decide)⟩; exact wd_plain hw c m)]
    rw [wfin_ne _ (by simp)]
    show ws ++ [33 :: tl z] = ws ++ [tl (txI (.say z))]
    rw [tl_txI (ItW.say (d := 0) hw), lI]
  | d, .press z, .press hw, ws => by
    rw [lI, tkI, W_plain _ _ _ (wd_plain hw), wfin_ne _ (by simpa using wd_ne hw)]
    show ws ++ [tl z] = ws ++ [tl (txI (.press z))]
    rw [tl_txI (ItW.press (d := 0) hw), lI]
  | d, .go z, .go hw, ws => by
    rw [lI, tkI, W_plain _ _ _ (fun c m => by rcases List.mem_cons.mp m with rfl | m; exact ⟨by decide, by decide, low_sp 64 (by decide) (by decide)⟩; exact wd_plain hw c m)]
    rw [wfin_ne _ (by simp)]
    show ws ++ [64 :: tl z] = ws ++ [tl (txI (.go z))]
    rw [tl_txI (ItW.go (d := 0) hw), lI]
  | d + 1, .times n its, .times a b l h, ws => by
    have e : lI (.times n its) = numL n.toNat ++ ([40] ++ (joinL [32] (lIs its) ++ [41])) := by rw [lI]; rfl
    have dg := numL_digits n.toNat
    rw [e, tkI, W_app, W_plain (numL n.toNat) ws [] (fun c m => by have := dg c m; exact ⟨by omega, by omega, low_sp c (by omega) (by omega)⟩), W_app, W_open, W_app, W_close, W_items h, wfin_ne _ (by simp)]
    have e2 : tkL (.op n) = [] ++ numL n.toNat ++ [40] := by
      obtain ⟨m, rfl⟩ := Int.eq_ofNat_of_zero_le a
      show tl (PySem.Str.ofString (toString ((m : Nat) : Int)) ++ "(") = _
      rw [tl_append, tl_num, tl_open]
      rfl
    have e3 : tkL .cl = [41] := tl_close
    rw [List.map_cons, List.map_append, e2]
    show _ = ws ++ (([] ++ numL n.toNat ++ [40]) :: ((tkIs its).map tkL ++ [tkL .cl]))
    rw [e3]
    simp
theorem W_items : ∀ {d : Nat} {is : List Itm}, ItsW d is → ∀ ws, wfin (Wf' (ws, []) (joinL [32] (lIs is))) = ws ++ (tkIs is).map tkL
  | d, [], .nil, ws => by
    rw [lIs, tkIs]
    show wfin (ws, []) = _
    rw [wfin_nil]
    simp
  | d, [i], .cons a .nil, ws => by
    rw [lIs, lIs, tkIs, tkIs, List.append_nil]
    exact W_item a ws
  | d, i :: j :: is, .cons a b, ws => by
    have hb : lIs (j :: is) = lI j :: lIs is := by rw [lIs]
    have e : joinL [32] (lIs (i :: j :: is)) = lI i ++ ([32] ++ joinL [32] (lIs (j :: is))) := by
      rw [lIs, hb]
      rfl
    rw [e, W_app, W_app, W_space, W_item a, W_items b, show tkIs (i :: j :: is) = tkI i ++ tkIs (j :: is) by rw [tkIs], List.map_append, List.append_assoc]
end
/-- the tokens of a body's text -/
theorem words_txB {d : Nat} {its : List Itm} (h : ItsW d its) : Txt.words (Txt.replace (Txt.replace (txB its) ")" " )") "(" "( ") = (tkIs its).map tkS := by
  refine map_tl_inj ?_
  rw [words_tl, List.map_map]
  have e1 : tl (Txt.replace (txB its) ")" " )") = StrLaws.replL [41] [32, 41] (tl (txB its)) := by
    have := StrLaws.replace_list (x := txB its) (y := ")") (z := " )") (by decide +kernel)
    have a : (")" : PySem.Str).cps.toList = [41] := by decide +kernel
    have b : (" )" : PySem.Str).cps.toList = [32, 41] := by decide +kernel
    rw [a, b] at this
    exact this
  have e2 : tl (Txt.replace (Txt.replace (txB its) ")" " )") "(" "( ") = StrLaws.replL [40] [40, 32] (tl (Txt.replace (txB its) ")" " )")) := by
    have := StrLaws.replace_list (x := Txt.replace (txB its) ")" " )") (y := "(") (z := "( ") (by decide +kernel)
    have a : ("(" : PySem.Str).cps.toList = [40] := by decide +kernel
    have b : ("( " : PySem.Str).cps.toList = [40, 32] := by decide +kernel
    rw [a, b] at this
    exact this
  rw [e2, e1, replL_one, replL_one, ex_both, tl_txB h]
  have := W_items h []
  rw [List.nil_append] at this
  exact this
/-! ### reading the tokens -/
def Plain : Itm → Prop
  | .times _ _ => False
  | _ => True
/-- the items that are being read, and those ahead of each open parenthesis -/
def MRun : List Itm → List (Int × List Itm) → List Tk → List Itm → Prop
  | cur, st, [], fin => st = [] ∧ cur = fin
  | cur, st, .it i :: r, fin => Plain i ∧ ItW 0 i ∧ MRun (cur ++ [i]) st r fin
  | cur, st, .op n :: r, fin => 0 ≤ n ∧ n ≤ 1000000000 ∧ MRun [] ((n, cur) :: st) r fin
  | cur, (n, b) :: st, .cl :: r, fin => 0 ≤ n ∧ n ≤ 1000000000 ∧ cur.length ≤ 6 ∧ ItsW 1 cur ∧ MRun (b ++ [.times n cur]) st r fin
  | _, [], .cl :: _, _ => False
mutual
theorem mrun_item : ∀ {d : Nat} {i : Itm}, d ≤ 2 → ItW d i → ∀ (cur : List Itm) (st : List (Int × List Itm)) (r : List Tk) (fin : List Itm), MRun (cur ++ [i]) st r fin → MRun cur st (tkI i ++ r) fin
  | d, .say z, _, .say hw, cur, st, r, fin, h => by rw [tkI]; exact ⟨trivial, .say hw, h⟩
  | d, .press z, _, .press hw, cur, st, r, fin, h => by rw [tkI]; exact ⟨trivial, .press hw, h⟩
  | d, .go z, _, .go hw, cur, st, r, fin, h => by rw [tkI]; exact ⟨trivial, .go hw, h⟩
  | d + 1, .times n its, hd, .times a b l hI, cur, st, r, fin, h => by
    rw [tkI]
    refine ⟨a, b, ?_⟩
    show MRun [] ((n, cur) :: st) ((tkIs its ++ [Tk.cl]) ++ r) fin
    rw [List.append_assoc]
    refine mrun_items (by omega) hI [] ((n, cur) :: st) ([.cl] ++ r) fin ?_
    rw [List.nil_append]
    exact ⟨a, b, l, hI.up (by omega), h⟩
theorem mrun_items : ∀ {d : Nat} {is : List Itm}, d ≤ 2 → ItsW d is → ∀ (cur : List Itm) (st : List (Int × List Itm)) (r : List Tk) (fin : List Itm), MRun (cur ++ is) st r fin → MRun cur st (tkIs is ++ r) fin
  | d, [], _, .nil, cur, st, r, fin, h => by rw [tkIs]; rw [List.append_nil] at h; exact h
  | d, i :: is, hd, .cons a b, cur, st, r, fin, h => by
    rw [tkIs, List.append_assoc]
    refine mrun_item hd a cur st (tkIs is ++ r) fin (mrun_items hd b (cur ++ [i]) st r fin ?_)
    rw [List.append_assoc]
    exact h
end
theorem mrun_all {its : List Itm} (h : ItsW 2 its) : MRun [] [] (tkIs its) its := by
  have := mrun_items (Nat.le_refl 2) h [] [] [] its ⟨rfl, by rw [List.nil_append]⟩
  rwa [List.append_nil] at this
end Pn
end

section
set_option Elab.async false
set_option linter.all false
set_option maxRecDepth 100000
set_option maxHeartbeats 2000000
/-! for i, x in enumerate(s), s a text; a method of a text that wants a token out. -/
namespace L2
open PySem PySem.Spec PyProof.Rows
def IteS (z : Str) : It :=
  ⟨fun i _ => i < z.cps.size, fun i H v H' => ∃ T c, v = .ref T ∧ H T = none ∧ z.cps[i]? = some c ∧ H' = upd H T (.tup [.int (i : Nat), .str ⟨#[c]⟩]), fun i _ => z.cps.size ≤ i⟩
theorem turn_enumS {P : Program} {w : World} {K : PySem.W.Frag} {elts : List Expr} {kk : Nat} {tpos : Pos} (z : Str) (t : Tok) (e it : Addr) :
    Turn P w K (.Tuple elts kk tpos) (IteS z) [e, it] e (fun i h => (∃ old, IsEnum h e it ((i : Nat) : Int) old) ∧ h.IsStrIter it (strIterType z) z t i ∧ e ≠ it) where
  mem := by simp
  obj := fun i h st b hb => by
    obtain ⟨⟨old, he⟩, ⟨o, ho, hc, hd⟩, _⟩ := st
    have e' : b = e ∨ b = it := by simpa using hb
    rcases e' with z | z
    · rw [z]; exact ⟨_, he, fun v q => nomatch q⟩
    · rw [z]; exact ⟨o, ho, fun v q => by rw [hd] at q; cases q⟩
  keep := fun i h h' st k => let ⟨⟨old, he⟩, ⟨o, ho, r⟩, hne⟩ := st; ⟨⟨old, k e (by simp) _ he⟩, ⟨o, k it (by simp) o ho, r⟩, hne⟩
  item := by
    intro X hP hw hK hc i pins s σ H E I hf st hg
    subst hP hw hK
    obtain ⟨⟨old, he⟩, hit, hne⟩ := st
    have hel : e < s.heap.objs.size := Heap.lt_size he
    have hil : it < s.heap.objs.size := by obtain ⟨_, q, _⟩ := hit; exact Heap.lt_size q
    refine wpAny_pyNext_enum_itemD (Draws.text (A := X.A.in1) (I.ok.hd hc) it z t) he hit hg hne (by simp [hne]) fun y h' tk hy ho hst' hT hsz hk => ?_
    obtain ⟨c, u, hcx, rfl⟩ := hy
    refine ⟨_, rfl, wpAny_letOwnedTupleGo_enum (s := { s with heap := h', toks := tk + 1 }) ho fun h'' he' sb => ?_⟩
    have hT2 : h''.get? s.heap.objs.size = some { cls := .type "tuple", data := .seq #[.int i tk, .str ⟨#[c]⟩ u] } := (sb.2 _ (Nat.ne_of_gt hel)).trans hT
    have new : ObjOk X.prog X.w (upd H s.heap.objs.size (.tup [.int (i : Nat), .str ⟨#[c]⟩])) h'' s.heap.objs.size (.tup [.int (i : Nat), .str ⟨#[c]⟩]) :=
      ⟨by show 2 ≤ sizeLine; decide, [.int i tk, .str ⟨#[c]⟩ u], .cons ⟨_, rfl⟩ (.cons ⟨_, rfl⟩ .nil), ⟨_, hT2, rfl, _, rfl⟩⟩
    have I1 : Inv X pins σ (upd H s.heap.objs.size (.tup [.int (i : Nat), .str ⟨#[c]⟩])) { s with heap := h'', toks := tk + 1 } :=
      I.turnedNew (ch := [e, it]) (fun b ob hb q => (sb.2 b (fun z => hb (by simp [z]))).trans (hk b ob (fun z => hb (by simp [z])) (fun z => hb (by simp [z])) q)) hf (Nat.le_refl _) new
    refine ⟨.ref s.heap.objs.size, _, I1, rfl, ⟨_, c, rfl, I.hok.fresh (Nat.le_refl _), hcx, rfl⟩, ⟨⟨Value.str ⟨#[c]⟩ u, ?_⟩, (let ⟨o, q, r⟩ := hst'; ⟨o, (sb.2 it (Ne.symm hne)).trans q, r⟩), hne⟩, fun b hb => ?_⟩
    · have e1 : ((i + 1 : Nat) : Int) = (i : Int) + 1 := by omega
      rw [e1]; exact he'
    · have hb' : b < s.heap.objs.size := by
        have e' : b = e ∨ b = it := by simpa using hb
        rcases e' with z | z
        · rw [z]; exact hel
        · rw [z]; exact hil
      rw [upd_ne (Nat.ne_of_lt hb')]
      exact (hf b hb).1
  done := by
    intro X hP hw hK hc i pins s σ H E I hf st hg
    subst hP hw hK
    obtain ⟨⟨old, he⟩, hit, hne⟩ := st
    obtain ⟨f0, f1, f2, f3, f4, f5⟩ := hf it (by simp)
    have hx : z.cps[i]? = none := Array.getElem?_eq_none hg
    have D : Draws X.prog X.w X.A.in1 it [it] i (fun _ _ => False) (fun j h => j = i ∧ h.IsStrIter it (strIterType z) z t i) := by
      refine ⟨fun j h st => let ⟨o, ho, _⟩ := st.2; ⟨o, ho⟩, fun j h h' st hk => ⟨st.1, let ⟨o, ho, r⟩ := st.2; ⟨o, hk it (by simp) o ho, r⟩⟩, fun j s Q E hj st hQ => absurd st.1 (Nat.ne_of_lt hj), fun s Q E st hE => ?_⟩
      have st2 := st.2
      cases ha : z.cps.all (· < 128)
      · simp only [strIterType, ha, Bool.false_eq_true, if_false] at st2
        exact wpAny_nextOf_wide_end (I.ok.hd hc) st2 hx hE
      · simp only [strIterType, ha, if_true] at st2
        exact wpAny_nextOf_ascii_end (I.ok.hd hc) st2 hx hE
    exact wpAny_pyNext_enum_endD D he ⟨rfl, hit⟩ fun h' eb => ⟨rfl, I.turned (t' := s.toks) (fun b o hb q => eb b o hb q) f0 f1 f3 f4 f5⟩
  self := fun A i s Q E st h => let ⟨⟨_, he⟩, _⟩ := st; wpAny_pyIter_enum he h
def iEnumS (ta : TA) : TI := fun σ H R => ta σ H fun vs H1 => ∃ z, vs = [.str z] ∧ R (IteS z) H1
theorem pi_enumS {X : Cx} {e : Expr} {ta : TA} {p pos tpos : Pos} {elts : List Expr} {kk : Nat} (hg : Gl X "enumerate") (hm : X.mg "enumerate" = none) (ha : PA X [e] ta) (hs : starEach [e] X.env = [(false, eval e X.env)] := by rfl) :
    PI X (.Tuple elts kk tpos) (.Call (.Name "enumerate" p) [e] [] pos) (iEnumS ta) := by
  refine ⟨fun pins s σ H R I h => ?_⟩
  refine Call_ (ld_blt I hg hm boot_enumerate (PyProof.Rows.callWith_type1 (thn (ha.run pos pins s σ H _ I h) fun us s1 ⟨vs, H1, I1, r1, q1⟩ => ?_) hs rfl))
  obtain ⟨z, ex, q⟩ := q1
  subst ex
  cases r1 with
  | cons r rr =>
    cases rr
    obtain ⟨t, rfl⟩ := r
    refine enum_begins1 (begins_text z t) trivial fun h' he hit hsz hk => wpAny_pyIter_enum he ?_
    have I2 : Inv X pins σ H1 { s1 with heap := h' } := I1.kept (t' := s1.toks) hk
    refine ⟨s1.heap.objs.size + 1, [s1.heap.objs.size + 1, s1.heap.objs.size], _, _, H1, rfl, I2, turn_enumS z t (s1.heap.objs.size + 1) s1.heap.objs.size, ⟨⟨.none, he⟩, ⟨_, hit, rfl, rfl⟩, Nat.succ_ne_self _⟩, fun b hb => ?_, q⟩
    have e' : b = s1.heap.objs.size + 1 ∨ b = s1.heap.objs.size := by simpa using hb
    have hle : s1.heap.objs.size ≤ b := by
      rcases e' with z | z
      · rw [z]; exact Nat.le_add_right _ _
      · rw [z]; exact Nat.le_refl _
    exact I1.fpOk hle (I1.hok.fresh hle)
theorem walk_enumS {z : Str} : Walk (IteS z) z.cps.size (fun _ => True) (YPair (fun i => some (.int (i : Nat))) (fun i => (z.cps[i]?).map fun c => V.str ⟨#[c]⟩)) := by
  refine ⟨fun i _ hi q => hi, fun _ q => Nat.le_refl _, fun i H v H' _ q y => ?_⟩
  obtain ⟨T, c, h1, h2, h3, h4⟩ := y
  exact ⟨T, .int (i : Nat), .str ⟨#[c]⟩, h1, h2, h4, rfl, by show Option.map _ (z.cps[i]?) = _; rw [h3]; rfl⟩
section
variable {X : Cx} {o e : Expr} {to te : TE}
theorem pet_m0 {id : String} {name : Str} {apos pos : Pos} {r : V → List V → Hp → VK → Prop} (slot : Slot "str" name id) (ty : typeOf (.builtin id) = pure (.type "method_descriptor")) (rule : MtR X id r) (ho : PET X o to)
    (hbase : attributeBase o name X.env (eval o X.env) = eval o X.env := by rfl) (hline : (apos.endLine == pos.line) = true := by rfl) : PET X (.Call (.Attribute o name apos) [] [] pos) (tM0 r to) := by
  intro pins s σ H Q h0 I h
  refine PySem.Call_method0 hbase hline (thn (ho pins s σ H _ h0 I h) fun v s1 ⟨x, H1, I1, r1, q1⟩ => ?_)
  obtain ⟨⟨a, rfl⟩, q1⟩ := q1
  obtain ⟨t, rfl⟩ := _root_.id r1
  exact ⟨"str", _, F.plainAttrs_str, slot, ty, typeIs_str _ _ _, (fun _ e => nomatch e), Calls.callWith_builtin rfl (PySem.evalArgs_none (rule pins s1 σ H1 _ [] _ [] Q I1 r1 .nil q1))⟩
theorem pet_words {apos pos : Pos} (ho : PET X o to) (hbase : attributeBase o "split" X.env (eval o X.env) = eval o X.env := by rfl) (hline : (apos.endLine == pos.line) = true := by rfl) :
    PET X (.Call (.Attribute o "split" apos) [] [] pos) (tM0 (fun x xs H Q => ∃ a, x = .str a ∧ xs = [] ∧ a.length + 2 ≤ sizeLine ∧ rNewStrs (Txt.words a) H Q) to) :=
  pet_m0 F.slot_str_split F.type_str_split mt_words ho hbase hline
end
end L2
end

section
set_option Elab.async false
set_option linter.all false
set_option maxRecDepth 100000
set_option maxHeartbeats 4000000
/-! reading.py -/
namespace KP
open PySem PySem.Spec PyProof.Rows L2 Pn TL
abbrev sAfter : Stmt := top 21
abbrev sFault : Stmt := top 22
abbrev sTokens : Stmt := top 23
def lastS : Nat → PySem.Str
  | 0 => "opened"
  | 1 => "space"
  | 2 => "sign"
  | 3 => "word"
  | 4 => "number"
  | _ => "closed"
def lastV : Option Nat → V
  | none => .non
  | some l => .str (lastS l)
theorem pe_cs {X : Cx} {x z : PySem.Str} {pos : Pos} (hg : Gl X x) (h : ∃ t, X.mg x = some (.str z t)) (hd : (x == ("__debug__" : PySem.Str)) = false := by decide) : PE X (.Name x pos) (tC (.str z)) := by
  obtain ⟨t, h⟩ := h
  exact pe_glob hg h ⟨_, rfl⟩ hd
/-- the names of reading.py -/
structure RdT (mg : PySem.Str → Option Value) : Prop where
  small : ∃ t, mg "SMALL" = some (.str "abcdefghijklmnopqrstuvwxyz" t)
  digits : ∃ t, mg "DIGITS" = some (.str "0123456789" t)
  letters : ∃ t, mg "LETTERS" = some (.int 8 t)
  figures : ∃ t, mg "FIGURES" = some (.int 10 t)
  open_ : ∃ t, mg "OPEN" = some (.str (lastS 0) t)
  space : ∃ t, mg "SPACE" = some (.str (lastS 1) t)
  sign : ∃ t, mg "SIGN" = some (.str (lastS 2) t)
  word : ∃ t, mg "WORD" = some (.str (lastS 3) t)
  number : ∃ t, mg "NUMBER_reading" = some (.str (lastS 4) t)
  closed : ∃ t, mg "CLOSED" = some (.str (lastS 5) t)
  enum : mg "enumerate" = none
  len : mg "len" = none
theorem six {P : Nat → Prop} (h0 : P 0) (h1 : P 1) (h2 : P 2) (h3 : P 3) (h4 : P 4) (h5 : P 5) : ∀ l, l < 6 → P l
  | 0, _ => h0
  | 1, _ => h1
  | 2, _ => h2
  | 3, _ => h3
  | 4, _ => h4
  | 5, _ => h5
  | l + 6, h => absurd h (by omega)
theorem in3 (a b c : Nat) (ha : a < 6) (hb : b < 6) (hc : c < 6) : ∀ l, l < 6 → inV (.str (lastS l)) [.str (lastS a), .str (lastS b), .str (lastS c)] = decide (l = a ∨ l = b ∨ l = c) := by
  have all : ∀ a, a < 6 → ∀ b, b < 6 → ∀ c, c < 6 → ∀ l, l < 6 → inV (.str (lastS l)) [.str (lastS a), .str (lastS b), .str (lastS c)] = decide (l = a ∨ l = b ∨ l = c) := by decide +kernel
  exact all a ha b hb c hc
theorem in2 (a b : Nat) (ha : a < 6) (hb : b < 6) : ∀ l, l < 6 → inV (.str (lastS l)) [.str (lastS a), .str (lastS b)] = decide (l = a ∨ l = b) := by
  have all : ∀ a, a < 6 → ∀ b, b < 6 → ∀ l, l < 6 → inV (.str (lastS l)) [.str (lastS a), .str (lastS b)] = decide (l = a ∨ l = b) := by decide +kernel
  exact all a ha b hb
theorem is1 (a : Nat) (ha : a < 6) : ∀ l, l < 6 → decide (V.str (lastS l) = V.str (lastS a)) = decide (l = a) := by
  have all : ∀ a, a < 6 → ∀ l, l < 6 → decide (V.str (lastS l) = V.str (lastS a)) = decide (l = a) := by decide +kernel
  exact all a ha
theorem sgn1 (c d : Nat) (z : PySem.Str) (hz : tl z = [d]) : decide (V.str ⟨#[c]⟩ = V.str z) = decide (c = d) := by
  have e : z = ⟨#[d]⟩ := ext_tl (by rw [hz])
  rw [e]
  by_cases h : c = d
  · rw [h, decide_eq_true rfl, decide_eq_true rfl]
  · rw [decide_eq_false h, decide_eq_false]
    intro q
    injection q with q
    injection q with q
    have := congrArg Array.toList q
    injection this with q _
    exact h q
def spAft : Sp := fun vs H Q _ => ∃ (c l : Nat) (long depth : Int), vs = [.str ⟨#[c]⟩, .str (lastS l), .int long, .int depth] ∧ l < 6 ∧ ∀ H', Same H H' → Q (lastV (aft c l long depth)) H'
section
variable {P : Program} {w : World} {K : PySem.W.Frag} {mg : Str → Option Value} {base : Heap}
theorem scAfter : FnScope ["sign", "last", "long", "depth"] ["sign", "last", "long", "depth"] (defScope sAfter) := ⟨rfl, rfl, rfl, by decide +kernel, rfl, by decide +kernel, by decide +kernel⟩
theorem ok_after {f : Addr} {fd : FuncData} (F : Fun K "after_sign" "after_sign" sAfter f fd) (R : RdT mg) : FnOk P w K mg base CX0 1 f fd ["sign", "last", "long", "depth"] spAft := by
  refine F.ok scAfter (fun vs H Q E h => ?_) (fun cdv A outer s H vs Q E hr h => ?_)
  · obtain ⟨c, l, long, depth, rfl, _⟩ := h
    rfl
  · obtain ⟨c, l, long, depth, rfl, hl, q⟩ := h
    refine ⟨_, pss_cons (ps_if (pt_cmpR op_in_sign (pv 0) (pe_cs rfl R.small) rfl)
        (pss_one (ps_if (PW.pt (pw_or (pt_cmpR op_in_seq (pv 1) (pe_tup (pa_cons (pe_cs rfl R.open_) (pa_cons (pe_cs rfl R.space) (pa_cons (pe_cs rfl R.sign) pa_nil)))) rfl) (pw_or1 (PW.pt (pw_and (pt_cmpR op_eq (pv 1) (pe_cs rfl R.word) (nomark _)) (pw_and1 (pt_cmpR op_lt (pv 2) (pe_cst rfl R.letters) (nomark _)))))))) (pss_one (ps_ret (pe_cs rfl R.word))) pss_nil))
      (pss_one (ps_if (pt_cmpR op_in_sign (pv 0) (pe_cs rfl R.digits) rfl)
        (pss_one (ps_if (PW.pt (pw_or (pt_cmpR op_in_seq (pv 1) (pe_tup (pa_cons (pe_cs rfl R.open_) (pa_cons (pe_cs rfl R.space) pa_nil))) rfl) (pw_or1 (PW.pt (pw_and (pt_cmpR op_eq (pv 1) (pe_cs rfl R.number) (nomark _)) (pw_and1 (pt_chain op_lt op_lt pe_int (pv 2) (pe_cst rfl R.figures)))))))) (pss_one (ps_ret (pe_cs rfl R.number))) pss_nil))
      (pss_one (ps_if (pt_cmpR op_in_sign (pv 0) pe_str rfl)
        (pss_one (ps_if (pt_cmpR op_in_seq (pv 1) (pe_tup (pa_cons (pe_cs rfl R.open_) (pa_cons (pe_cs rfl R.space) pa_nil))) rfl) (pss_one (ps_ret (pe_cs rfl R.sign))) pss_nil))
      (pss_one (ps_if (pt_cmpR op_eq (pv 0) pe_str (nomark _))
        (pss_one (ps_if (pt_cmpR op_eq (pv 1) (pe_cs rfl R.number) (nomark _)) (pss_one (ps_ret (pe_cs rfl R.open_))) pss_nil))
      (pss_one (ps_if (pt_cmpR op_eq (pv 0) pe_str (nomark _))
        (pss_one (ps_if (PW.pt (pw_and (pt_cmpR op_gt (pv 3) pe_int (nomark _)) (pw_and1 (pt_cmpR op_in_seq (pv 1) (pe_tup (pa_cons (pe_cs rfl R.open_) (pa_cons (pe_cs rfl R.word) (pa_cons (pe_cs rfl R.closed) pa_nil)))) rfl)))) (pss_one (ps_ret (pe_cs rfl R.closed))) pss_nil))
      (pss_one (ps_if (pt_cmpR op_eq (pv 0) pe_str (nomark _))
        (pss_one (ps_if (pt_cmpR op_in_seq (pv 1) (pe_tup (pa_cons (pe_cs rfl R.word) (pa_cons (pe_cs rfl R.closed) pa_nil))) rfl) (pss_one (ps_ret (pe_cs rfl R.space))) pss_nil))
        pss_nil))))))))))) (pss_one (ps_ret pe_non)), ?_⟩
    unfold aft at q
    have D : ∀ {p : Prop} [Decidable p], ¬ (decide p = true) → ¬ p := fun h g => h (decide_eq_true g)
    refine ⟨_, rfl, c, _, rfl, rfl, _, rfl, ite2 (fun h1 => ?_) (fun h1 => ?_)⟩
    · rw [if_pos (show c ∈ smalls from of_decide_eq_true h1)] at q
      refine ⟨_, rfl, (by show 3 ≤ sizeLine; decide), fun t ht => ?_⟩
      refine ⟨t, _, rfl, .inr (SqT.of upd_same), rfl, rfl, _, rfl, ?_⟩
      rw [if_neg Bool.false_ne_true, in3 0 1 2 (by decide) (by decide) (by decide) l hl]
      refine ite2 (fun g => ?_) (fun g => ?_)
      · have g' := of_decide_eq_true g
        rw [if_pos (by rcases g' with g | g | g; exact .inl g; exact .inr (.inl g); exact .inr (.inr (.inl g)))] at q
        exact q _ (same_new ht)
      · have g' := D g
        refine ⟨_, rfl, rfl, _, rfl, ?_⟩
        rw [is1 3 (by decide) l hl]
        refine ite2 (fun g3 => ?_) (fun g3 => ?_)
        · have e3 := of_decide_eq_true g3
          refine ⟨_, rfl, _, _, rfl, rfl, _, rfl, ite2 (fun g8 => ?_) (fun g8 => ?_)⟩
          · rw [if_pos (.inr (.inr (.inr ⟨e3, of_decide_eq_true g8⟩)))] at q
            exact q _ (same_new ht)
          · rw [if_neg (by rintro (z | z | z | ⟨_, z⟩); exact g' (.inl z); exact g' (.inr (.inl z)); exact g' (.inr (.inr z)); exact D g8 z)] at q
            exact q _ (same_new ht)
        · rw [if_neg (by rintro (z | z | z | ⟨z, _⟩); exact g' (.inl z); exact g' (.inr (.inl z)); exact g' (.inr (.inr z)); exact D g3 z)] at q
          exact q _ (same_new ht)
    rw [if_neg (show ¬ c ∈ smalls from D h1)] at q
    refine ⟨_, rfl, c, _, rfl, rfl, _, rfl, ite2 (fun h2 => ?_) (fun h2 => ?_)⟩
    · rw [if_pos (show c ∈ digs from of_decide_eq_true h2)] at q
      refine ⟨_, rfl, (by show 2 ≤ sizeLine; decide), fun t ht => ?_⟩
      refine ⟨t, _, rfl, .inr (SqT.of upd_same), rfl, rfl, _, rfl, ?_⟩
      rw [if_neg Bool.false_ne_true, in2 0 1 (by decide) (by decide) l hl]
      refine ite2 (fun g => ?_) (fun g => ?_)
      · have g' := of_decide_eq_true g
        rw [if_pos (by rcases g' with g | g; exact .inl g; exact .inr (.inl g))] at q
        exact q _ (same_new ht)
      · have g' := D g
        refine ⟨_, rfl, rfl, _, rfl, ?_⟩
        rw [is1 4 (by decide) l hl]
        refine ite2 (fun g3 => ?_) (fun g3 => ?_)
        · have e3 := of_decide_eq_true g3
          refine ⟨_, rfl, _, _, rfl, rfl, _, rfl, ite2 (fun g8 => ?_) (fun g8 => ?_)⟩
          · refine ⟨_, _, rfl, rfl, _, rfl, ite2 (fun g9 => ?_) (fun g9 => ?_)⟩
            · rw [if_pos (.inr (.inr ⟨e3, of_decide_eq_true g8, of_decide_eq_true g9⟩))] at q
              exact q _ (same_new ht)
            · rw [if_neg (by rintro (z | z | ⟨_, _, z⟩); exact g' (.inl z); exact g' (.inr z); exact D g9 z)] at q
              exact q _ (same_new ht)
          · refine ⟨false, rfl, ?_⟩
            rw [if_neg (by rintro (z | z | ⟨_, z, _⟩); exact g' (.inl z); exact g' (.inr z); exact D g8 z)] at q
            exact q _ (same_new ht)
        · rw [if_neg (by rintro (z | z | ⟨z, _⟩); exact g' (.inl z); exact g' (.inr z); exact D g3 z)] at q
          exact q _ (same_new ht)
    rw [if_neg (show ¬ c ∈ digs from D h2)] at q
    refine ⟨_, rfl, c, _, rfl, rfl, _, rfl, ?_⟩
    have e33 : decide (c ∈ ("!@" : PySem.Str).cps.toList) = decide (c = 33 ∨ c = 64) := by
      have e : ("!@" : PySem.Str).cps.toList = [33, 64] := by decide +kernel
      rw [e]
      simp
    rw [e33]
    refine ite2 (fun h3 => ?_) (fun h3 => ?_)
    · rw [if_pos (of_decide_eq_true h3)] at q
      refine ⟨_, rfl, (by show 2 ≤ sizeLine; decide), fun t ht => ?_⟩
      refine ⟨t, _, rfl, .inr (SqT.of upd_same), rfl, rfl, _, rfl, ?_⟩
      rw [if_neg Bool.false_ne_true, in2 0 1 (by decide) (by decide) l hl]
      refine ite2 (fun g => ?_) (fun g => ?_)
      · rw [if_pos (of_decide_eq_true g)] at q
        exact q _ (same_new ht)
      · rw [if_neg (D g)] at q
        exact q _ (same_new ht)
    rw [if_neg (D h3)] at q
    refine ⟨_, rfl, rfl, _, rfl, ?_⟩
    rw [sgn1 c 40 "(" tl_open]
    refine ite2 (fun h4 => ?_) (fun h4 => ?_)
    · rw [if_pos (of_decide_eq_true h4)] at q
      refine ⟨_, rfl, rfl, _, rfl, ?_⟩
      rw [is1 4 (by decide) l hl]
      refine ite2 (fun g => ?_) (fun g => ?_)
      · rw [if_pos (of_decide_eq_true g)] at q
        exact q _ (fun _ _ h => h)
      · rw [if_neg (D g)] at q
        exact q _ (fun _ _ h => h)
    rw [if_neg (D h4)] at q
    refine ⟨_, rfl, rfl, _, rfl, ?_⟩
    rw [sgn1 c 41 ")" tl_close]
    refine ite2 (fun h5 => ?_) (fun h5 => ?_)
    · rw [if_pos (of_decide_eq_true h5)] at q
      refine ⟨_, rfl, _, _, rfl, rfl, _, rfl, ite2 (fun g => ?_) (fun g => ?_)⟩
      · refine ⟨_, rfl, (by show 3 ≤ sizeLine; decide), fun t ht => ?_⟩
        refine ⟨t, _, rfl, .inr (SqT.of upd_same), rfl, rfl, _, rfl, ?_⟩
        rw [if_neg Bool.false_ne_true, in3 0 3 5 (by decide) (by decide) (by decide) l hl]
        refine ite2 (fun g2 => ?_) (fun g2 => ?_)
        · rw [if_pos ⟨of_decide_eq_true g, of_decide_eq_true g2⟩] at q
          exact q _ (same_new ht)
        · rw [if_neg (fun z => D g2 z.2)] at q
          exact q _ (same_new ht)
      · rw [if_neg (fun z => D g z.1)] at q
        exact q _ (fun _ _ h => h)
    rw [if_neg (D h5)] at q
    refine ⟨_, rfl, rfl, _, rfl, ?_⟩
    rw [sgn1 c 32 " " tl_sp]
    refine ite2 (fun h6 => ?_) (fun h6 => ?_)
    · rw [if_pos (of_decide_eq_true h6)] at q
      refine ⟨_, rfl, (by show 2 ≤ sizeLine; decide), fun t ht => ?_⟩
      refine ⟨t, _, rfl, .inr (SqT.of upd_same), rfl, rfl, _, rfl, ?_⟩
      rw [if_neg Bool.false_ne_true, in2 3 5 (by decide) (by decide) l hl]
      refine ite2 (fun g => ?_) (fun g => ?_)
      · rw [if_pos (of_decide_eq_true g)] at q
        exact q _ (same_new ht)
      · rw [if_neg (D g)] at q
        exact q _ (same_new ht)
    rw [if_neg (D h6)] at q
    exact q _ (fun _ _ h => h)
end
end KP
end

section
set_option Elab.async false
set_option linter.all false
set_option maxRecDepth 100000
set_option maxHeartbeats 4000000
namespace KP
open PySem PySem.Spec PyProof.Rows L2 Pn TL
theorem aft_lt {c l f : Nat} {long depth : Int} (h : aft c l long depth = some f) : f < 6 := by
  have all : ∀ f, aft c l long depth = some f → f < 6 := by
    intro f
    unfold aft
    repeat' split
    all_goals (intro e; first | cases e | (injection e with e; omega))
    all_goals decide
  exact all f h
def fv : Option Nat → V
  | none => .non
  | some i => .int (i : Nat)
theorem same_refl {H : Hp} : Same H H := fun _ _ h => h
theorem dec_of {p : Prop} [Decidable p] (h : ¬ (decide p = true)) : ¬ p := fun g => h (decide_eq_true g)
def spFault : Sp := fun vs H Q _ => ∃ z : PySem.Str, vs = [.str z] ∧ z.length ≤ sizeLine ∧ ∀ H', Same H H' → Q (fv (faultF 0 ⟨0, 0, 0⟩ (tl z))) H'
theorem stp_some {s : Sta} {c f : Nat} (h : aft c s.l s.long s.depth = some f) : stp s c = some (if f = 0 then ⟨f, s.long, s.depth + 1⟩ else if f = 5 then ⟨f, s.long, s.depth - 1⟩ else if c = 48 ∧ s.l ≠ 4 then ⟨f, 0, s.depth⟩ else ⟨f, if f = s.l then s.long + 1 else 1, s.depth⟩) := by
  unfold stp
  rw [h]
theorem stp_none {s : Sta} {c : Nat} (h : aft c s.l s.long s.depth = none) : stp s c = none := by
  unfold stp
  rw [h]
theorem faultF_cons (i : Nat) (s : Sta) (c : Nat) (r : List Nat) : faultF i s (c :: r) = match stp s c with
    | none => some i
    | some t => faultF (i + 1) t r := rfl
theorem isV (a : Nat) (ha : a < 6) (l : Nat) (hl : l < 6) : decide (lastV (some l) = V.str (lastS a)) = decide (l = a) := is1 a ha l hl
theorem is_two {a b : Nat} (ha : a < 6) (hb : b < 6) : decide (V.str (lastS a) = V.str (lastS b)) = decide (a = b) := is1 b hb a ha
section
variable {P : Program} {w : World} {K : PySem.W.Frag} {mg : Str → Option Value} {base : Heap}
theorem scFault : FnScope ["text", "last", "long", "depth", "index", "sign", "found"] ["text"] (defScope sFault) := ⟨rfl, rfl, rfl, by decide +kernel, rfl, by decide +kernel, by decide +kernel⟩
theorem ok_fault {f fA : Addr} {fd fdA : FuncData} (F : Fun K "fault_in" "fault_in" sFault f fd) (R : RdT mg) (FA : Fun K "after_sign" "after_sign" sAfter fA fdA) (bA : Binds K fdA ["sign", "last", "long", "depth"] []) (gA : Fn K mg "after_sign" fA) :
    FnOk P w K mg base CX0 2 f fd ["text"] spFault := by
  have GA : FnOk P w K mg base CX0 1 fA fdA ["sign", "last", "long", "depth"] spAft := ok_after FA R
  refine F.ok scFault (fun vs H Q E h => ?_) (fun cdv A outer s H vs Q E hr h => ?_)
  · obtain ⟨z, rfl, _⟩ := h
    rfl
  · obtain ⟨z, rfl, hz, q⟩ := h
    have hr1 : Room 1 _ := hr
    refine ⟨_, pss_cons (ps_set (i := 1) scFault.nd rfl (Or.inl rfl) (pe_cs rfl R.open_))
      (pss_cons (ps_set (i := 2) scFault.nd rfl (Or.inl rfl) pe_int)
      (pss_cons (ps_set (i := 3) scFault.nd rfl (Or.inl rfl) pe_int)
      (pss_cons (ps_for PassesOwn.never rfl (pi_enumS (by rfl) R.enum (pa_cons (pv 0) pa_nil)) (pg_tup (by rfl) (pgs_cons (pg_name (i := 4) scFault.nd rfl (Or.inl rfl)) (pgs_cons (pg_name (i := 5) scFault.nd rfl (Or.inl rfl)) pgs_nil)))
        (pss_cons (ps_set (i := 6) scFault.nd rfl (Or.inl rfl) (pe_call GA hr1 rfl gA.g gA.k bA .nil pass0 (pa_cons (pv 5) (pa_cons (pv 1) (pa_cons (pv 2) (pa_cons (pv 3) pa_nil))))))
        (pss_cons (ps_if (pt_cmpR op_isN (pv 6) pe_non (nomark _)) (pss_one (ps_ret (pv 4))) pss_nil)
        (pss_cons (ps_if (pt_cmpR op_eq (pv 6) (pe_cs rfl R.open_) (nomark _)) (pss_one (ps_set (i := 3) scFault.nd rfl (Or.inl rfl) (pe_op op_add (pv 3) pe_int)))
          (pss_one (ps_if (pt_cmpR op_eq (pv 6) (pe_cs rfl R.closed) (nomark _)) (pss_one (ps_set (i := 3) scFault.nd rfl (Or.inl rfl) (pe_op op_sub (pv 3) pe_int)))
            (pss_one (ps_if (PW.pt (pw_and (pt_cmpR op_eq (pv 5) pe_str (nomark _)) (pw_and1 (pt_cmpR op_ne (pv 1) (pe_cs rfl R.number) (nomark _))))) (pss_one (ps_set (i := 2) scFault.nd rfl (Or.inl rfl) pe_int)) (pss_one (ps_set (i := 2) scFault.nd rfl (Or.inl rfl) (pe_ifExp (pt_cmpR op_eq (pv 6) (pv 1) (nomark _)) (pe_op op_add (pv 2) pe_int) pe_int))))))))
        (pss_one (ps_set (i := 1) scFault.nd rfl (Or.inl rfl) (pv 6)))))))
      (pss_cons (ps_if (PW.pt (pw_or (pt_cmpR op_gt (pv 3) pe_int (nomark _)) (pw_or1 (pt_cmpR op_in_seq (pv 1) (pe_tup (pa_cons (pe_cs rfl R.space) (pa_cons (pe_cs rfl R.sign) (pa_cons (pe_cs rfl R.number) pa_nil)))) rfl)))) (pss_one (ps_ret (pe_callB call_len_str (by rfl) R.len PySem.boot_len (pa_cons (pv 0) pa_nil)))) pss_nil)
      (pss_one (ps_ret pe_non)))))), ?_⟩
    refine ⟨_, rfl, z, rfl, for_it walk_enumS (fun i σ Hk => ∃ (st : Sta) (y4 y5 y6 : Option V), σ = [some (.str z), some (.str (lastS st.l)), some (.int st.long), some (.int st.depth), y4, y5, y6] ∧ Same H Hk ∧ st.l < 6 ∧ faultF i st ((tl z).drop i) = faultF 0 ⟨0, 0, 0⟩ (tl z)) ⟨⟨0, 0, 0⟩, none, none, none, rfl, same_refl, by decide, rfl⟩ (fun i σ Hk _ h => trivial) ?_ ?_⟩
    · rintro i x σ Hk Hk' hi ⟨st, y4, y5, y6, rfl, S, hl, e⟩ ⟨T', a, b, rfl, nT, rfl, ea, eb⟩
      cases ea
      have eb' : (z.cps[i]?).map (fun c => V.str ⟨#[c]⟩) = some b := eb
      obtain ⟨c, hc, rfl⟩ := Option.map_eq_some_iff.mp eb'
      have S1 : Same Hk (upd Hk T' (.tup [.int (i : Nat), .str ⟨#[c]⟩])) := same_new nT
      have hc' : (tl z)[i]? = some c := by rw [← hc]; simp [tl]
      have ed : (tl z).drop i = c :: (tl z).drop (i + 1) := by
        obtain ⟨h1, h2⟩ := List.getElem?_eq_some_iff.mp hc'
        rw [List.drop_eq_getElem_cons h1, h2]
      rw [ed, faultF_cons] at e
      refine ⟨T', [.int (i : Nat), .str ⟨#[c]⟩], rfl, .inl (.inl upd_same), rfl, _, [.str ⟨#[c]⟩], rfl, _, [], rfl, rfl, ?_⟩
      refine ⟨_, rfl, _, rfl, _, rfl, _, rfl, c, st.l, st.long, st.depth, rfl, hl, fun H' S' => ?_⟩
      have SS : Same H H' := (S.trans S1).trans S'
      cases ef : aft c st.l st.long st.depth with
      | none =>
        rw [stp_none ef] at e
        refine ⟨_, rfl, rfl, _, rfl, iteT ⟨_, rfl, ?_⟩⟩
        have := q H' SS
        rw [← e] at this
        exact this
      | some f =>
        have hf := aft_lt ef
        rw [stp_some ef] at e
        refine ⟨_, rfl, rfl, _, rfl, iteF ?_⟩
        refine ⟨_, rfl, rfl, _, rfl, ?_⟩
        rw [isV 0 (by decide) f hf]
        refine ite2 (fun g0 => ?_) (fun g0 => ?_)
        · have f0 := of_decide_eq_true g0
          subst f0
          rw [if_pos rfl] at e
          refine ⟨_, rfl, _, _, rfl, rfl, ?_⟩
          exact ⟨_, rfl, _, _, _, _, rfl, SS, hf, e⟩
        have f0 := dec_of g0
        rw [if_neg f0] at e
        refine ⟨_, rfl, rfl, _, rfl, ?_⟩
        rw [isV 5 (by decide) f hf]
        refine ite2 (fun g5 => ?_) (fun g5 => ?_)
        · have f5 := of_decide_eq_true g5
          subst f5
          rw [if_pos rfl] at e
          refine ⟨_, rfl, _, _, rfl, rfl, ?_⟩
          exact ⟨_, rfl, _, _, _, _, rfl, SS, hf, e⟩
        have f5 := dec_of g5
        rw [if_neg f5] at e
        refine ⟨_, rfl, rfl, _, rfl, ?_⟩
        rw [sgn1 c 48 "0" (by decide +kernel)]
        refine ite2 (fun g48 => ?_) (fun g48 => ?_)
        · have h48 := of_decide_eq_true g48
          refine ⟨_, rfl, rfl, _, rfl, ?_⟩
          rw [is1 4 (by decide) st.l hl]
          refine ite2 (fun g => ?_) (fun g => ?_)
          · have n4 : ¬ st.l = 4 := by
              intro z4
              rw [decide_eq_true z4] at g
              cases g
            rw [if_pos ⟨h48, n4⟩] at e
            exact ⟨_, rfl, _, _, _, _, rfl, SS, hf, e⟩
          · have y4 : st.l = 4 := by
              by_cases z4 : st.l = 4
              · exact z4
              · rw [decide_eq_false z4] at g
                exact absurd rfl g
            rw [if_neg (fun z => z.2 y4)] at e
            refine ⟨_, rfl, _, rfl, rfl, _, rfl, ?_⟩
            rw [show decide (lastV (some f) = V.str (lastS st.l)) = decide (f = st.l) from is_two hf hl]
            refine ite2 (fun gg => ?_) (fun gg => ?_)
            · rw [if_pos (of_decide_eq_true gg)] at e
              refine ⟨_, rfl, _, _, rfl, rfl, ?_⟩
              exact ⟨_, rfl, _, _, _, _, rfl, SS, hf, e⟩
            · rw [if_neg (dec_of gg)] at e
              exact ⟨_, rfl, _, _, _, _, rfl, SS, hf, e⟩
        · have h48 := dec_of g48
          rw [if_neg (fun z => h48 z.1)] at e
          refine ⟨_, rfl, _, rfl, rfl, _, rfl, ?_⟩
          rw [show decide (lastV (some f) = V.str (lastS st.l)) = decide (f = st.l) from is_two hf hl]
          refine ite2 (fun gg => ?_) (fun gg => ?_)
          · rw [if_pos (of_decide_eq_true gg)] at e
            refine ⟨_, rfl, _, _, rfl, rfl, ?_⟩
            exact ⟨_, rfl, _, _, _, _, rfl, SS, hf, e⟩
          · rw [if_neg (dec_of gg)] at e
            exact ⟨_, rfl, _, _, _, _, rfl, SS, hf, e⟩
    · rintro σ Hk ⟨st, y4, y5, y6, rfl, S, hl, e⟩
      have dz : (tl z).drop z.cps.size = [] := List.drop_eq_nil_of_le (by simp [tl])
      rw [dz] at e
      have e : (if 0 < st.depth ∨ st.l = 1 ∨ st.l = 2 ∨ st.l = 4 then some z.cps.size else none) = faultF 0 ⟨0, 0, 0⟩ (tl z) := e
      refine ⟨_, rfl, _, _, rfl, rfl, _, rfl, ite2 (fun g => ?_) (fun g => ?_)⟩
      · rw [if_pos (.inl (of_decide_eq_true g))] at e
        refine ⟨_, rfl, z, rfl, hz, ?_⟩
        have := q Hk S
        rw [← e] at this
        exact this
      · refine ⟨_, rfl, (by show 3 ≤ sizeLine; decide), fun t ht => ?_⟩
        refine ⟨t, _, rfl, .inr (SqT.of upd_same), rfl, rfl, _, rfl, ?_⟩
        rw [if_neg Bool.false_ne_true, in3 1 2 4 (by decide) (by decide) (by decide) st.l hl]
        refine ite2 (fun g2 => ?_) (fun g2 => ?_)
        · rw [if_pos (.inr (of_decide_eq_true g2))] at e
          refine ⟨_, rfl, z, rfl, hz, ?_⟩
          have q' := q
          rw [← e] at q'
          exact q' _ (S.trans (same_new ht))
        · rw [if_neg (fun z => z.elim (dec_of g) (dec_of g2))] at e
          have q' := q
          rw [← e] at q'
          exact q' _ (S.trans (same_new ht))
def spTok : Sp := fun vs H Q _ => ∃ z : PySem.Str, vs = [.str z] ∧ z.length ≤ 100000 ∧ rNewStrs (Txt.words (Txt.replace (Txt.replace z ")" " )") "(" "( ")) H Q
theorem scTokens : FnScope ["text"] ["text"] (defScope sTokens) := ⟨rfl, rfl, rfl, by decide +kernel, rfl, by decide +kernel, by decide +kernel⟩
theorem ok_tokens {f : Addr} {fd : FuncData} (F : Fun K "tokens_of" "tokens_of" sTokens f fd) : FnOk P w K mg base CX0 1 f fd ["text"] spTok := by
  obtain ⟨oc, od, kV, doc, pm, an, cdv, ct, osl, rfl, lk, hcd⟩ := F.ex
  refine fn_ofT lk hcd scTokens (by decide +kernel) (by decide) (fun vs H Q E h => ?_) (fun A outer s H vs Q E hr h => ?_)
  · obtain ⟨z, rfl, _⟩ := h
    rfl
  · obtain ⟨z, rfl, hz, q⟩ := h
    refine ⟨_, CwR.psst_one (CwR.pst_ret (pet_words (CwR.pet_replT (y := "(") (z := "( ") (CwR.pet_replC (y := ")") (z := " )") (pv 0))))), ?_⟩
    have m8 : sizeLine = 16777216 := rfl
    have l2 : ((" )" : PySem.Str)).length = 2 := by decide +kernel
    have l3 : (("( " : PySem.Str)).length = 2 := by decide +kernel
    have b1 := TK.replace_len z ")" " )"
    have b2 := TK.replace_len (Txt.replace z ")" " )") "(" "( "
    rw [l2] at b1
    rw [l3] at b2
    exact ⟨_, rfl, z, rfl, by rw [l2]; omega, _, rfl, by rw [l3]; omega, ⟨_, rfl⟩, _, rfl, rfl, by omega, q⟩
end
end KP
end

section
set_option Elab.async false
set_option linter.all false
set_option maxRecDepth 100000
set_option maxHeartbeats 2000000
/-! len(x) of a class of the text with its own __len__. -/
namespace L2
open PySem PySem.Spec PyProof.Rows
def rLenO (C : Addr) (sp : Sp) (E : XK) : List V → Hp → VK → Prop := fun xs H Q => ∃ a dx fs, xs = [.ref a] ∧ H a = some (.ins C dx fs) ∧ sp [.ref a] H (fun v H2 => ∃ n : Int, v = .int n ∧ 0 ≤ n ∧ n < 2 ^ 63 ∧ Q (.int n) H2) E
theorem call_lenO {X : Cx} {CX : CXT} {k : Nat} {C f : Addr} {fd : FuncData} {ps : List Str} {sp : Sp} {E : XK} (hs : PySem.W.findIn X.K (.ref C) "__len__" = some (some (.ref f))) (hf : PySem.W.isFn X.K (.ref f) = true) (F : FnOk X.prog X.w X.K X.mg X.base CX k f fd ps sp) (hr : Room (k + 1) X.A) (hb : Binds X.K fd ps []) (hx : Passes CX X E) : CallR X (.builtin "len") (rLenO C sp E) := by
  intro pins s σ H xs us Q I r h
  obtain ⟨a, dx, fs, rfl, ha, hp⟩ := h
  obtain ⟨u, rfl, ru⟩ := vals1 r
  obtain rfl : u = Value.ref a := ru
  obtain ⟨m, hF⟩ := I.fr
  obtain ⟨mA, O, _, _, _, _⟩ := ins_get I.hok ha
  obtain ⟨od, J, _⟩ := O.look
  refine PySem.W.len_K hF I.ok.mod.kin J hs hf ?_
  have hl := F.len _ _ _ _ hp
  refine wpAny_call (codeAny_mono (F.run X.A.in1 X.stack s H ⟨[.ref a], []⟩ [.ref a] [.ref a] _ E hr.in1 I.env0.in1 (by
    have := hb s [.ref a] I.kIn (by simpa using hl)
    simpa using this) (.cons rfl .nil) hp) fun r s' hq => ?_)
  cases r with
  | error e => exact hx pins σ H s e s' I hq
  | ok fl =>
    cases fl with
    | ret w =>
      obtain ⟨z, H', I', rz, n, rfl, h0, h1, q⟩ := I.after hq
      obtain ⟨t, rfl⟩ := rz
      exact ⟨⟨h0, h1⟩, .int n, H', I'.tok _, ⟨_, rfl⟩, q⟩
    | next => exact False.elim hq
    | brk => exact False.elim hq
    | cont => exact False.elim hq
end L2
end

section
set_option Elab.async false
set_option linter.all false
set_option maxRecDepth 100000
set_option maxHeartbeats 2000000
/-! == by an own __eq__ and of tuples of such values, where it may say True or False. -/
namespace GQ
open PySem PySem.SeqAt
open AutoSeq1 (wpAny_loadPart')
open MeetsSeq MeetsSeq2 MeetsSeq3 SeqRoads2
section
variable {prog : Program} {w : World} {A : Around} {R : Result → Shared → Prop}
theorem tuple_eqB (l b : Addr) (items items2 : Array Value) (n n2 : Nat) (dd dd2 : Option Addr) (sl sl2 : Array (Option Value)) (F : Nat → Bool) (I : Nat → Shared → Prop)
    (turn : ∀ i (h1 : i < items.size) (h2 : i < items2.size) s, I i s → wpAny (model prog w) A.in1 (eqBool items[i] items2[i]) (fun r s' => r = F i ∧ I (i + 1) s') (fun e s' => R (.error e) s') s)
    (finT : ∀ i s, (i = items.size ∨ i = items2.size) → i ≤ items.size → i ≤ items2.size → (∀ j, j < i → F j = true) → I i s → R (.ok (.ret (.bool (items.size == items2.size)))) s)
    (finF : ∀ i s, i < items.size → i < items2.size → F i = false → I (i + 1) s → R (.ok (.ret (.bool false))) s)
    {s : Shared} (hl1 : s.heap.get? l = some { cls := .type "tuple", dict := dd, data := .seq items n, slots := sl }) (hb1 : s.heap.get? b = some { cls := .type "tuple", dict := dd2, data := .seq items2 n2, slots := sl2 }) (h : I 0 s) :
    wpAny (model prog w) A.in1 (Builtin.«tuple.__eq__» ⟨[.ref l, .ref b], []⟩) (FinOf prog w A R) (fun e s' => R (.error e) s') s := by
  have f2 := AutoSeq1.sub_tuple_tuple
  have hZ : (items.toList.zip items2.toList).length = min items.size items2.size := by simp
  have h0 := h
  obtain ⟨hp, g, d, tk, os⟩ := s
  wp_walk using wpAny_loadPart' hl1, wpAny_loadPart' hb1, wpAny_forIn_list _ (fun rest b s' => b.1 = none ∧ ∃ i, rest = (items.toList.zip items2.toList).drop i ∧ i ≤ items.size ∧ i ≤ items2.size ∧ (∀ j, j < i → F j = true) ∧ I i s') _
  case turn =>
    rintro ⟨y, x⟩ rest b s' ⟨hb', i, hz, hi, hi2, hF, hI⟩
    have hlt : i < (items.toList.zip items2.toList).length := by
      rcases Nat.lt_or_ge i (items.toList.zip items2.toList).length with h' | h'
      · exact h'
      · rw [List.drop_of_length_le h'] at hz; cases hz
    have h1 : i < items.size := by omega
    have h2 : i < items2.size := by omega
    rw [List.drop_eq_getElem_cons hlt] at hz
    injection hz with hyx hrest
    have hy : y = items[i] := by have := congrArg Prod.fst hyx; simpa using this
    have hx : x = items2[i] := by have := congrArg Prod.snd hyx; simpa using this
    subst hy hx
    refine wpAny_bind (wpAny_mono (turn i h1 h2 s' hI) (fun r s2 q2 => ?_) fun _ _ x => x)
    obtain ⟨hr, q2⟩ := q2
    subst hr
    cases e : F i with
    | true =>
      wp_walk
      exact ⟨rfl, i + 1, hrest, h1, h2, fun j hj => by
        by_cases ej : j = i
        · rw [ej]; exact e
        · exact hF j (by omega), q2⟩
    | false =>
      have hR := finF i s2 h1 h2 e q2
      wp_walk
      exact hR
  case fin =>
    rintro ⟨b1, b2⟩ s' ⟨hb', i, hz, hi, hi2, hF, hI⟩
    simp only at hb'
    subst hb'
    have hge : min items.size items2.size ≤ i := by
      rcases Nat.lt_or_ge i (items.toList.zip items2.toList).length with h' | h'
      · rw [List.drop_eq_getElem_cons h'] at hz; cases hz
      · exact hZ ▸ h'
    have hR := finT i s' (by omega) hi hi2 hF hI
    wp_walk
    simpa [Builtin.Tuple.tupleCompareSizes] using hR
  case h =>
    exact ⟨rfl, 0, rfl, Nat.zero_le _, Nat.zero_le _, fun j hj => absurd hj (Nat.not_lt_zero _), h0⟩
end
section
variable {prog : Program} {w : World} {A : Around} {E : Value → Shared → Prop} {s : Shared}
theorem rc_tupB {l b : Addr} {items items2 : Array Value} {Q : Value → Shared → Prop} (hu : A.units < cLine) (Fb : Nat → Bool) (I : Nat → Shared → Prop)
    (hl : s.heap.IsTuple l items) (hb : s.heap.IsTuple b items2)
    (turn : ∀ i (h1 : i < items.size) (h2 : i < items2.size) s, I i s → wpAny (model prog w) A.in1 (eqBool items[i] items2[i]) (fun r s' => r = Fb i ∧ I (i + 1) s') E s)
    (finT : ∀ i s, (i = items.size ∨ i = items2.size) → i ≤ items.size → i ≤ items2.size → (∀ j, j < i → Fb j = true) → I i s → Q (.bool (items.size == items2.size)) s)
    (finF : ∀ i s, i < items.size → i < items2.size → Fb i = false → I (i + 1) s → Q (.bool false) s) (h : I 0 s) : wpAny (model prog w) A (richCompare .Eq (.ref l) (.ref b)) Q E s := by
  obtain ⟨⟨cls, dd, data, sl⟩, ho, hc, n, hd⟩ := id hl
  obtain ⟨⟨cls2, dd2, data2, sl2⟩, ho2, hc2, n2, hd2⟩ := id hb
  simp only at hc hd hc2 hd2
  subst hc hd hc2 hd2
  refine wpAny_richCompare_same_room (op := .Eq) ⟨_, ho, rfl⟩ ⟨_, ho2, rfl⟩ F.slot_tuple_eq (call_here F.slot_tuple_eq ⟨_, ho, rfl⟩ F.entry_tuple_eq (F.args_tuple_eq_2 _ _) ?_) hu
  exact tuple_eqB (R := wants (fun v s' => v ≠ .notImplemented ∧ Q v s') E) l b items items2 n n2 dd dd2 sl sl2 Fb I turn (fun i s' a b c d q => ⟨(fun x => nomatch x), finT i s' a b c d q⟩) (fun i s' a b c q => ⟨(fun x => nomatch x), finF i s' a b c q⟩) ho ho2 h
end
end GQ
end

section
set_option Elab.async false
set_option linter.all false
set_option maxRecDepth 100000
set_option maxHeartbeats 2000000
/-! == by an own __eq__ and of tuples of such values: the hand's rules. -/
namespace L2
open PySem PySem.Spec PyProof.Rows
abbrev EqvB := V → V → Hp → Bool → Prop
def MonB (D : EqvB) : Prop := ∀ x y b H H', Ext H H' → D x y H b → D x y H' b
def EqB (X : Cx) (n : Nat) (D : EqvB) : Prop :=
  ∀ (A : Around) (pins : List (Addr × Obj)) (s : Shared) (σ : St) (H : Hp) (x y : V) (u v : Value) (b : Bool), Sub X n A → Inv X pins σ H s → RelV x u → RelV y v → D x y H b →
    wpAny (model X.prog X.w) A (eqBool u v) (fun r s' => r = b ∧ ∃ H', Inv X pins σ H' s' ∧ Ext H H') X.xe s
def RcB (X : Cx) (n : Nat) (D : EqvB) : Prop :=
  ∀ (A : Around) (pins : List (Addr × Obj)) (s : Shared) (σ : St) (H : Hp) (x y : V) (u v : Value) (b : Bool), Sub X n A → Inv X pins σ H s → RelV x u → RelV y v → D x y H b →
    wpAny (model X.prog X.w) A (richCompare .Eq u v) (fun r s' => r = .bool b ∧ ∃ H', Inv X pins σ H' s' ∧ Ext H H') X.xe s
/-- an instance of the class at C, with the text's own ==, and a value of any type that is no subclass of it: what R says of the two -/
def DInsB (K : PySem.W.Frag) (C : Addr) (R : Addr → V → Hp → Bool → Prop) : EqvB := fun x y H b => ∃ a dx fs t, x = .ref a ∧ H a = some (.ins C dx fs) ∧ TyX K H y t ∧ PySem.W.notFirst K C t = true ∧ R a y H b
def spEqB (R : Addr → V → Hp → Bool → Prop) : Sp := fun vs H Q _ => ∃ a y b, vs = [.ref a, y] ∧ R a y H b ∧ ∀ H', Ext H H' → Q (.bl b) H'
def DTupB (K : PySem.W.Frag) (D : EqvB) : EqvB := fun x y H b => ∃ (a a' : Addr) (xs ys : List V) (Fb : Nat → Bool), x = .ref a ∧ y = .ref a' ∧ SqT K H a xs ∧ SqT K H a' ys ∧
  (∀ (i : Nat) u v, xs[i]? = some u → ys[i]? = some v → D u v H (Fb i)) ∧ b = (decide (xs.length = ys.length) && (List.range xs.length).all Fb)
def rEqB (D : EqvB) : R2 := fun x y H Q => ∃ b, D x y H b ∧ ∀ H', Ext H H' → Q (.bl b) H'
section
variable {X : Cx} {n m : Nat} {D D' : EqvB}
theorem EqB.mono (h : EqB X n D) (hn : n ≤ m) : EqB X m D := fun A pins s σ H x y u v b sb => h A pins s σ H x y u v b (sb.mono hn)
theorem RcB.mono (h : RcB X n D) (hn : n ≤ m) : RcB X m D := fun A pins s σ H x y u v b sb => h A pins s σ H x y u v b (sb.mono hn)
theorem RcB.or (h : RcB X n D) (h' : RcB X n D') : RcB X n (fun x y H b => D x y H b ∨ D' x y H b) := fun A pins s σ H x y u v b sb I rx ry d => by
  rcases d with d | d
  · exact h A pins s σ H x y u v b sb I rx ry d
  · exact h' A pins s σ H x y u v b sb I rx ry d
theorem RcB.imp (h : RcB X n D) (hd : ∀ x y H b, D' x y H b → D x y H b) : RcB X n D' := fun A pins s σ H x y u v b sb I rx ry d => h A pins s σ H x y u v b sb I rx ry (hd x y H b d)
theorem rcB_ins {CX : CXT} {C f : Addr} {fd : FuncData} {ps : List Str} {R : Addr → V → Hp → Bool → Prop} {E : XK} (F : FnOk X.prog X.w X.K X.mg X.base CX n f fd ps (spEqB R))
    (hs : PySem.W.findIn X.K (.ref C) "__eq__" = some (some (.ref f))) (hf : PySem.W.isFn X.K (.ref f) = true) (hb : Binds X.K fd ps []) (hx : Passes CX X E) : RcB X n (DInsB X.K C R) := by
  intro A pins s σ H x y u v b sb I rx ry d
  obtain ⟨a, dx, fs, t, rfl, ha, ty, nf, hr⟩ := d
  cases rx
  obtain ⟨mA, J, _⟩ := ins_get I.hok ha
  obtain ⟨od, J, _⟩ := J.look
  obtain ⟨m, hF⟩ := I.fr
  obtain ⟨P, Z, p, _⟩ := kit_of I ry ty
  refine PySem.W.cmp_K (op := .Eq) (tb := t) sb.room.units0 hF I.ok.mod.kin J (Z.ty _ _ I.kIn p) nf hs hf ?_
  have hsp : spEqB R [.ref a, y] H (fun v H' => v = .bl b ∧ Ext H H') E := ⟨a, y, b, rfl, hr, fun H' e => ⟨rfl, e⟩⟩
  have e0 : Env0 X.prog X.w X.K X.mg X.base A X.stack s H := by
    have e := I.env0
    exact ⟨by rw [sb.fr]; exact e.frames, e.mod, e.bs, e.bsz, e.funs, e.frf, e.hok, e.bare⟩
  have hl := F.len _ _ _ _ hsp
  have r2 : Vals [V.ref a, y] [Value.ref a, v] := .cons rfl (.cons ry .nil)
  refine wpAny_call (codeAny_mono (F.run A X.stack s H ⟨[.ref a, v], []⟩ [.ref a, v] [.ref a, y] _ E sb.room e0 (by
    have := hb s [.ref a, v] I.kIn (by simpa using hl)
    simpa using this) r2 hsp) fun r s' hq => ?_)
  cases r with
  | error e => exact hx pins σ H s e s' I hq
  | ok fl =>
    cases fl with
    | ret w =>
      obtain ⟨z, H', I', rz, ez, ex⟩ := I.after hq
      subst ez
      cases rz
      exact ⟨rfl, H', I', ex⟩
    | next => exact False.elim hq
    | brk => exact False.elim hq
    | cont => exact False.elim hq
theorem RcB.eqB (h : RcB X n D) (hr : ∀ x y H b, D x y H b → ∃ a b', x = .ref a ∧ y = .ref b') (hrefl : ∀ x H b, D x x H b → b = true) : EqB X n D := by
  intro A pins s σ H x y u v b sb I rx ry d
  obtain ⟨a, b', rfl, rfl⟩ := hr _ _ _ _ d
  cases rx
  cases ry
  by_cases hab : a = b'
  · subst hab
    have e := hrefl _ _ _ d
    subst e
    exact SeqAt.EqAt.same (A := A) (s := s) (.ref a) X.prog X.w X.xe _ ⟨rfl, H, I, Ext.rfl'⟩
  · refine GQ.eqBool_refG hab (wpAny_mono (h A pins s σ H (.ref a) (.ref b') _ _ b sb I rfl rfl d) (fun r s' q => ?_) fun _ _ x => x)
    obtain ⟨hr', q⟩ := q
    exact ⟨b, hr', rfl, q⟩
theorem rcB_tup (hD : MonB D) (h : EqB X n D) : RcB X (n + 1) (DTupB X.K D) := by
  intro A pins s σ H x y u v b sb I rx ry d
  obtain ⟨a, a', xs, ys, Fb, rfl, rfl, ha, hb, p, hbb⟩ := d
  cases rx
  cases ry
  obtain ⟨its, r, e, z⟩ := I.tuple ha
  obtain ⟨its2, r2, e2, z2⟩ := I.tuple hb
  have s1 : its.toArray.size = xs.length := by rw [List.size_toArray, ← r.length]
  have s2 : its2.toArray.size = ys.length := by rw [List.size_toArray, ← r2.length]
  refine GQ.rc_tupB (Fb := Fb) sb.room.units0 (fun _ s' => LoopI X pins σ H s') e e2 (fun i h1 h2 s' q => ?_) (fun i s' hi i1 i2 hF q => ⟨?_, q⟩) (fun i s' i1 i2 hF q => ⟨?_, q⟩) ⟨H, I, Ext.rfl'⟩
  · obtain ⟨H1, I1, e1⟩ := q
    have g1 : its[i]? = some its.toArray[i] := by
      have h1' : i < its.length := by simpa using h1
      rw [List.getElem?_eq_getElem h1'] <;> simp
    have g2 : its2[i]? = some its2.toArray[i] := by
      have h2' : i < its2.length := by simpa using h2
      rw [List.getElem?_eq_getElem h2'] <;> simp
    have k1 : i < xs.length := by omega
    have k2 : i < ys.length := by omega
    obtain ⟨u, hu, ru⟩ := r.get (List.getElem?_eq_getElem k1)
    obtain ⟨v, hv, rv⟩ := r2.get (List.getElem?_eq_getElem k2)
    rw [g1] at hu
    rw [g2] at hv
    rw [Option.some.inj hu, Option.some.inj hv]
    refine wpAny_mono (h A.in1 pins s' σ H1 _ _ u v (Fb i) sb.in1 I1 ru rv (hD _ _ _ _ _ e1 (p i _ _ (List.getElem?_eq_getElem k1) (List.getElem?_eq_getElem k2)))) (fun r s2 q => ?_) fun _ _ x => x
    obtain ⟨hr, H2, I2, e2⟩ := q
    exact ⟨hr, H2, I2, e1.trans e2⟩
  · rw [hbb]
    rw [s1, s2] at *
    by_cases hl : xs.length = ys.length
    · have : (List.range xs.length).all Fb = true := List.all_eq_true.mpr fun j hj => hF j (by have := List.mem_range.mp hj; omega)
      rw [this, hl]
      simp
    · have : (xs.length == ys.length) = false := by simpa using hl
      rw [this, decide_eq_false hl]
      rfl
  · rw [hbb]
    have : (List.range xs.length).all Fb = false := by
      cases q : (List.range xs.length).all Fb with
      | false => rfl
      | true =>
        have := List.all_eq_true.mp q i (List.mem_range.mpr (by omega))
        rw [hF] at this
        cases this
    rw [this, Bool.and_false]
theorem op_eqB (h : RcB X n D) (hr : Room n X.A) : OpR X (compareOp .Eq) (rEqB D) := by
  intro pins s σ H x y v u Q I rx ry hq
  obtain ⟨b, d, q⟩ := hq
  show wpAny (model X.prog X.w) X.A (richCompare .Eq v u) (EP X pins σ Q) X.xe s
  refine wpAny_mono (h X.A pins s σ H x y v u b ⟨hr, rfl⟩ I rx ry d) (fun r s' z => ?_) fun _ _ x => x
  obtain ⟨hr', H', I', e⟩ := z
  subst hr'
  exact ⟨.bl b, H', I', rfl, q H' e⟩
end
end L2
end

section
set_option Elab.async false
set_option linter.all false
set_option maxRecDepth 100000
set_option maxHeartbeats 2000000
/-! != of an instance whose class has an own __eq__ and no __ne__. -/
namespace PySem.W
open PySem PySem.Calls PyProof.Rows Builtin
section
variable {prog : Program} {w : World} {A : Around} {E : Value → Shared → Prop} {s : Shared} {K : Frag} {x C L f : Addr} {h₀ : Heap} {m : Str → Option Value} {ox : Obj} {od : Option Obj}
theorem ifBound_blt {M : Model} {name : Str} {id : String} {args : List Value} {Q : Option Value → Shared → Prop} (X : K.In s.heap) (I : InstAt s.heap x ox C od) (hs : findIn K (.ref C) name = some (some (.builtin id))) (hb : bindSpecial (.builtin id) (.ref x) = pure (.builtin id, [.ref x]))
    (h : wpAny M A (call (.builtin id) (.ref x :: args)) (fun v => Q (some v)) E s) : wpAny M A (callSpecialIfBound? (.ref x) name args) Q E s := by
  simp only [callSpecialIfBound?, bindSpecialIfBound?]
  refine wpAny_holding (wpAny_bind (wpAny_bind (wpAny_bind (I.type.here ((looks_findIn X hs).here ?_)))))
  simp only [hb]
  refine wpAny_bind (wpAny_askSetting (wpAny_ite ?_))
  have fin : wpAny M A (call (.builtin id) ([.ref x] ++ args) >>= fun v => pure (some v)) Q E s := wpAny_bind (wpAny_mono h (fun v s' h' => wpAny_pure h') fun _ _ h' => h')
  split
  · exact wpAny_bind (wpAny_pure (wpAny_pure (by exact fin)))
  · exact wpAny_tryCatch (wpAny_bind (wpAny_pure (wpAny_pure (by exact fin))))
theorem slot_ne : Slot "object" "__ne__" "object.__ne__" := PySem.F.cmp_object.ne
theorem objNe_K {Q : Fin → Shared → Prop} {b : Value} (hu : A.units < cLine) (X : K.In s.heap) (I : InstAt s.heap x ox C od) (hs : findIn K (.ref C) "__eq__" = some (some (.ref f))) (hf : isFn K (.ref f) = true)
    (h : wpAny (model prog w) A (call (.ref f) [.ref x, b]) (fun v s' => ∃ c, v = .bool c ∧ Q (.done (.ret (.bool (!c)))) s') E s) : wpAny (model prog w) A (Builtin.«object.__ne__» ⟨[.ref x, b], []⟩) Q E s := by
  unfold Builtin.«object.__ne__»
  repeat (first
    | with_reducible refine wpAny_cRoomFor hu ?_
    | (refine wpAny_bind (m := callSpecialIfBound? (.ref x) (Str.ofString "__eq__") [b])
        (ifBound_K X I hs hf (wpAny_mono h (fun r s' hr => by
          obtain ⟨c, rfl, hq⟩ := hr
          repeat (first | exact hq | exact wpAny_pure hq | exact wpAny_truthy_bool hq | (refine wpAny_bind (m := truthy (.bool _)) (wpAny_truthy_bool ?_)) | wp_step)) fun _ _ e => e)))
    | wp_step)
theorem ne_K {Q : Value → Shared → Prop} {b tb : Value} (hu : A.units + 1 < cLine) (F : Fr h₀ L s.heap m) (X₀ : K.In h₀) (I : InstAt s.heap x ox C od) (hb : Looks (model prog w) s.heap (typeOf b) tb) (hn : notFirst K C tb = true)
    (ho : mroIn K C (.type "object") = some true) (hne : findIn K (.ref C) "__ne__" = some (some (.builtin "object.__ne__")))
    (hs : findIn K (.ref C) "__eq__" = some (some (.ref f))) (hf : isFn K (.ref f) = true)
    (h : wpAny (model prog w) A.in1 (call (.ref f) [.ref x, b]) (fun v s' => ∃ c, v = .bool c ∧ Q (.bool (!c)) s') E s) : wpAny (model prog w) A (richCompare .NotEq (.ref x) b) Q E s := by
  have X := X₀.keeps F.keep
  have inst : Looks (model prog w) s.heap (isInstance (.ref x) (.type "object")) true := I.type.andThen (looks_mroIn X ho)
  have one : wpAny (model prog w) A (tryCompare (.ref x) (cmpInfo .NotEq).2.1 b) (fun r s' => ∃ v, r = some v ∧ Q v s') E s := by
    unfold tryCompare
    refine wpAny_bind (ifBound_blt X I hne (slot_ne.bind _) (wpAny_call (codeAny_call_builtin slot_ne.plain PySem.F.cmpEntry_ne (check_slot PySem.F.cmpKind_ne PySem.F.cmpSplit_ne inst (PySem.F.cmpArgs_ne _ _)
      (objNe_K (A := A.in1) hu X I hs hf (wpAny_mono h (fun v s' hv => ?_) fun _ _ e => e))))))
    obtain ⟨c, rfl, hq⟩ := hv
    exact ⟨c, rfl, wpAny_pure ⟨_, rfl, hq⟩⟩
  unfold richCompare
  simp only [oneThing_ref]
  refine wpAny_holding (wpAny_bind (wpAny_cRoomFor (Nat.lt_of_succ_lt hu) ?_))
  refine wpAny_bind (I.type.here (wpAny_bind (hb.here ?_)))
  split
  · rename_i q
    have e : subIn K tb (.ref C) = some false := by
      rcases Bool.or_eq_true_iff.mp hn with e | e
      · rw [beq_iff_eq.mp e] at q; simp at q
      · exact beq_iff_eq.mp e
    refine wpAny_bind ((looks_subIn X e).here ?_)
    simp only [Bool.false_eq_true, if_false]
    refine wpAny_bind (wpAny_mono one (fun r s' z => ?_) fun _ _ e => e)
    obtain ⟨v, rfl, hq⟩ := z
    exact wpAny_pure hq
  · refine wpAny_bind (wpAny_pure ?_)
    simp only [Bool.false_eq_true, if_false]
    refine wpAny_bind (wpAny_mono one (fun r s' z => ?_) fun _ _ e => e)
    obtain ⟨v, rfl, hq⟩ := z
    exact wpAny_pure hq
end
end PySem.W
namespace L2
open PySem PySem.Spec PyProof.Rows
/-- what != of such an instance wants: how the class comes by it -/
structure NeC (K : PySem.W.Frag) (C : Addr) : Prop where
  ob : PySem.W.mroIn K C (.type "object") = some true
  ne : PySem.W.findIn K (.ref C) "__ne__" = some (some (.builtin "object.__ne__"))
def NcB (X : Cx) (n : Nat) (D : EqvB) : Prop :=
  ∀ (A : Around) (pins : List (Addr × Obj)) (s : Shared) (σ : St) (H : Hp) (x y : V) (u v : Value) (b : Bool), Sub X n A → Inv X pins σ H s → RelV x u → RelV y v → D x y H b →
    wpAny (model X.prog X.w) A (richCompare .NotEq u v) (fun r s' => r = .bool (!b) ∧ ∃ H', Inv X pins σ H' s' ∧ Ext H H') X.xe s
section
variable {X : Cx} {n m : Nat} {D D' : EqvB}
theorem NcB.or (h : NcB X n D) (h' : NcB X n D') : NcB X n (fun x y H b => D x y H b ∨ D' x y H b) := fun A pins s σ H x y u v b sb I rx ry d => by
  rcases d with d | d
  · exact h A pins s σ H x y u v b sb I rx ry d
  · exact h' A pins s σ H x y u v b sb I rx ry d
theorem ncB_ins {CX : CXT} {C f : Addr} {fd : FuncData} {ps : List Str} {R : Addr → V → Hp → Bool → Prop} {E : XK} (F : FnOk X.prog X.w X.K X.mg X.base CX n f fd ps (spEqB R))
    (hs : PySem.W.findIn X.K (.ref C) "__eq__" = some (some (.ref f))) (hf : PySem.W.isFn X.K (.ref f) = true) (N : NeC X.K C) (hb : Binds X.K fd ps []) (hx : Passes CX X E) : NcB X (n + 1) (DInsB X.K C R) := by
  intro A pins s σ H x y u v b sb I rx ry d
  obtain ⟨a, dx, fs, t, rfl, ha, ty, nf, hr⟩ := d
  cases rx
  obtain ⟨mA, J, _⟩ := ins_get I.hok ha
  obtain ⟨od, J, _⟩ := J.look
  obtain ⟨m, hF⟩ := I.fr
  obtain ⟨P, Z, p, _⟩ := kit_of I ry ty
  have sb1 := sb.in1
  refine PySem.W.ne_K (tb := t) (by have := sb.room.un; omega) hF I.ok.mod.kin J (Z.ty _ _ I.kIn p) nf N.ob N.ne hs hf ?_
  have hsp : spEqB R [.ref a, y] H (fun v H' => v = .bl b ∧ Ext H H') E := ⟨a, y, b, rfl, hr, fun H' e => ⟨rfl, e⟩⟩
  have e0 : Env0 X.prog X.w X.K X.mg X.base A.in1 X.stack s H := by
    have e := I.env0
    exact ⟨by rw [sb1.fr]; exact e.frames, e.mod, e.bs, e.bsz, e.funs, e.frf, e.hok, e.bare⟩
  have hl := F.len _ _ _ _ hsp
  have r2 : Vals [V.ref a, y] [Value.ref a, v] := .cons rfl (.cons ry .nil)
  refine wpAny_call (codeAny_mono (F.run A.in1 X.stack s H ⟨[.ref a, v], []⟩ [.ref a, v] [.ref a, y] _ E sb1.room e0 (by
    have := hb s [.ref a, v] I.kIn (by simpa using hl)
    simpa using this) r2 hsp) fun r s' hq => ?_)
  cases r with
  | error e => exact hx pins σ H s e s' I hq
  | ok fl =>
    cases fl with
    | ret w =>
      obtain ⟨z, H', I', rz, ez, ex⟩ := I.after hq
      subst ez
      cases rz
      exact ⟨_, rfl, rfl, H', I', ex⟩
    | next => exact False.elim hq
    | brk => exact False.elim hq
    | cont => exact False.elim hq
def rNeB (D : EqvB) : R2 := fun x y H Q => ∃ b, D x y H b ∧ ∀ H', Ext H H' → Q (.bl (!b)) H'
theorem op_neB (h : NcB X n D) (hr : Room n X.A) : OpR X (compareOp .NotEq) (rNeB D) := by
  intro pins s σ H x y v u Q I rx ry hq
  obtain ⟨b, d, q⟩ := hq
  show wpAny (model X.prog X.w) X.A (richCompare .NotEq v u) (EP X pins σ Q) X.xe s
  refine wpAny_mono (h X.A pins s σ H x y v u b ⟨hr, rfl⟩ I rx ry d) (fun r s' z => ?_) fun _ _ x => x
  obtain ⟨hr', H', I', e⟩ := z
  subst hr'
  exact ⟨.bl (!b), H', I', rfl, q H' e⟩
end
end L2
end

section
set_option Elab.async false
set_option linter.all false
set_option maxRecDepth 100000
set_option maxHeartbeats 4000000
/-! == of items and bodies. -/
namespace Pn
open PySem PySem.Spec PyProof.Rows L2
mutual
def eqI : Itm → Itm → Bool
  | .say z, .say y => decide (V.str z = V.str y)
  | .press z, .press y => decide (V.str z = V.str y)
  | .go z, .go y => decide (V.str z = V.str y)
  | .times n is, .times m js => decide (V.int n = V.int m) && eqs is js
  | _, _ => false
def eqs : List Itm → List Itm → Bool
  | [], [] => true
  | i :: is, j :: js => eqI i j && eqs is js
  | _, _ => false
end
mutual
theorem eqI_iff : ∀ i j : Itm, eqI i j = true ↔ i = j
  | .say z, .say y => by simp [eqI]
  | .press z, .press y => by simp [eqI]
  | .go z, .go y => by simp [eqI]
  | .times n is, .times m js => by simp [eqI, eqs_iff is js]
  | .say _, .press _ => by simp [eqI]
  | .say _, .go _ => by simp [eqI]
  | .say _, .times _ _ => by simp [eqI]
  | .press _, .say _ => by simp [eqI]
  | .press _, .go _ => by simp [eqI]
  | .press _, .times _ _ => by simp [eqI]
  | .go _, .say _ => by simp [eqI]
  | .go _, .press _ => by simp [eqI]
  | .go _, .times _ _ => by simp [eqI]
  | .times _ _, .say _ => by simp [eqI]
  | .times _ _, .press _ => by simp [eqI]
  | .times _ _, .go _ => by simp [eqI]
theorem eqs_iff : ∀ is js : List Itm, eqs is js = true ↔ is = js
  | [], [] => by simp [eqs]
  | [], _ :: _ => by simp [eqs]
  | _ :: _, [] => by simp [eqs]
  | i :: is, j :: js => by simp [eqs, eqI_iff i j, eqs_iff is js]
end
/-- item by item -/
def eqAt (is js : List Itm) (k : Nat) : Bool := match is[k]?, js[k]? with
  | some i, some j => eqI i j
  | _, _ => false
theorem eqs_at : ∀ is js : List Itm, eqs is js = (decide (is.length = js.length) && (List.range is.length).all (eqAt is js)) := by
  intro is js
  rw [Bool.eq_iff_iff, eqs_iff, Bool.and_eq_true, decide_eq_true_iff, List.all_eq_true]
  refine ⟨fun e => ?_, fun ⟨h1, h2⟩ => ?_⟩
  · subst e
    refine ⟨rfl, fun k hk => ?_⟩
    have hk' := List.mem_range.mp hk
    unfold eqAt
    rw [List.getElem?_eq_getElem hk']
    exact (eqI_iff _ _).mpr rfl
  · refine List.ext_getElem h1 (fun k k1 k2 => ?_)
    have := h2 k (List.mem_range.mpr k1)
    unfold eqAt at this
    rw [List.getElem?_eq_getElem k1, List.getElem?_eq_getElem k2] at this
    exact (eqI_iff _ _).mp this
theorem Kept.ext' {H H' : Hp} (S : Ext H H') : Kept H H' := ⟨fun a C dx fs _ h => S _ _ h, fun a xs h => S _ _ h⟩
/-- items -/
def DI (c : Cs) (d : Nat) : EqvB := fun x y H b => ∃ i j, Io c H x i ∧ ItW d i ∧ Io c H y j ∧ b = eqI i j
theorem monDI {c : Cs} {d : Nat} : MonB (DI c d) := fun x y b H H' S h => by
  obtain ⟨i, j, h1, h2, h3, h4⟩ := h
  exact ⟨i, j, h1.keep (.ext' S), h2, h3.keep (.ext' S), h4⟩
def RS (c : Cs) : Addr → V → Hp → Bool → Prop := fun a y H b => ∃ dx z j, H a = some (.ins c.say dx [("command", .str z)]) ∧ Io c H y j ∧ b = eqI (.say z) j
def RP (c : Cs) : Addr → V → Hp → Bool → Prop := fun a y H b => ∃ dx z j, H a = some (.ins c.press dx [("key", .str z)]) ∧ Io c H y j ∧ b = eqI (.press z) j
def RG (c : Cs) : Addr → V → Hp → Bool → Prop := fun a y H b => ∃ dx z j, H a = some (.ins c.go dx [("mode", .str z)]) ∧ Io c H y j ∧ b = eqI (.go z) j
def RT (c : Cs) (d : Nat) : Addr → V → Hp → Bool → Prop := fun a y H b => ∃ n its j, Io c H (.ref a) (.times n its) ∧ ItsW d its ∧ Io c H y j ∧ b = eqI (.times n its) j
/-- a body and a body -/
def RB (c : Cs) (d : Nat) : Addr → V → Hp → Bool → Prop := fun a y H b => ∃ is js a', Bo c H a is ∧ ItsW d is ∧ y = .ref a' ∧ Bo c H a' js ∧ b = eqs is js
/-- a body and what is none -/
def RN (K : PySem.W.Frag) (c : Cs) : Addr → V → Hp → Bool → Prop := fun a y H b => ∃ is t, Bo c H a is ∧ TyX K H y t ∧ PySem.W.kitOne K t (.ref c.body) = some false ∧ b = false
structure EqM (K : PySem.W.Frag) (C f : Addr) : Prop where
  at_ : PySem.W.findIn K (.ref C) "__eq__" = some (some (.ref f))
  fn : PySem.W.isFn K (.ref f) = true
  ne : NeC K C
/-- the classes are five, none of them below another one -/
structure Ap (K : PySem.W.Frag) (c : Cs) : Prop where
  sp : c.say ≠ c.press
  sg : c.say ≠ c.go
  pg : c.press ≠ c.go
  nf : ∀ C, (C = c.say ∨ C = c.press ∨ C = c.go ∨ C = c.times ∨ C = c.body) → ∀ D, (D = c.say ∨ D = c.press ∨ D = c.go ∨ D = c.times ∨ D = c.body) → PySem.W.notFirst K C (.ref D) = true
  kb : PySem.W.kitOne K (.ref c.body) (.ref c.body) = some true
end Pn
namespace KP
open PySem PySem.Spec PyProof.Rows L2 Pn StX
abbrev sSayE : Stmt := inClass (top 30) 1
abbrev sPressE : Stmt := inClass (top 31) 1
abbrev sGoE : Stmt := inClass (top 32) 1
abbrev sTimesE : Stmt := inClass (top 33) 2
abbrev sBodyE : Stmt := inClass (top 34) 8
section
variable {P : Program} {w : World} {K : PySem.W.Frag} {mg : Str → Option Value} {base : Heap} {c : Cs}
theorem scSayE : FnScope ["self", "other"] ["self", "other"] (defScope sSayE) := ⟨rfl, rfl, rfl, by decide +kernel, rfl, by decide +kernel, by decide +kernel⟩
theorem scPressE : FnScope ["self", "other"] ["self", "other"] (defScope sPressE) := ⟨rfl, rfl, rfl, by decide +kernel, rfl, by decide +kernel, by decide +kernel⟩
theorem scGoE : FnScope ["self", "other"] ["self", "other"] (defScope sGoE) := ⟨rfl, rfl, rfl, by decide +kernel, rfl, by decide +kernel, by decide +kernel⟩
theorem scTimesE : FnScope ["self", "other"] ["self", "other"] (defScope sTimesE) := ⟨rfl, rfl, rfl, by decide +kernel, rfl, by decide +kernel, by decide +kernel⟩
theorem scBodyE : FnScope ["self", "other"] ["self", "other"] (defScope sBodyE) := ⟨rfl, rfl, rfl, by decide +kernel, rfl, by decide +kernel, by decide +kernel⟩
theorem kit_is (B : BodT K mg c) {C D : Addr} (h : C = c.say ∨ C = c.press ∨ C = c.go ∨ C = c.times) (g : D = c.say ∨ D = c.press ∨ D = c.go ∨ D = c.times) : PySem.W.kitOne K (.ref C) (.ref D) = some (decide (C = D)) :=
  B.kit C (by rcases h with h | h | h | h <;> simp [h]) D g
theorem ok_sayE {f : Addr} {fd : FuncData} (F : Fun K "__eq__" "Say.__eq__" sSayE f fd) (T1 : Blt mg) (B : BodT K mg c) (A' : Ap K c) : FnOk P w K mg base CX0 1 f fd ["self", "other"] (spEqB (RS c)) := by
  refine F.ok scSayE (fun vs H Q E h => ?_) (fun cdv A outer s H vs Q E hr h => ?_)
  · obtain ⟨a, y, b, rfl, _⟩ := h
    rfl
  · obtain ⟨a, y, b, rfl, ⟨dx, z, j, ha, hj, rfl⟩, q⟩ := h
    refine ⟨_, pss_one (ps_ret (pe_and (pe_callB call_isi (by rfl) T1.isi bIsi (pa_cons (pv 1) (pa_cons (pe_glob (v := .ref c.say) rfl B.gSay rfl) pa_nil))) (pe_one (pe_cmpR op_eq (pe_fld (pv 0) rfl) (pe_fld (pv 1) rfl) (nomark _))))), ?_⟩
    cases hj with
    | @say a' dx' z' h' => exact ⟨_, rfl, _, .ref c.say, _, _, true, rfl, .own _, B.say.tyx h', (kit_is B (.inl rfl) (.inl rfl)).trans (congrArg some (decide_eq_true rfl)), true, rfl, _, rfl, a, _, _, _, _, rfl, ha, B.say.cl, B.nSay, rfl, _, rfl, a', _, _, _, _, rfl, h', B.say.cl, B.nSay, rfl, rfl, q H Ext.rfl'⟩
    | @press a' dx' z' h' => exact ⟨_, rfl, _, .ref c.say, _, _, false, rfl, .own _, B.press.tyx h', (kit_is B (.inr (.inl rfl)) (.inl rfl)).trans (congrArg some (decide_eq_false (Ne.symm A'.sp))), false, rfl, q H Ext.rfl'⟩
    | @go a' dx' z' h' => exact ⟨_, rfl, _, .ref c.say, _, _, false, rfl, .own _, B.go.tyx h', (kit_is B (.inr (.inr (.inl rfl))) (.inl rfl)).trans (congrArg some (decide_eq_false (Ne.symm A'.sg))), false, rfl, q H Ext.rfl'⟩
    | @times a' dx' b' n' its' h' _ => exact ⟨_, rfl, _, .ref c.say, _, _, false, rfl, .own _, B.times.tyx h', (kit_is B (.inr (.inr (.inr rfl))) (.inl rfl)).trans (congrArg some (decide_eq_false (Ne.symm B.ne1))), false, rfl, q H Ext.rfl'⟩
theorem ok_pressE {f : Addr} {fd : FuncData} (F : Fun K "__eq__" "Press.__eq__" sPressE f fd) (T1 : Blt mg) (B : BodT K mg c) (A' : Ap K c) : FnOk P w K mg base CX0 1 f fd ["self", "other"] (spEqB (RP c)) := by
  refine F.ok scPressE (fun vs H Q E h => ?_) (fun cdv A outer s H vs Q E hr h => ?_)
  · obtain ⟨a, y, b, rfl, _⟩ := h
    rfl
  · obtain ⟨a, y, b, rfl, ⟨dx, z, j, ha, hj, rfl⟩, q⟩ := h
    refine ⟨_, pss_one (ps_ret (pe_and (pe_callB call_isi (by rfl) T1.isi bIsi (pa_cons (pv 1) (pa_cons (pe_glob (v := .ref c.press) rfl B.gPress rfl) pa_nil))) (pe_one (pe_cmpR op_eq (pe_fld (pv 0) rfl) (pe_fld (pv 1) rfl) (nomark _))))), ?_⟩
    cases hj with
    | @say a' dx' z' h' => exact ⟨_, rfl, _, .ref c.press, _, _, false, rfl, .own _, B.say.tyx h', (kit_is B (.inl rfl) (.inr (.inl rfl))).trans (congrArg some (decide_eq_false A'.sp)), false, rfl, q H Ext.rfl'⟩
    | @press a' dx' z' h' => exact ⟨_, rfl, _, .ref c.press, _, _, true, rfl, .own _, B.press.tyx h', (kit_is B (.inr (.inl rfl)) (.inr (.inl rfl))).trans (congrArg some (decide_eq_true rfl)), true, rfl, _, rfl, a, _, _, _, _, rfl, ha, B.press.cl, B.nPress, rfl, _, rfl, a', _, _, _, _, rfl, h', B.press.cl, B.nPress, rfl, rfl, q H Ext.rfl'⟩
    | @go a' dx' z' h' => exact ⟨_, rfl, _, .ref c.press, _, _, false, rfl, .own _, B.go.tyx h', (kit_is B (.inr (.inr (.inl rfl))) (.inr (.inl rfl))).trans (congrArg some (decide_eq_false (Ne.symm A'.pg))), false, rfl, q H Ext.rfl'⟩
    | @times a' dx' b' n' its' h' _ => exact ⟨_, rfl, _, .ref c.press, _, _, false, rfl, .own _, B.times.tyx h', (kit_is B (.inr (.inr (.inr rfl))) (.inr (.inl rfl))).trans (congrArg some (decide_eq_false (Ne.symm B.ne2))), false, rfl, q H Ext.rfl'⟩
theorem ok_goE {f : Addr} {fd : FuncData} (F : Fun K "__eq__" "Go.__eq__" sGoE f fd) (T1 : Blt mg) (B : BodT K mg c) (A' : Ap K c) : FnOk P w K mg base CX0 1 f fd ["self", "other"] (spEqB (RG c)) := by
  refine F.ok scGoE (fun vs H Q E h => ?_) (fun cdv A outer s H vs Q E hr h => ?_)
  · obtain ⟨a, y, b, rfl, _⟩ := h
    rfl
  · obtain ⟨a, y, b, rfl, ⟨dx, z, j, ha, hj, rfl⟩, q⟩ := h
    refine ⟨_, pss_one (ps_ret (pe_and (pe_callB call_isi (by rfl) T1.isi bIsi (pa_cons (pv 1) (pa_cons (pe_glob (v := .ref c.go) rfl B.gGo rfl) pa_nil))) (pe_one (pe_cmpR op_eq (pe_fld (pv 0) rfl) (pe_fld (pv 1) rfl) (nomark _))))), ?_⟩
    cases hj with
    | @say a' dx' z' h' => exact ⟨_, rfl, _, .ref c.go, _, _, false, rfl, .own _, B.say.tyx h', (kit_is B (.inl rfl) (.inr (.inr (.inl rfl)))).trans (congrArg some (decide_eq_false A'.sg)), false, rfl, q H Ext.rfl'⟩
    | @press a' dx' z' h' => exact ⟨_, rfl, _, .ref c.go, _, _, false, rfl, .own _, B.press.tyx h', (kit_is B (.inr (.inl rfl)) (.inr (.inr (.inl rfl)))).trans (congrArg some (decide_eq_false A'.pg)), false, rfl, q H Ext.rfl'⟩
    | @go a' dx' z' h' => exact ⟨_, rfl, _, .ref c.go, _, _, true, rfl, .own _, B.go.tyx h', (kit_is B (.inr (.inr (.inl rfl))) (.inr (.inr (.inl rfl)))).trans (congrArg some (decide_eq_true rfl)), true, rfl, _, rfl, a, _, _, _, _, rfl, ha, B.go.cl, B.nGo, rfl, _, rfl, a', _, _, _, _, rfl, h', B.go.cl, B.nGo, rfl, rfl, q H Ext.rfl'⟩
    | @times a' dx' b' n' its' h' _ => exact ⟨_, rfl, _, .ref c.go, _, _, false, rfl, .own _, B.times.tyx h', (kit_is B (.inr (.inr (.inr rfl))) (.inr (.inr (.inl rfl)))).trans (congrArg some (decide_eq_false (Ne.symm B.ne3))), false, rfl, q H Ext.rfl'⟩
/-- items of one depth, by the defs -/
structure EqF (P : Program) (w : World) (K : PySem.W.Frag) (mg : Str → Option Value) (base : Heap) (c : Cs) (fS fP fG fT fB : Addr) (dS dP dG dT dB : FuncData) : Prop where
  S : FnOk P w K mg base CX0 1 fS dS ["self", "other"] (spEqB (RS c))
  P' : FnOk P w K mg base CX0 1 fP dP ["self", "other"] (spEqB (RP c))
  G : FnOk P w K mg base CX0 1 fG dG ["self", "other"] (spEqB (RG c))
  bS : Binds K dS ["self", "other"] []
  bP : Binds K dP ["self", "other"] []
  bG : Binds K dG ["self", "other"] []
  bT : Binds K dT ["self", "other"] []
  bB : Binds K dB ["self", "other"] []
  mS : EqM K c.say fS
  mP : EqM K c.press fP
  mG : EqM K c.go fG
  mT : EqM K c.times fT
  mB : EqM K c.body fB
variable {fS fP fG fT fB : Addr} {dS dP dG dT dB : FuncData}
theorem rcB_item {X : Cx} (d : Nat) (M : EqF X.prog X.w X.K X.mg X.base c fS fP fG fT fB dS dP dG dT dB) (B : BodT X.K mg c) (A' : Ap X.K c) (GT : ∀ d', d = d' + 1 → FnOk X.prog X.w X.K X.mg X.base CX0 (3 * d' + 4) fT dT ["self", "other"] (spEqB (RT c d'))) : RcB X (3 * d + 1) (DI c d) := by
  intro A pins s σ H x y u v b sb I rx ry dd
  obtain ⟨i, j, hi, hw, hj, hb⟩ := dd
  obtain ⟨Cj, hC, ty⟩ := Io.ty B hj
  have h5 : Cj = c.say ∨ Cj = c.press ∨ Cj = c.go ∨ Cj = c.times ∨ Cj = c.body := by rcases hC with h | h | h | h <;> simp [h]
  cases hi with
  | say h => exact (rcB_ins (E := fun _ _ _ => False) M.S M.mS.at_ M.mS.fn M.bS pass0).mono (by omega) A pins s σ H _ y u v b sb I rx ry ⟨_, _, _, _, rfl, h, ty, A'.nf _ (.inl rfl) _ h5, _, _, j, h, hj, hb⟩
  | press h => exact (rcB_ins (E := fun _ _ _ => False) M.P' M.mP.at_ M.mP.fn M.bP pass0).mono (by omega) A pins s σ H _ y u v b sb I rx ry ⟨_, _, _, _, rfl, h, ty, A'.nf _ (.inr (.inl rfl)) _ h5, _, _, j, h, hj, hb⟩
  | go h => exact (rcB_ins (E := fun _ _ _ => False) M.G M.mG.at_ M.mG.fn M.bG pass0).mono (by omega) A pins s σ H _ y u v b sb I rx ry ⟨_, _, _, _, rfl, h, ty, A'.nf _ (.inr (.inr (.inl rfl))) _ h5, _, _, j, h, hj, hb⟩
  | times h hB =>
    cases hw with
    | @times d' _ _ n0 n1 l hw =>
      exact (rcB_ins (E := fun _ _ _ => False) (GT d' rfl) M.mT.at_ M.mT.fn M.bT pass0).mono (by omega) A pins s σ H _ y u v b sb I rx ry ⟨_, _, _, _, rfl, h, ty, A'.nf _ (.inr (.inr (.inr (.inl rfl)))) _ h5, _, _, j, .times h hB, hw, hj, hb⟩
theorem ncB_item {X : Cx} (d : Nat) (M : EqF X.prog X.w X.K X.mg X.base c fS fP fG fT fB dS dP dG dT dB) (B : BodT X.K mg c) (A' : Ap X.K c) (GT : ∀ d', d = d' + 1 → FnOk X.prog X.w X.K X.mg X.base CX0 (3 * d' + 4) fT dT ["self", "other"] (spEqB (RT c d'))) : NcB X (3 * d + 2) (DI c d) := by
  intro A pins s σ H x y u v b sb I rx ry dd
  obtain ⟨i, j, hi, hw, hj, hb⟩ := dd
  obtain ⟨Cj, hC, ty⟩ := Io.ty B hj
  have h5 : Cj = c.say ∨ Cj = c.press ∨ Cj = c.go ∨ Cj = c.times ∨ Cj = c.body := by rcases hC with h | h | h | h <;> simp [h]
  cases hi with
  | say h => exact ncB_ins (E := fun _ _ _ => False) M.S M.mS.at_ M.mS.fn M.mS.ne M.bS pass0 A pins s σ H _ y u v b (sb.mono (by omega)) I rx ry ⟨_, _, _, _, rfl, h, ty, A'.nf _ (.inl rfl) _ h5, _, _, j, h, hj, hb⟩
  | press h => exact ncB_ins (E := fun _ _ _ => False) M.P' M.mP.at_ M.mP.fn M.mP.ne M.bP pass0 A pins s σ H _ y u v b (sb.mono (by omega)) I rx ry ⟨_, _, _, _, rfl, h, ty, A'.nf _ (.inr (.inl rfl)) _ h5, _, _, j, h, hj, hb⟩
  | go h => exact ncB_ins (E := fun _ _ _ => False) M.G M.mG.at_ M.mG.fn M.mG.ne M.bG pass0 A pins s σ H _ y u v b (sb.mono (by omega)) I rx ry ⟨_, _, _, _, rfl, h, ty, A'.nf _ (.inr (.inr (.inl rfl))) _ h5, _, _, j, h, hj, hb⟩
  | times h hB =>
    cases hw with
    | @times d' _ _ n0 n1 l hw =>
      exact ncB_ins (E := fun _ _ _ => False) (GT d' rfl) M.mT.at_ M.mT.fn M.mT.ne M.bT pass0 A pins s σ H _ y u v b (sb.mono (by omega)) I rx ry ⟨_, _, _, _, rfl, h, ty, A'.nf _ (.inr (.inr (.inr (.inl rfl)))) _ h5, _, _, j, .times h hB, hw, hj, hb⟩
theorem di_ref {d : Nat} : ∀ x y H b, DI c d x y H b → ∃ a b', x = .ref a ∧ y = .ref b' := fun x y H b h => by
  obtain ⟨i, j, h1, _, h3, _⟩ := h
  have r : ∀ {v i}, Io c H v i → ∃ a, v = .ref a := fun h => by cases h <;> exact ⟨_, rfl⟩
  obtain ⟨a, e⟩ := r h1
  obtain ⟨a', e'⟩ := r h3
  exact ⟨a, a', e, e'⟩
mutual
theorem io_det {H : Hp} (B : BodT K mg c) (A' : Ap K c) : ∀ {v : V} {i j : Itm}, Io c H v i → Io c H v j → i = j
  | _, _, _, .say h, g => by
    cases g with
    | say g => rw [h] at g; injection g with g; injection g with _ _ g; injection g with g _; injection g with _ g; injection g with g; rw [g]
    | press g => rw [h] at g; injection g with g; injection g with g; exact absurd g A'.sp
    | go g => rw [h] at g; injection g with g; injection g with g; exact absurd g A'.sg
    | times g _ => rw [h] at g; injection g with g; injection g with g; exact absurd g B.ne1
  | _, _, _, .press h, g => by
    cases g with
    | say g => rw [h] at g; injection g with g; injection g with g; exact absurd g.symm A'.sp
    | press g => rw [h] at g; injection g with g; injection g with _ _ g; injection g with g _; injection g with _ g; injection g with g; rw [g]
    | go g => rw [h] at g; injection g with g; injection g with g; exact absurd g A'.pg
    | times g _ => rw [h] at g; injection g with g; injection g with g; exact absurd g B.ne2
  | _, _, _, .go h, g => by
    cases g with
    | say g => rw [h] at g; injection g with g; injection g with g; exact absurd g.symm A'.sg
    | press g => rw [h] at g; injection g with g; injection g with g; exact absurd g.symm A'.pg
    | go g => rw [h] at g; injection g with g; injection g with _ _ g; injection g with g _; injection g with _ g; injection g with g; rw [g]
    | times g _ => rw [h] at g; injection g with g; injection g with g; exact absurd g B.ne3
  | _, _, _, .times h hb, g => by
    cases g with
    | say g => rw [h] at g; injection g with g; injection g with g; exact absurd g.symm B.ne1
    | press g => rw [h] at g; injection g with g; injection g with g; exact absurd g.symm B.ne2
    | go g => rw [h] at g; injection g with g; injection g with g; exact absurd g.symm B.ne3
    | times g gb =>
      rw [h] at g
      injection g with g
      injection g with _ _ g
      unfold fTimes at g
      injection g with g1 g2
      injection g2 with g2 _
      injection g1 with _ g1
      injection g1 with g1
      injection g2 with _ g2
      injection g2 with g2
      subst g1
      subst g2
      rw [bo_det B A' hb gb]
theorem bo_det {H : Hp} (B : BodT K mg c) (A' : Ap K c) : ∀ {b : Addr} {is js : List Itm}, Bo c H b is → Bo c H b js → is = js
  | _, _, _, .mk h e r, g => by
    cases g with
    | mk g e' r' =>
      rw [h] at g
      injection g with g
      injection g with _ _ g
      unfold fBody at g
      injection g with g1 _
      injection g1 with _ g1
      injection g1 with g1
      subst g1
      rw [e] at e'
      injection e' with e'
      injection e' with e'
      subst e'
      exact ios_det B A' r r'
theorem ios_det {H : Hp} (B : BodT K mg c) (A' : Ap K c) : ∀ {vs : List V} {is js : List Itm}, Ios c H vs is → Ios c H vs js → is = js
  | _, _, _, .nil, g => by cases g; rfl
  | _, _, _, .cons h1 h2, g => by
    cases g with
    | cons g1 g2 => rw [io_det B A' h1 g1, ios_det B A' h2 g2]
end
theorem di_refl {d : Nat} (B : BodT K mg c) (A' : Ap K c) : ∀ x H b, DI c d x x H b → b = true := fun x H b h => by
  obtain ⟨i, j, h1, _, h3, rfl⟩ := h
  exact (eqI_iff _ _).mpr (io_det B A' h1 h3)
theorem dtup {d : Nat} {H : Hp} {e e' : Addr} {vs vs' : List V} {is js : List Itm} (he : H e = some (.tup vs)) (he' : H e' = some (.tup vs')) (hI : Ios c H vs is) (hw : ItsW d is) (hJ : Ios c H vs' js) : DTupB K (DI c d) (.ref e) (.ref e') H (eqs is js) := by
  refine ⟨e, e', vs, vs', eqAt is js, rfl, rfl, SqT.of he, SqT.of he', fun k u v hu hv => ?_, by rw [hI.len, hJ.len]; exact eqs_at is js⟩
  obtain ⟨i, h1, h2⟩ := hI.get hu
  obtain ⟨j, h3, h4⟩ := hJ.get hv
  refine ⟨i, j, h2, hw.get h1, h4, ?_⟩
  unfold eqAt
  rw [h1, h3]
theorem ok_bodyE (d : Nat) {f : Addr} {fd : FuncData} (F : Fun K "__eq__" "Body.__eq__" sBodyE f fd) (T1 : Blt mg) (M : EqF P w K mg base c fS fP fG fT fB dS dP dG dT dB) (B : BodT K mg c) (A' : Ap K c) (GT : ∀ d', d = d' + 1 → FnOk P w K mg base CX0 (3 * d' + 4) fT dT ["self", "other"] (spEqB (RT c d'))) :
    FnOk P w K mg base CX0 (3 * d + 3) f fd ["self", "other"] (spEqB fun a y H b => RB c d a y H b ∨ RN K c a y H b) := by
  refine F.ok scBodyE (fun vs H Q E h => ?_) (fun cdv A outer s H vs Q E hr h => ?_)
  · obtain ⟨a, y, b, rfl, _⟩ := h
    rfl
  · obtain ⟨a, y, b, rfl, hR, q⟩ := h
    refine ⟨_, pss_one (ps_ret (pe_and (pe_callB call_isi (by rfl) T1.isi bIsi (pa_cons (pv 1) (pa_cons (pe_glob (v := .ref c.body) rfl B.gBody rfl) pa_nil))) (pe_one (pe_cmpR (op_eqB (rcB_tup monDI ((rcB_item d M B A' GT).eqB di_ref (di_refl B A'))) hr) (pe_fld (pv 0) rfl) (pe_fld (pv 1) rfl) (nomark _))))), ?_⟩
    rcases hR with ⟨is, js, a', hB, hw, rfl, hB', rfl⟩ | ⟨is, t, hB, ty, kt, rfl⟩
    · cases hB with
      | mk h1 h2 h3 => cases hB' with
        | mk g1 g2 g3 =>
          exact ⟨_, rfl, _, .ref c.body, _, _, true, rfl, .own _, B.body.tyx g1, A'.kb, true, rfl, _, rfl, a, _, _, _, _, rfl, h1, B.body.cl, B.nEnt, rfl, _, rfl, a', _, _, _, _, rfl, g1, B.body.cl, B.nEnt, rfl, _, dtup h2 g2 h3 hw g3, q⟩
    · exact ⟨_, rfl, _, .ref c.body, _, _, false, rfl, .own _, ty, kt, false, rfl, q H Ext.rfl'⟩
theorem ok_timesE (d : Nat) {f : Addr} {fd : FuncData} (F : Fun K "__eq__" "Times.__eq__" sTimesE f fd) (T1 : Blt mg) (M : EqF P w K mg base c fS fP fG fT fB dS dP dG dT dB) (B : BodT K mg c) (A' : Ap K c) (GB : FnOk P w K mg base CX0 (3 * d + 3) fB dB ["self", "other"] (spEqB fun a y H b => RB c d a y H b ∨ RN K c a y H b)) :
    FnOk P w K mg base CX0 (3 * d + 4) f fd ["self", "other"] (spEqB (RT c d)) := by
  refine F.ok scTimesE (fun vs H Q E h => ?_) (fun cdv A outer s H vs Q E hr h => ?_)
  · obtain ⟨a, y, b, rfl, _⟩ := h
    rfl
  · obtain ⟨a, y, b, rfl, ⟨n, its, j, hi, hw, hj, rfl⟩, q⟩ := h
    refine ⟨_, pss_one (ps_ret (pe_and (pe_callB call_isi (by rfl) T1.isi bIsi (pa_cons (pv 1) (pa_cons (pe_glob (v := .ref c.times) rfl B.gTimes rfl) pa_nil))) (pe_and (pe_cmpR op_eq (pe_fld (pv 0) rfl) (pe_fld (pv 1) rfl) (nomark _)) (pe_one (pe_cmpR (op_eqB (rcB_ins (E := fun _ _ _ => False) GB M.mB.at_ M.mB.fn M.bB pass0) hr) (pe_fld (pv 0) rfl) (pe_fld (pv 1) rfl) (nomark _)))))), ?_⟩
    cases hi with
    | times ha hB =>
      cases hj with
      | @say a' dx' z' h' => exact ⟨_, rfl, _, .ref c.times, _, _, false, rfl, .own _, B.say.tyx h', (kit_is B (.inl rfl) (.inr (.inr (.inr rfl)))).trans (congrArg some (decide_eq_false B.ne1)), false, rfl, q H Ext.rfl'⟩
      | @press a' dx' z' h' => exact ⟨_, rfl, _, .ref c.times, _, _, false, rfl, .own _, B.press.tyx h', (kit_is B (.inr (.inl rfl)) (.inr (.inr (.inr rfl)))).trans (congrArg some (decide_eq_false B.ne2)), false, rfl, q H Ext.rfl'⟩
      | @go a' dx' z' h' => exact ⟨_, rfl, _, .ref c.times, _, _, false, rfl, .own _, B.go.tyx h', (kit_is B (.inr (.inr (.inl rfl))) (.inr (.inr (.inr rfl)))).trans (congrArg some (decide_eq_false B.ne3)), false, rfl, q H Ext.rfl'⟩
      | @times a' dx' b' n' its' h' hB' =>
        refine ⟨_, rfl, _, .ref c.times, _, _, true, rfl, .own _, B.times.tyx h', (kit_is B (.inr (.inr (.inr rfl))) (.inr (.inr (.inr rfl)))).trans (congrArg some (decide_eq_true rfl)), true, rfl, _, rfl, a, _, _, _, _, rfl, ha, B.times.cl, B.nNum, rfl, _, rfl, a', _, _, _, _, rfl, h', B.times.cl, B.nNum, rfl, rfl, decide (V.int n = V.int n'), rfl, ?_⟩
        have e : eqI (.times n its) (.times n' its') = (decide (V.int n = V.int n') && eqs its its') := by rw [eqI]
        rw [e] at q
        cases hn : decide (V.int n = V.int n') with
        | false =>
          rw [hn] at q
          exact iteF (q H Ext.rfl')
        | true =>
          rw [hn, Bool.true_and] at q
          have hBx := hB
          have hBy := hB'
          cases hBx with
          | mk h1 _ _ => cases hBy with
            | mk g1 _ _ =>
              exact iteT ⟨_, rfl, a, _, _, _, _, rfl, ha, B.times.cl, B.nBod, rfl, _, rfl, a', _, _, _, _, rfl, h', B.times.cl, B.nBod, rfl, _, ⟨_, _, _, _, rfl, h1, B.body.tyx g1, A'.nf _ (.inr (.inr (.inr (.inr rfl)))) _ (.inr (.inr (.inr (.inr rfl)))), .inl ⟨_, _, _, hB, hw, rfl, hB', rfl⟩⟩, q⟩
end
end KP
end

section
set_option Elab.async false
set_option linter.all false
set_option maxRecDepth 100000
set_option maxHeartbeats 4000000
namespace KP
open PySem PySem.Spec PyProof.Rows L2 Pn TL StX
abbrev sItemOf : Stmt := top 37
abbrev sItemsOf : Stmt := top 38
abbrev sBodyR : Stmt := inClass (top 34) 2
theorem cut_first {x z : PySem.Str} {d : Nat} (h : tl x = d :: tl z) : cutS x (some 1) none = z := by
  have n : x.length = (tl z).length + 1 := by rw [len_tl, h]; rfl
  refine ext_tl ?_
  unfold cutS
  rw [show HT.sIx x.length 0 (some 1) = 1 by unfold HT.sIx; simp; omega, HT.sIx_none]
  show ((tl x).drop 1).take (x.length - 1) = tl z
  rw [h, n]
  show (tl z).take _ = _
  exact List.take_of_length_le (by omega)
theorem cut_last {x y : PySem.Str} {d : Nat} (h : tl x = tl y ++ [d]) : cutS x none (some (-1)) = y := by
  have n : x.length = (tl y).length + 1 := by rw [len_tl, h]; simp
  refine ext_tl ?_
  unfold cutS
  rw [show HT.sIx x.length x.length (some (-1)) = (tl y).length by show (if (-1 : Int) < 0 then (-1 + (x.length : Int)).toNat else min ((-1 : Int).toNat) x.length) = _; rw [if_pos (by decide)]; omega, HT.sIx_none]
  show ((tl x).drop 0).take ((tl y).length - 0) = tl y
  rw [h]
  simp
theorem mk_glob {X : Cx} {CX : CXT} {k : Nat} {f C : Addr} {sp : Sp} {E : XK} {x : Str} {e : Expr} {es : List Expr} {t : TA} {p pos : Pos} (M : Mk X.K C f) (F : FnR X.prog X.w X.K X.mg X.base CX k f sp) (hr : Room (k + 1) X.A) (hg : Gl X x) (hm : X.mg x = some (.ref C)) (hx : Passes CX X E) (ha : PA X (e :: es) t) (hd : (x == ("__debug__" : Str)) = false := by decide)
    (he : starEach (e :: es) X.env = (false, eval e X.env) :: starEach es X.env := by rfl) (hst : (backTo pos (starEach es X.env)).any (·.1) = true := by rfl) : PE X (.Call (.Name x p) (e :: es) [] pos) (tMakeR C sp E t) := by
  refine ⟨fun pins s σ H Q I h => ?_⟩
  refine wpAny_Call_Name_kw (ld_glob I hg hm ?_ hd)
  refine PySem.W.callWith_S2 (h₀ := X.base) I.ok.mod.kin M.kp (thn (ha.run pos pins s σ _ _ I h) fun us s1 ⟨vs, H1, I1, r, q⟩ => ⟨I1.kIn, ?_⟩) he hst
  exact run_makeR M F hr hx I1 r q
theorem same_ins {H : Hp} {x dx : Addr} {o u : HO} (nx : H x = none) (ndx : H dx = none) : Same H (upd (upd H dx o) x u) := fun q w h => by
  rw [upd_ne (ne_of_none h nx), upd_ne (ne_of_none h ndx)]
  exact h
/-- an item of one word is made -/
theorem mk_one {K : PySem.W.Frag} {C : Nat → Addr} {cls : Addr} {fn z : PySem.Str} {H : Hp} {x dx : Addr} {Qh : Hp → Prop} {E : XK} (hw : Wd z) (nx : H x = none) (ndx : H dx = none) (k : ∀ H', Same H H' → H' x = some (.ins cls dx [(fn, .str z)]) → Qh H') :
    spOneI K C cls fn [.ref x, .str z] (upd (upd H dx (.own x)) x (.ins cls dx [])) (fun v H2 => v = .non ∧ Qh H2) E := by
  refine ⟨H, x, dx, .str z, .str z, rfl, same_ins nx ndx, nx, upd_same, Kd.str z, fun y e => ?_, fun e => ?_, fun y H' e hw' S' hx' => ?_⟩
  · cases e
    have := wd_len hw
    omega
  · have h1 : wdB z = true := (wdB_iff z).mpr hw
    have e' : wdB z = false := e
    rw [h1] at e'
    cases e'
  · cases e
    exact ⟨rfl, k H' S' hx'⟩
theorem map_some_inj {its its' : List Itm} (e : its.map some = its'.map some) : its' = its := by
  have := congrArg goods e
  rw [goods_map, goods_map] at this
  exact this.symm
/-- a Times is made -/
theorem mk_times {K : PySem.W.Frag} {c : Cs} {C : Nat → Addr} {H : Hp} {x dx : Addr} {n : Int} {xs : List V} {its : List Itm} {Qh : Hp → Prop} {E : XK} (n0 : 0 ≤ n) (n1 : n ≤ 1000000000) (hI : Ios c H xs its) (hw : ItsW 2 its) (h6 : its.length ≤ 6) (hd : dIs its ≤ 1) (nx : H x = none) (ndx : H dx = none)
    (k : ∀ H', Same H H' → Io c H' (.ref x) (.times n its) → Qh H') :
    spTimesI K c C (.ref x :: .int n :: xs) (upd (upd H dx (.own x)) x (.ins c.times dx [])) (fun v H2 => v = .non ∧ Qh H2) E := by
  have wn : withinD 0 1000000000 (.int n) = true := by
    show (decide (0 ≤ n) && decide (n ≤ 1000000000)) = true
    rw [decide_eq_true n0, decide_eq_true n1]
    rfl
  have hc : chk (its.map some) 1 = none := chk_ok h6 (by omega)
  have hl := hI.len
  refine ⟨H, x, dx, .int n, .int n, xs, its.map some, rfl, same_ins nx ndx, nx, upd_same, Kd.int n, Ents.ofIos hI hw, by omega, fun e => ?_, fun _ j y e => ?_, fun _ _ n' its' H' en eo hw' S' hB => ⟨rfl, ?_⟩⟩
  · rw [wn] at e; cases e
  · rw [hc] at e; cases e
  · cases en
    have := map_some_inj eo
    subst this
    exact k H' S' hB
/-- a Body is made -/
theorem mk_body {K : PySem.W.Frag} {c : Cs} {C : Nat → Addr} {H : Hp} {x dx : Addr} {xs : List V} {its : List Itm} {Qh : Hp → Prop} {E : XK} (hI : Ios c H xs its) (hw : ItsW 2 its) (h6 : its.length ≤ 6) (nx : H x = none) (ndx : H dx = none)
    (k : ∀ H', Same H H' → Bo c H' x its → Qh H') :
    spBodyI K c C (.ref x :: xs) (upd (upd H dx (.own x)) x (.ins c.body dx [])) (fun v H2 => v = .non ∧ Qh H2) E := by
  have hc : chk (its.map some) 2 = none := chk_ok h6 (by have := hw.dIs; omega)
  have hl := hI.len
  refine ⟨H, x, dx, xs, its.map some, rfl, same_ins nx ndx, nx, upd_same, Ents.ofIos hI hw, by omega, fun j y e => ?_, fun _ its' H' eo hw' h6' S' hB => ⟨rfl, ?_⟩⟩
  · rw [hc] at e; cases e
  · have := map_some_inj eo
    subst this
    exact k H' S' hB
def spItemOf (c : Cs) : Sp := fun vs H Q _ => ∃ i : Itm, vs = [.str (txI i)] ∧ Plain i ∧ ItW 0 i ∧ ∀ u H', Same H H' → Io c H' u i → Q u H'
section
variable {P : Program} {w : World} {K : PySem.W.Frag} {mg : Str → Option Value} {base : Heap} {fD pD fO fC tS tP tG tT tB fa iS iP iG iT iB fW fN fH : Addr} {fdD fdO fdC dS dP dG dT dB eS eP eG eT eB fdW fdN fdH : FuncData} {c : Cs} {C : Nat → Addr}
theorem scItemOf : FnScope ["token"] ["token"] (defScope sItemOf) := ⟨rfl, rfl, rfl, by decide +kernel, rfl, by decide +kernel, by decide +kernel⟩
theorem ok_itemOf {f : Addr} {fd : FuncData} (F : Fun K "item_of" "item_of" sItemOf f fd) (T1 : Blt mg) (U : Blt2 mg) (B : BodT K mg c) (R : ErrT K mg C tclass) (Y : InsT K mg c iS iP iG iT iB fW fN fH eS eP eG eT eB fdW fdN fdH) :
    FnOk P w K mg base CX0 4 f fd ["token"] (spItemOf c) := by
  have GS : FnOk P w K mg base (L2.CX P w) 2 iS eS ["self", "command"] (spOneI K C c.say "command") := ok_sayI Y.say T1 U Y.FW Y.bW Y.gW B R
  have GP : FnOk P w K mg base (L2.CX P w) 2 iP eP ["self", "key"] (spOneI K C c.press "key") := ok_pressI Y.press T1 U Y.FW Y.bW Y.gW B R
  have GG : FnOk P w K mg base (L2.CX P w) 2 iG eG ["self", "mode"] (spOneI K C c.go "mode") := ok_goI Y.go T1 U Y.FW Y.bW Y.gW B R
  refine F.ok scItemOf (fun vs H Q E h => ?_) (fun cdv A outer s H vs Q E hr h => ?_)
  · obtain ⟨i, rfl, _⟩ := h
    rfl
  · obtain ⟨i, rfl, hp, hw, q⟩ := h
    have hr3 : Room 3 _ := hr
    refine ⟨_, pss_cons (ps_if (pt_cmpR op_eq (pe_ix ix_str (pv 0) pe_int (fun _ _ => rfl)) pe_str (nomark _)) (pss_one (ps_ret (pe_make Y.mS GS hr3 rfl B.gSay Y.bS .nil passF (pa_cons (pe_slice sl_str (pv 0) (po_some pe_int) po_none) pa_nil)))) pss_nil)
      (pss_cons (ps_if (pt_cmpR op_eq (pe_ix ix_str (pv 0) pe_int (fun _ _ => rfl)) pe_str (nomark _)) (pss_one (ps_ret (pe_make Y.mG GG hr3 rfl B.gGo Y.bG .nil passF (pa_cons (pe_slice sl_str (pv 0) (po_some pe_int) po_none) pa_nil)))) pss_nil)
      (pss_one (ps_ret (pe_make Y.mP GP hr3 rfl B.gPress Y.bP .nil passF (pa_cons (pv 0) pa_nil))))), ?_⟩
    have m8 : sizeLine = 16777216 := rfl
    cases hw with
    | @say _ z hz =>
      have e : tl (txI (.say z)) = 33 :: tl z := by rw [tl_txI (ItW.say (d := 0) hz), lI]
      have hl : (txI (.say z)).length ≤ sizeLine := by have := wd_len hz; rw [len_tl, e, List.length_cons, ← len_tl]; omega
      refine ⟨_, rfl, _, 0, 33, rfl, rfl, hl, by rw [show (txI (.say z)).cps.toList = tl (txI (.say z)) from rfl, e]; exact atI_nat rfl, rfl, _, rfl, ?_⟩
      rw [sgn1 33 33 "!" tl_bang]
      refine iteT ⟨_, rfl, _, rfl, _, rfl, hl, ?_⟩
      rw [cut_first e]
      exact fun x dx nx ndx ne => mk_one hz nx ndx (fun H' S' hx => q _ H' S' (.say hx))
    | @press _ z hz =>
      have e : tl (txI (.press z)) = tl z := by rw [tl_txI (ItW.press (d := 0) hz), lI]
      have hl : (txI (.press z)).length ≤ sizeLine := by have := wd_len hz; rw [len_tl, e, ← len_tl]; omega
      obtain ⟨d, r, er, hd1, hd2⟩ : ∃ d r, tl z = d :: r ∧ 97 ≤ d ∧ d ≤ 122 := by
        cases e2 : tl z with
        | nil => exact absurd e2 (wd_ne hz)
        | cons d r => exact ⟨d, r, rfl, hz.2.2 d (by rw [show z.cps.toList = tl z from rfl, e2]; exact List.mem_cons_self ..)⟩
      have ea : atI (txI (.press z)).cps.toList 0 = some d := by
        rw [show (txI (.press z)).cps.toList = tl (txI (.press z)) from rfl, e, er]; exact atI_nat rfl
      refine ⟨_, rfl, _, 0, d, rfl, rfl, hl, ea, rfl, _, rfl, ?_⟩
      rw [sgn1 d 33 "!" tl_bang, decide_eq_false (by omega)]
      refine iteF ⟨_, rfl, _, 0, d, rfl, rfl, hl, ea, rfl, _, rfl, ?_⟩
      rw [sgn1 d 64 "@" tl_at, decide_eq_false (by omega)]
      refine iteF ⟨_, rfl, ?_⟩
      rw [show txI (.press z) = z by rw [txI]]
      exact fun x dx nx ndx ne => mk_one hz nx ndx (fun H' S' hx => q _ H' S' (.press hx))
    | @go _ z hz =>
      have e : tl (txI (.go z)) = 64 :: tl z := by rw [tl_txI (ItW.go (d := 0) hz), lI]
      have hl : (txI (.go z)).length ≤ sizeLine := by have := wd_len hz; rw [len_tl, e, List.length_cons, ← len_tl]; omega
      have ea : atI (txI (.go z)).cps.toList 0 = some 64 := by
        rw [show (txI (.go z)).cps.toList = tl (txI (.go z)) from rfl, e]; exact atI_nat rfl
      refine ⟨_, rfl, _, 0, 64, rfl, rfl, hl, ea, rfl, _, rfl, ?_⟩
      rw [sgn1 64 33 "!" tl_bang, decide_eq_false (by omega)]
      refine iteF ⟨_, rfl, _, 0, 64, rfl, rfl, hl, ea, rfl, _, rfl, ?_⟩
      rw [sgn1 64 64 "@" tl_at]
      refine iteT ⟨_, rfl, _, rfl, _, rfl, hl, ?_⟩
      rw [cut_first e]
      exact fun x dx nx ndx ne => mk_one hz nx ndx (fun H' S' hx => q _ H' S' (.go hx))
end
end KP
end

section
set_option Elab.async false
set_option linter.all false
set_option maxRecDepth 100000
set_option maxHeartbeats 4000000
namespace KP
open PySem PySem.Spec PyProof.Rows L2 Pn TL StX
/-- the frames of the parentheses that are open, the last one first -/
inductive Frs (c : Cs) (H : Hp) : List Addr → List V → List (Int × List Itm) → Prop
  | nil : Frs c H [] [] []
  | cons {t b : Addr} {ws : List V} {n : Int} {bf : List Itm} {bs : List Addr} {fr : List V} {st : List (Int × List Itm)} : H t = some (.tup [.int n, .ref b]) → H b = some (.lst ws) → Ios c H ws bf → Frs c H bs fr st → Frs c H (b :: bs) (.ref t :: fr) ((n, bf) :: st)
theorem Frs.keep {c : Cs} {H H' : Hp} (k : Kept H H') : ∀ {bs : List Addr} {fr : List V} {st : List (Int × List Itm)}, (∀ b ∈ bs, H' b = H b) → Frs c H bs fr st → Frs c H' bs fr st
  | _, _, _, _, .nil => .nil
  | _, _, _, hb, .cons h1 h2 h3 h4 => .cons (k.tup _ _ h1) ((hb _ (List.mem_cons_self ..)).trans h2) (h3.keep k) (Frs.keep k (fun b m => hb b (List.mem_cons_of_mem _ m)) h4)
theorem Frs.len {c : Cs} {H : Hp} : ∀ {bs : List Addr} {fr : List V} {st : List (Int × List Itm)}, Frs c H bs fr st → fr.length = st.length
  | _, _, _, .nil => rfl
  | _, _, _, .cons _ _ _ h => by rw [List.length_cons, List.length_cons, h.len]
theorem Frs.lsts {c : Cs} {H : Hp} : ∀ {bs : List Addr} {fr : List V} {st : List (Int × List Itm)}, Frs c H bs fr st → ∀ b ∈ bs, ∃ ws, H b = some (.lst ws)
  | _, _, _, .nil, b, m => by cases m
  | _, _, _, .cons _ h2 _ h, b, m => by
    rcases List.mem_cons.mp m with rfl | m
    · exact ⟨_, h2⟩
    · exact h.lsts b m
/-- a list may change -/
theorem Kept.lst {H : Hp} {p : Addr} {vs : List V} {o : HO} (hp : H p = some (.lst vs)) : Kept H (upd H p o) :=
  ⟨fun a C dx fs _ h => by rw [upd_ne (ne_of h hp (by intro z; cases z))]; exact h, fun a xs h => by rw [upd_ne (ne_of h hp (by intro z; cases z))]; exact h⟩
theorem same_mod {H Hk : Hp} {p : Addr} {o : HO} (S : Same H Hk) (n : H p = none) : Same H (upd Hk p o) := fun b u e => by
  rw [upd_ne (ne_of_none e n)]
  exact S _ _ e
theorem wd_last {z : PySem.Str} (h : Wd z) : ∃ a d, tl z = a ++ [d] ∧ 97 ≤ d ∧ d ≤ 122 := by
  rcases List.eq_nil_or_concat (tl z) with e | ⟨a, d, e⟩
  · exact absurd e (wd_ne h)
  · rw [List.concat_eq_append] at e
    exact ⟨a, d, e, h.2.2 d (by rw [show z.cps.toList = tl z from rfl, e]; simp)⟩
theorem plain_last : ∀ {i : Itm}, Plain i → ItW 0 i → (txI i).length ≤ 9 ∧ ∃ a d, tl (txI i) = a ++ [d] ∧ 97 ≤ d ∧ d ≤ 122
  | .say z, _, .say h => by
    obtain ⟨a, d, e, r⟩ := wd_last h
    have q : tl (txI (.say z)) = 33 :: tl z := by rw [tl_txI (ItW.say (d := 0) h), lI]
    refine ⟨by have := wd_len h; rw [len_tl, q, List.length_cons, ← len_tl]; omega, 33 :: a, d, ?_, r⟩
    rw [q, e]; rfl
  | .press z, _, .press h => by
    obtain ⟨a, d, e, r⟩ := wd_last h
    have q : tl (txI (.press z)) = tl z := by rw [tl_txI (ItW.press (d := 0) h), lI]
    refine ⟨by have := wd_len h; rw [len_tl, q, ← len_tl]; omega, a, d, ?_, r⟩
    rw [q, e]
  | .go z, _, .go h => by
    obtain ⟨a, d, e, r⟩ := wd_last h
    have q : tl (txI (.go z)) = 64 :: tl z := by rw [tl_txI (ItW.go (d := 0) h), lI]
    refine ⟨by have := wd_len h; rw [len_tl, q, List.length_cons, ← len_tl]; omega, 64 :: a, d, ?_, r⟩
    rw [q, e]; rfl
theorem not_close {x : PySem.Str} {a : List Nat} {d : Nat} (e : tl x = a ++ [d]) (h : d ≠ 41) : decide (V.str x = V.str ")") = false := by
  refine decide_eq_false (fun z => ?_)
  injection z with z
  rw [z, tl_close] at e
  have := congrArg List.getLast? e
  simp at this
  omega
theorem wtk {i : Nat} {T : List Tk} {x : V} (h : (T.map fun t => V.str (tkS t))[i]? = some x) : ∃ t, T[i]? = some t ∧ x = .str (tkS t) ∧ T.drop i = t :: T.drop (i + 1) := by
  rw [List.getElem?_map] at h
  obtain ⟨t, ht, rfl⟩ := Option.map_eq_some_iff.mp h
  refine ⟨t, ht, rfl, ?_⟩
  obtain ⟨h1, h2⟩ := List.getElem?_eq_some_iff.mp ht
  rw [List.drop_eq_getElem_cons h1, h2]
def spItemsOf (c : Cs) : Sp := fun vs H Q _ => ∃ its : List Itm, vs = [.str (txB its)] ∧ ItsW 2 its ∧ its.length ≤ 6 ∧ ∀ p xs H', Same H H' → H p = none → H' p = some (.lst xs) → Ios c H' xs its → Q (.ref p) H'
section
variable {P : Program} {w : World} {K : PySem.W.Frag} {mg : Str → Option Value} {base : Heap} {fD pD fO fC tS tP tG tT tB fa iS iP iG iT iB fW fN fH : Addr} {fdD fdO fdC dS dP dG dT dB eS eP eG eT eB fdW fdN fdH : FuncData} {c : Cs} {C : Nat → Addr}
/-- the reader's defs, found by their names -/
structure RedT (K : PySem.W.Frag) (mg : PySem.Str → Option Value) (rA rF rT rI : Addr) (dA dF dT dI : FuncData) : Prop where
  FA : Fun K "after_sign" "after_sign" sAfter rA dA
  bA : Binds K dA ["sign", "last", "long", "depth"] []
  gA : Fn K mg "after_sign" rA
  FF : Fun K "fault_in" "fault_in" sFault rF dF
  bF : Binds K dF ["text"] []
  gF : Fn K mg "fault_in" rF
  FT : Fun K "tokens_of" "tokens_of" sTokens rT dT
  bT : Binds K dT ["text"] []
  gT : Fn K mg "tokens_of" rT
  FI : Fun K "item_of" "item_of" sItemOf rI dI
  bI : Binds K dI ["token"] []
  gI : Fn K mg "item_of" rI
theorem scItemsOf : FnScope ["text", "index", "items", "around", "token", "number", "before"] ["text"] (defScope sItemsOf) := ⟨rfl, rfl, rfl, by decide +kernel, rfl, by decide +kernel, by decide +kernel⟩
theorem ok_itemsOf {f rA rF rT rI : Addr} {fd dA dF dT' dI : FuncData} (F : Fun K "items_of" "items_of" sItemsOf f fd) (T : Blt3 mg) (T1 : Blt mg) (U : Blt2 mg) (RD : RdT mg) (B : BodT K mg c) (R : ErrT K mg C tclass) (Z : MakT K mg c fD pD fO fC tS tP tG tT tB fdD fdO fdC dS dP dG dT dB) (Y : InsT K mg c iS iP iG iT iB fW fN fH eS eP eG eT eB fdW fdN fdH)
    (N : RedT K mg rA rF rT rI dA dF dT' dI) : FnOk P w K mg base CX0 9 f fd ["text"] (spItemsOf c) := by
  have GF : FnOk P w K mg base CX0 2 rF dF ["text"] spFault := ok_fault N.FF RD N.FA N.bA N.gA
  have GK : FnOk P w K mg base CX0 1 rT dT' ["text"] spTok := ok_tokens N.FT
  have GI : FnOk P w K mg base CX0 4 rI dI ["token"] (spItemOf c) := ok_itemOf N.FI T1 U B R Y
  have GT : FnR P w K mg base (L2.CX P w) 7 iT (spTimesI K c C) := ok_timesI T T1 U B R Z Y
  refine F.ok scItemsOf (fun vs H Q E h => ?_) (fun cdv A outer s H vs Q E hr h => ?_)
  · obtain ⟨its, rfl, _⟩ := h
    rfl
  · obtain ⟨its, rfl, hw, h6, q⟩ := h
    have hr8 : Room 8 _ := hr
    have hr4 : Room 4 _ := hr.mono (by decide)
    have hr2 : Room 2 _ := hr.mono (by decide)
    have hr1 : Room 1 _ := hr.mono (by decide)
    refine ⟨_, pss_cons (ps_if (pt_not (pt_val (pe_callB call_isi (by rfl) T.isi bIsi (pa_cons (pv 0) (pa_cons (pe_bltn (v := .ty "str") (by rfl) U.str (by decide +kernel) rfl) pa_nil))))) pss_never pss_nil)
      (pss_cons (ps_set (i := 1) scItemsOf.nd rfl (Or.inl rfl) (pe_call GF hr2 rfl N.gF.g N.gF.k N.bF .nil pass0 (pa_cons (pv 0) pa_nil)))
      (pss_cons (ps_if (pt_cmpR op_notN (pv 1) pe_non (nomark _)) pss_never pss_nil)
      (pss_cons (ps_set (i := 2) scItemsOf.nd rfl (Or.inl rfl) (pe_lst pa_nil))
      (pss_cons (ps_set (i := 3) scItemsOf.nd rfl (Or.inl rfl) (pe_lst pa_nil))
      (pss_cons (ps_for PassesOwn.never rfl (pi_list (pe_call GK hr1 rfl N.gT.g N.gT.k N.bT .nil pass0 (pa_cons (pv 0) pa_nil))) (pg_name (i := 4) scItemsOf.nd rfl (Or.inl rfl))
        (pss_one (ps_if (pt_cmpR op_eq (pv 4) pe_str (nomark _))
          (pss_cons (ps_asg (pe_bm0 PySem.F.plainAttrs_list PySem.F.slot_list_pop PySem.F.type_list_pop mt_pop (pv 3)) (pg_tup (by rfl) (pgs_cons (pg_name (i := 5) scItemsOf.nd rfl (Or.inl rfl)) (pgs_cons (pg_name (i := 6) scItemsOf.nd rfl (Or.inl rfl)) pgs_nil))))
          (pss_cons (ps_expr (pe_bm PySem.F.plainAttrs_list PySem.F.slot_list_append PySem.F.type_list_append mt_append (pv 6) (pa_cons (mk_glob Y.mT GT hr8 rfl B.gTimes passF (pa_cons (pv 5) (pa_star (pv 2) pa_nil))) pa_nil)))
          (pss_one (ps_set (i := 2) scItemsOf.nd rfl (Or.inl rfl) (pv 6)))))
          (pss_one (ps_if (pt_cmpR op_eq (pe_ix ix_str (pv 4) (pe_un un_neg pe_int) (fun _ _ => rfl)) pe_str (nomark _))
            (pss_cons (ps_expr (pe_bm PySem.F.plainAttrs_list PySem.F.slot_list_append PySem.F.type_list_append mt_append (pv 3) (pa_cons (pe_tup (pa_cons (pe_callTy call_int_str (by rfl) T1.int (by decide +kernel) (pa_cons (pe_slice sl_str (pv 4) po_none (po_some (pe_un un_neg pe_int))) pa_nil)) (pa_cons (pv 2) pa_nil))) pa_nil)))
            (pss_one (ps_set (i := 2) scItemsOf.nd rfl (Or.inl rfl) (pe_lst pa_nil))))
            (pss_one (ps_expr (pe_bm PySem.F.plainAttrs_list PySem.F.slot_list_append PySem.F.type_list_append mt_append (pv 2) (pa_cons (pe_call GI hr4 rfl N.gI.g N.gI.k N.bI .nil pass0 (pa_cons (pv 4) pa_nil)) pa_nil)))))))))
      (pss_one (ps_ret (pv 2)))))))), ?_⟩
    have m8 : sizeLine = 16777216 := rfl
    have hz : (txB its).length ≤ 6258 := by
      have := txB_len hw h6
      have b2 : bI 2 = 1042 := by decide
      omega
    have hT : (tkIs its).length ≤ 100000 := by
      have e := words_txB hw
      have l2 : ((" )" : PySem.Str)).length = 2 := by decide +kernel
      have l3 : (("( " : PySem.Str)).length = 2 := by decide +kernel
      have b1 := TK.replace_len (txB its) ")" " )"
      have b2 := TK.replace_len (Txt.replace (txB its) ")" " )") "(" "( "
      have b3 := words_le (Txt.replace (Txt.replace (txB its) ")" " )") "(" "( ")
      rw [l2] at b1
      rw [l3] at b2
      rw [e, List.length_map] at b3
      omega
    refine ⟨_, rfl, .str (txB its), .ty "str", _, _, true, rfl, .ty _, (Kd.str (txB its)).ty, ?_, _, rfl, iteF ?_⟩
    · exact (kit_str (.str (txB its))).trans (congrArg some ((isD_str _).mpr ⟨_, rfl⟩))
    refine ⟨_, rfl, txB its, rfl, by omega, fun H1 S1 => ?_⟩
    rw [fault_txB hw]
    refine ⟨_, rfl, rfl, _, rfl, iteF ?_⟩
    refine ⟨(by show 0 ≤ sizeLine; decide), fun p0 hp0 => ⟨(by show 0 ≤ sizeLine; decide), fun q0 hq0 => ?_⟩⟩
    refine ⟨_, rfl, txB its, rfl, by omega, fun L hL => ?_⟩
    rw [words_txB hw]
    have emap : ((tkIs its).map tkS).map V.str = (tkIs its).map fun t => V.str (tkS t) := by rw [List.map_map]; rfl
    rw [emap]
    have qp : q0 ≠ p0 := fun z => by rw [z, upd_same] at hq0; cases hq0
    have hq1 : H1 q0 = none := by rw [upd_ne qp] at hq0; exact hq0
    have Lq : L ≠ q0 := fun z => by rw [z, upd_same] at hL; cases hL
    have hL1 : upd H1 p0 (.lst []) L = none := by rw [upd_ne Lq] at hL; exact hL
    have Lp : L ≠ p0 := fun z => by rw [z, upd_same] at hL1; cases hL1
    have nH : ∀ {a : Addr}, H1 a = none → H a = none := fun {a} e => by
      cases e2 : H a with
      | none => rfl
      | some o => rw [S1 _ _ e2] at e; cases e
    refine ⟨L, rfl, ⟨_, SqL.of upd_same⟩, for_list (xs := (tkIs its).map fun t => V.str (tkS t)) (fun i σ Hk => ∃ (p q1 : Addr) (bs : List Addr) (vs fr : List V) (cur : List Itm) (st : List (Int × List Itm)) (y4 y5 y6 : Option V),
        σ = [some (.str (txB its)), some .non, some (.ref p), some (.ref q1), y4, y5, y6] ∧ Same H Hk ∧ (p :: q1 :: L :: bs).Nodup ∧ (∀ b ∈ p :: q1 :: bs, H b = none) ∧ Hk L = some (.lst ((tkIs its).map fun t => V.str (tkS t))) ∧ Hk p = some (.lst vs) ∧ Ios c Hk vs cur ∧ Hk q1 = some (.lst fr.reverse) ∧ Frs c Hk bs fr st ∧
        MRun cur st ((tkIs its).drop i) its ∧ cur.length ≤ i ∧ (∀ f ∈ st, f.2.length ≤ i) ∧ st.length ≤ i) ?_ (fun i σ Hk _ h => ?_) ?_ ?_⟩
    · refine ⟨p0, q0, [], [], [], [], [], none, none, none, rfl, ?_, ?_, ?_, upd_same, ?_, .nil, ?_, .nil, mrun_all hw, Nat.le_refl _, (fun f m => by cases m), Nat.le_refl _⟩
      · exact ((S1.trans (same_new hp0)).trans (same_new hq0)).trans (same_new hL)
      · simp only [List.nodup_cons, List.mem_cons, List.not_mem_nil, or_false, not_or, not_false_eq_true, List.nodup_nil, and_true]
        exact ⟨⟨fun z => qp z.symm, fun z => Lp z.symm⟩, fun z => Lq z.symm⟩
      · intro b m
        rcases List.mem_cons.mp m with rfl | m
        · exact nH hp0
        · rcases List.mem_cons.mp m with rfl | m
          · exact nH hq1
          · cases m
      · rw [upd_ne (fun z => Lp z.symm), upd_ne (fun z => qp z.symm)]
        exact upd_same
      · rw [upd_ne (fun z => Lq z.symm)]
        exact upd_same
    · obtain ⟨p, q1, bs, vs, fr, cur, st, y4, y5, y6, _, _, _, _, h, _⟩ := h
      exact SqL.of h
    · rintro i x σ Hk hx ⟨p, q1, bs, vs, fr, cur, st, y4, y5, y6, rfl, S, nd, nn, hLk, hpk, hI, hqk, hF, hM, hl1, hl2, hl3⟩
      obtain ⟨tk, htk, rfl, ed⟩ := wtk hx
      rw [ed] at hM
      have il : i < (tkIs its).length := (List.getElem?_eq_some_iff.mp htk).1
      have nd0 := nd
      simp only [List.nodup_cons, List.mem_cons, not_or] at nd
      obtain ⟨⟨npq, npL, npb⟩, ⟨nqL, nqb⟩, nLb, nbb⟩ := nd
      have np := nn p (List.mem_cons_self ..)
      have nq := nn q1 (List.mem_cons_of_mem _ (List.mem_cons_self ..))
      have nb : ∀ b ∈ bs, H b = none := fun b m => nn b (List.mem_cons_of_mem _ (List.mem_cons_of_mem _ m))
      have hfl := hF.len
      cases tk with
      | it it =>
        obtain ⟨hp, hw0, hM⟩ := hM
        obtain ⟨l9, a, d, ea, d1, d2⟩ := plain_last hp hw0
        refine ⟨_, rfl, rfl, _, rfl, ?_⟩
        rw [show decide (V.str (tkS (.it it)) = V.str ")") = false from not_close ea (by omega)]
        refine iteF ⟨_, rfl, _, rfl, _, _, d, rfl, rfl, (show (txI it).length ≤ sizeLine by omega), (show atI (tl (txI it)) (-1) = some d by rw [ea]; exact atI_last a d), rfl, _, rfl, ?_⟩
        rw [sgn1 d 40 "(" tl_open, decide_eq_false (show ¬ d = 40 by omega)]
        refine iteF ⟨_, rfl, .inl ⟨rfl, _, SqL.of hpk⟩, _, rfl, it, rfl, hp, hw0, fun u H' S' hio => ?_⟩
        have vl := hI.len
        refine ⟨p, vs, u, rfl, rfl, S' _ _ hpk, by omega, p, q1, bs, vs ++ [u], fr, cur ++ [it], st, _, y5, y6, rfl, same_mod (S.trans S') np, nd0, nn, ?_, upd_same, ?_, ?_, ?_, hM, ?_, ?_, by omega⟩
        · rw [upd_ne (fun z => npL z.symm)]; exact S' _ _ hLk
        · exact ((hI.keep (.same S')).keep (Kept.lst (S' _ _ hpk))).app (.cons (hio.keep (Kept.lst (S' _ _ hpk))) .nil)
        · rw [upd_ne (fun z => npq z.symm)]; exact S' _ _ hqk
        · refine Frs.keep (Kept.lst (S' _ _ hpk)) (fun b m => upd_ne (fun z => npb (z ▸ m))) (Frs.keep (.same S') (fun b m => ?_) hF)
          obtain ⟨ws, e⟩ := hF.lsts b m
          rw [e]; exact S' _ _ e
        · rw [List.length_append]; show _ + 1 ≤ _; omega
        · intro f m; have := hl2 f m; omega
      | op n =>
        obtain ⟨n0, n1, hM⟩ := hM
        have nl : (PySem.Str.ofString (toString n)).length ≤ 10 := toString_length_le n0 (by decide) (by omega)
        have ea : tl (tkS (.op n)) = tl (PySem.Str.ofString (toString n)) ++ [40] := by
          show tl (PySem.Str.ofString (toString n) ++ "(") = _
          rw [tl_append, tl_open]
        have hlen : (tkS (.op n)).length ≤ sizeLine := by
          rw [len_tl, ea, List.length_append, ← len_tl]
          show _ + 1 ≤ _
          omega
        refine ⟨_, rfl, rfl, _, rfl, ?_⟩
        rw [not_close ea (by decide)]
        refine iteF ⟨_, rfl, _, rfl, _, _, 40, rfl, rfl, hlen, (show atI (tl (tkS (.op n))) (-1) = some 40 by rw [ea]; exact atI_last _ _), rfl, _, rfl, ?_⟩
        rw [sgn1 40 40 "(" tl_open]
        refine iteT ⟨_, rfl, .inl ⟨rfl, _, SqL.of hqk⟩, _, rfl, _, rfl, _, rfl, _, rfl, hlen, _, n, rfl, ?_⟩
        rw [show cutS (tkS (.op n)) none (some (-1)) = PySem.Str.ofString (toString n) from cut_last ea]
        refine ⟨PySem.W.KIN.num_reads n0 (by omega), by omega, _, rfl, (by show 2 ≤ sizeLine; decide), fun t ht => ?_⟩
        have tq : q1 ≠ t := fun z => by rw [z, ht] at hqk; cases hqk
        have hq2 : upd Hk t (.tup [.int n, .ref p]) q1 = some (.lst fr.reverse) := by rw [upd_ne tq]; exact hqk
        refine ⟨q1, fr.reverse, .ref t, rfl, rfl, hq2, by rw [List.length_reverse]; omega, (by show 0 ≤ sizeLine; decide), fun p2 hp2 => ?_⟩
        have h2q : p2 ≠ q1 := fun z => by rw [z, upd_same] at hp2; cases hp2
        have hp3 : upd Hk t (.tup [.int n, .ref p]) p2 = none := by rw [upd_ne h2q] at hp2; exact hp2
        have h2t : p2 ≠ t := fun z => by rw [z, upd_same] at hp3; cases hp3
        have hp4 : Hk p2 = none := by rw [upd_ne h2t] at hp3; exact hp3
        have n2 : H p2 = none := by
          cases e2 : H p2 with
          | none => rfl
          | some o => rw [S _ _ e2] at hp4; cases hp4
        have old : ∀ {b : Addr} {o : HO}, Hk b = some o → b ≠ q1 → upd (upd (upd Hk t (.tup [.int n, .ref p])) q1 (.lst (fr.reverse ++ [.ref t]))) p2 (.lst []) b = some o := fun {b o} e ne => by
          rw [upd_ne (ne_of_none e hp4), upd_ne ne, upd_ne (ne_of_none e ht)]
          exact e
        have kp : Kept Hk (upd (upd (upd Hk t (.tup [.int n, .ref p])) q1 (.lst (fr.reverse ++ [.ref t]))) p2 (.lst [])) :=
          ((Kept.same (same_new ht)).trans (Kept.lst hq2)).trans (Kept.same (same_new hp2))
        refine ⟨p2, q1, p :: bs, [], .ref t :: fr, [], (n, cur) :: st, _, y5, y6, rfl, ?_, ?_, ?_, old hLk (fun z => nqL z.symm), upd_same, .nil, ?_, ?_, hM, Nat.zero_le _, ?_, ?_⟩
        · exact (same_mod (S.trans (same_new ht)) nq).trans (same_new hp2)
        · simp only [List.nodup_cons, List.mem_cons, not_or]
          refine ⟨⟨h2q, fun z => ?_, fun z => ?_, fun m => ?_⟩, ⟨nqL, fun z => npq z.symm, nqb⟩, ⟨fun z => npL z.symm, nLb⟩, npb, nbb⟩
          · rw [z, hLk] at hp4; cases hp4
          · rw [z, hpk] at hp4; cases hp4
          · obtain ⟨ws, e⟩ := hF.lsts _ m
            rw [e] at hp4; cases hp4
        · intro b m
          rcases List.mem_cons.mp m with rfl | m
          · exact n2
          · rcases List.mem_cons.mp m with rfl | m
            · exact nq
            · rcases List.mem_cons.mp m with rfl | m
              · exact np
              · exact nb b m
        · rw [upd_ne (fun z => h2q z.symm), upd_same, List.reverse_cons]
        · refine .cons ?_ (old hpk npq) (hI.keep kp) (Frs.keep kp (fun b m => ?_) hF)
          · rw [upd_ne (fun z => h2t z.symm), upd_ne (fun z => tq z.symm), upd_same]
          · obtain ⟨ws, e⟩ := hF.lsts b m
            rw [e]; exact old e (fun z => nqb (z ▸ m))
        · intro f m
          rcases List.mem_cons.mp m with rfl | m
          · show cur.length ≤ _; omega
          · have := hl2 f m; omega
        · rw [List.length_cons]; omega
      | cl =>
        cases st with
        | nil => exact hM.elim
        | cons f st =>
          obtain ⟨n, bf⟩ := f
          obtain ⟨n0, n1, c6, cw, hM⟩ := hM
          cases hF with
          | @cons t b ws _ _ bs fr _ h1 h2 h3 h4 =>
            simp only [List.mem_cons, not_or] at npb nqb nLb
            refine ⟨_, rfl, rfl, _, rfl, iteT ?_⟩
            have hqr : Hk q1 = some (.lst (fr.reverse ++ [.ref t])) := by rw [hqk, List.reverse_cons]
            refine ⟨_, rfl, .inl ⟨rfl, _, SqL.of hqr⟩, q1, fr.reverse ++ [.ref t], .ref t, rfl, rfl, hqr, (by simp), ?_⟩
            rw [List.dropLast_concat]
            have o2 : ∀ {a : Addr} {o : HO}, Hk a = some o → a ≠ q1 → upd Hk q1 (.lst fr.reverse) a = some o := fun {a o} e ne => by rw [upd_ne ne]; exact e
            have tq : t ≠ q1 := ne_of h1 hqk (by intro z; cases z)
            refine ⟨t, [.int n, .ref b], rfl, .inl (.inl (o2 h1 tq)), rfl, _, [.ref b], rfl, _, [], rfl, rfl, ?_⟩
            have k2 : Kept Hk (upd Hk q1 (.lst fr.reverse)) := Kept.lst hqk
            have bq : b ≠ q1 := fun z => nqb.1 z.symm
            have hb2 := o2 h2 bq
            have hp2 := o2 hpk npq
            have hI2 := hI.keep k2
            have hI3 := h3.keep k2
            have hF2 : Frs c (upd Hk q1 (.lst fr.reverse)) bs fr st := Frs.keep k2 (fun a m => upd_ne (fun z => nqb.2 (z ▸ m))) h4
            have hL2 := o2 hLk (fun z => nqL z.symm)
            have S2 : Same H (upd Hk q1 (.lst fr.reverse)) := same_mod S nq
            have hq2 : upd Hk q1 (.lst fr.reverse) q1 = some (.lst fr.reverse) := upd_same
            generalize upd Hk q1 (.lst fr.reverse) = H2 at hb2 hp2 hI2 hI3 hF2 hL2 S2 hq2 ⊢
            refine ⟨_, rfl, .inl ⟨rfl, _, SqL.of hb2⟩, _, rfl, _, rfl, p, vs, rfl, .inr (SqL.of hp2), fun x dx nx ndx ne => ?_⟩
            rw [List.append_nil]
            refine mk_times n0 n1 hI2 (cw.up (by decide)) c6 cw.dIs nx ndx (fun H3 S3 hio => ?_)
            have wl := hI3.len
            have bl := hl2 (n, bf) (List.mem_cons_self ..)
            have bl' : bf.length ≤ i := bl
            refine ⟨b, ws, .ref x, rfl, rfl, S3 _ _ hb2, by omega, _, rfl, ?_⟩
            have k4 : Kept H3 (upd H3 b (.lst (ws ++ [.ref x]))) := Kept.lst (S3 _ _ hb2)
            have nb0 := nb b (List.mem_cons_self ..)
            simp only [List.nodup_cons] at nbb
            have o4 : ∀ {a : Addr} {o : HO}, H2 a = some o → a ≠ b → upd H3 b (.lst (ws ++ [.ref x])) a = some o := fun {a o} e ne => by rw [upd_ne ne]; exact S3 _ _ e
            refine ⟨b, q1, bs, ws ++ [.ref x], fr, bf ++ [.times n cur], st, _, _, _, rfl, same_mod (S2.trans S3) nb0, ?_, ?_, o4 hL2 nLb.1, upd_same, ?_, o4 hq2 nqb.1, ?_, hM, ?_, ?_, ?_⟩
            · simp only [List.nodup_cons, List.mem_cons, not_or]
              exact ⟨⟨bq, fun z => nLb.1 z.symm, nbb.1⟩, ⟨nqL, nqb.2⟩, nLb.2, nbb.2⟩
            · intro a m
              rcases List.mem_cons.mp m with rfl | m
              · exact nb0
              · rcases List.mem_cons.mp m with rfl | m
                · exact nq
                · exact nb a (List.mem_cons_of_mem _ m)
            · exact ((hI3.keep (.same S3)).keep k4).app (.cons (hio.keep k4) .nil)
            · refine Frs.keep k4 (fun a m => upd_ne (fun z => nbb.1 (z ▸ m))) (Frs.keep (.same S3) (fun a m => ?_) hF2)
              obtain ⟨us, e⟩ := hF2.lsts a m
              rw [e]; exact S3 _ _ e
            · rw [List.length_append]; show _ + 1 ≤ _; omega
            · intro f m; have := hl2 f (List.mem_cons_of_mem _ m); omega
            · rw [List.length_cons] at hl3; omega
    · rintro σ Hk ⟨p, q1, bs, vs, fr, cur, st, y4, y5, y6, rfl, S, nd, nn, hLk, hpk, hI, hqk, hF, hM, hl1, hl2, hl3⟩
      rw [List.length_map, List.drop_length] at hM
      obtain ⟨rfl, rfl⟩ := hM
      exact ⟨_, rfl, q p vs Hk S (nn p (List.mem_cons_self ..)) hpk hI⟩
end
end KP
end

section
set_option Elab.async false
set_option linter.all false
set_option maxRecDepth 100000
set_option maxHeartbeats 4000000
/-! Any texts that are read: they are those of items, of any depth and number. -/
namespace Pn
open PySem PySem.Spec PyProof.Rows L2 TL
mutual
/-- an item that may be written -/
inductive IX : Itm → Prop
  | say {z : PySem.Str} : Wd z → IX (.say z)
  | press {z : PySem.Str} : Wd z → IX (.press z)
  | go {z : PySem.Str} : Wd z → IX (.go z)
  | times {n : Int} {its : List Itm} : 0 ≤ n → n < 10000000000 → IXs its → IX (.times n its)
inductive IXs : List Itm → Prop
  | nil : IXs []
  | cons {i : Itm} {is : List Itm} : IX i → IXs is → IXs (i :: is)
end
theorem IXs.app : ∀ {is js : List Itm}, IXs is → IXs js → IXs (is ++ js)
  | [], _, _, g => g
  | i :: is, _, h, g => by cases h with | cons h1 h2 => exact .cons h1 (h2.app g)
theorem IXs.get : ∀ {is : List Itm} {k : Nat} {i : Itm}, IXs is → is[k]? = some i → IX i
  | [], k, i, h, e => by cases e
  | _ :: is, 0, i, h, e => by cases h with | cons h1 h2 => cases e; exact h1
  | _ :: is, k + 1, i, h, e => by cases h with | cons h1 h2 => exact h2.get (k := k) e
mutual
theorem ItW.ix : ∀ {d : Nat} {i : Itm}, ItW d i → IX i
  | _, _, .say h => .say h
  | _, _, .press h => .press h
  | _, _, .go h => .go h
  | _, _, .times a b l h => .times a (by omega) (ItsW.ix h)
theorem ItsW.ix : ∀ {d : Nat} {is : List Itm}, ItsW d is → IXs is
  | _, _, .nil => .nil
  | _, _, .cons a b => .cons (ItW.ix a) (ItsW.ix b)
end
mutual
theorem xl_txI : ∀ {i : Itm}, IX i → tl (txI i) = lI i
  | .say z, _ => by rw [txI, lI, tl_append, tl_append, tl_bang, tl_empty]; rfl
  | .press z, _ => by rw [txI, lI]
  | .go z, _ => by rw [txI, lI, tl_append, tl_append, tl_at, tl_empty]; rfl
  | .times n its, .times a b h => by
    obtain ⟨m, rfl⟩ := Int.eq_ofNat_of_zero_le a
    rw [txI, lI, tl_append, tl_append, tl_append, tl_append, tl_open, tl_close, tl_empty, TL.join_eq, TL.tl_join, tl_sp, xl_txs h]
    show [] ++ tl (PySem.Str.ofString (toString ((m : Nat) : Int))) ++ [40] ++ _ ++ _ = _
    rw [tl_num]
    simp
theorem xl_txs : ∀ {is : List Itm}, IXs is → (txs is).map tl = lIs is
  | [], .nil => by rw [txs, lIs]; rfl
  | i :: is, .cons a b => by rw [txs, lIs, List.map_cons, xl_txI a, xl_txs b]
end
theorem xl_txB {its : List Itm} (h : IXs its) : tl (txB its) = joinL [32] (lIs its) := by
  unfold txB
  rw [TL.join_eq, TL.tl_join, tl_sp, xl_txs h]
mutual
theorem X_item : ∀ {i : Itm}, IX i → ∀ ws, wfin (Wf' (ws, []) (lI i)) = ws ++ (tkI i).map tkL
  | .say z, .say hw, ws => W_item (d := 0) (.say hw) ws
  | .press z, .press hw, ws => W_item (d := 0) (.press hw) ws
  | .go z, .go hw, ws => W_item (d := 0) (.go hw) ws
  | .times n its, .times a b h, ws => by
    have e : lI (.times n its) = numL n.toNat ++ ([40] ++ (joinL [32] (lIs its) ++ [41])) := by rw [lI]; rfl
    have dg := numL_digits n.toNat
    rw [e, tkI, W_app, W_plain (numL n.toNat) ws [] (fun c m => by have := dg c m; exact ⟨by omega, by omega, low_sp c (by omega) (by omega)⟩), W_app, W_open, W_app, W_close, X_items h, wfin_ne _ (by simp)]
    have e2 : tkL (.op n) = [] ++ numL n.toNat ++ [40] := by
      obtain ⟨m, rfl⟩ := Int.eq_ofNat_of_zero_le a
      show tl (PySem.Str.ofString (toString ((m : Nat) : Int)) ++ "(") = _
      rw [tl_append, tl_num, tl_open]
      rfl
    have e3 : tkL .cl = [41] := tl_close
    rw [List.map_cons, List.map_append, e2]
    show _ = ws ++ (([] ++ numL n.toNat ++ [40]) :: ((tkIs its).map tkL ++ [tkL .cl]))
    rw [e3]
    simp
theorem X_items : ∀ {is : List Itm}, IXs is → ∀ ws, wfin (Wf' (ws, []) (joinL [32] (lIs is))) = ws ++ (tkIs is).map tkL
  | [], .nil, ws => by
    rw [lIs, tkIs]
    show wfin (ws, []) = _
    rw [wfin_nil]
    simp
  | [i], .cons a .nil, ws => by
    rw [lIs, lIs, tkIs, tkIs, List.append_nil]
    exact X_item a ws
  | i :: j :: is, .cons a b, ws => by
    have hb : lIs (j :: is) = lI j :: lIs is := by rw [lIs]
    have e : joinL [32] (lIs (i :: j :: is)) = lI i ++ ([32] ++ joinL [32] (lIs (j :: is))) := by
      rw [lIs, hb]
      rfl
    rw [e, W_app, W_app, W_space, X_item a, X_items b, show tkIs (i :: j :: is) = tkI i ++ tkIs (j :: is) by rw [tkIs], List.map_append, List.append_assoc]
end
theorem xwords_txB {its : List Itm} (h : IXs its) : Txt.words (Txt.replace (Txt.replace (txB its) ")" " )") "(" "( ") = (tkIs its).map tkS := by
  refine map_tl_inj ?_
  rw [words_tl, List.map_map]
  have e1 : tl (Txt.replace (txB its) ")" " )") = StrLaws.replL [41] [32, 41] (tl (txB its)) := by
    have := StrLaws.replace_list (x := txB its) (y := ")") (z := " )") (by decide +kernel)
    have a : (")" : PySem.Str).cps.toList = [41] := by decide +kernel
    have b : (" )" : PySem.Str).cps.toList = [32, 41] := by decide +kernel
    rw [a, b] at this
    exact this
  have e2 : tl (Txt.replace (Txt.replace (txB its) ")" " )") "(" "( ") = StrLaws.replL [40] [40, 32] (tl (Txt.replace (txB its) ")" " )")) := by
    have := StrLaws.replace_list (x := Txt.replace (txB its) ")" " )") (y := "(") (z := "( ") (by decide +kernel)
    have a : ("(" : PySem.Str).cps.toList = [40] := by decide +kernel
    have b : ("( " : PySem.Str).cps.toList = [40, 32] := by decide +kernel
    rw [a, b] at this
    exact this
  rw [e2, e1, replL_one, replL_one, ex_both, xl_txB h]
  have := X_items h []
  rw [List.nil_append] at this
  exact this
/-! ### what can be read is written so -/
theorem aft_cases {c l f : Nat} {long depth : Int} (h : aft c l long depth = some f) :
    (f = 3 ∧ (97 ≤ c ∧ c ≤ 122) ∧ (l = 0 ∨ l = 1 ∨ l = 2 ∨ (l = 3 ∧ long < 8))) ∨ (f = 4 ∧ (48 ≤ c ∧ c ≤ 57) ∧ (l = 0 ∨ l = 1 ∨ (l = 4 ∧ 0 < long ∧ long < 10))) ∨ (f = 2 ∧ (c = 33 ∨ c = 64) ∧ (l = 0 ∨ l = 1)) ∨
    (f = 0 ∧ c = 40 ∧ l = 4) ∨ (f = 5 ∧ c = 41 ∧ 0 < depth ∧ (l = 0 ∨ l = 3 ∨ l = 5)) ∨ (f = 1 ∧ c = 32 ∧ (l = 3 ∨ l = 5)) := by
  unfold aft at h
  by_cases h1 : c ∈ smalls
  · rw [if_pos h1] at h
    split at h
    · rename_i g; cases h; exact .inl ⟨rfl, small_low h1, g⟩
    · cases h
  rw [if_neg h1] at h
  by_cases h2 : c ∈ digs
  · rw [if_pos h2] at h
    split at h
    · rename_i g; cases h; exact .inr (.inl ⟨rfl, dig_iff.mp h2, g⟩)
    · cases h
  rw [if_neg h2] at h
  by_cases h3 : c = 33 ∨ c = 64
  · rw [if_pos h3] at h
    split at h
    · rename_i g; cases h; exact .inr (.inr (.inl ⟨rfl, h3, g⟩))
    · cases h
  rw [if_neg h3] at h
  by_cases h4 : c = 40
  · rw [if_pos h4] at h
    split at h
    · rename_i g; cases h; exact .inr (.inr (.inr (.inl ⟨rfl, h4, g⟩)))
    · cases h
  rw [if_neg h4] at h
  by_cases h5 : c = 41
  · rw [if_pos h5] at h
    split at h
    · rename_i g; cases h; exact .inr (.inr (.inr (.inr (.inl ⟨rfl, h5, g⟩))))
    · cases h
  rw [if_neg h5] at h
  by_cases h6 : c = 32
  · rw [if_pos h6] at h
    split at h
    · rename_i g; cases h; exact .inr (.inr (.inr (.inr (.inr ⟨rfl, h6, g⟩))))
    · cases h
  rw [if_neg h6] at h
  cases h
def preL (cur : List Itm) : List Nat := cur.flatMap fun i => lI i ++ [32]
theorem preL_snoc (cur : List Itm) (i : Itm) : preL (cur ++ [i]) = preL cur ++ (lI i ++ [32]) := by
  unfold preL
  rw [List.flatMap_append]
  simp
theorem join_snoc : ∀ (cur : List Itm) (i : Itm), joinL [32] (lIs (cur ++ [i])) = preL cur ++ lI i
  | [], i => by
    show joinL [32] (lIs [i]) = _
    rw [lIs, lIs]
    rfl
  | a :: cur, i => by
    have ih := join_snoc cur i
    cases e : cur ++ [i] with
    | nil => simp at e
    | cons b r =>
      rw [e] at ih
      have e1 : joinL [32] (lIs ((a :: cur) ++ [i])) = lI a ++ ([32] ++ joinL [32] (lIs (b :: r))) := by
        rw [List.cons_append, e, lIs]
        have : lIs (b :: r) = lI b :: lIs r := by rw [lIs]
        rw [this]
        rfl
      rw [e1, ih]
      unfold preL
      rw [List.flatMap_cons]
      simp
/-- the parentheses that are open, the last one first -/
def frL : List (List Itm × Nat) → List Nat
  | [] => []
  | (b, n) :: fs => frL fs ++ (preL b ++ (numL n ++ [40]))
def FrX : List (List Itm × Nat) → Prop
  | [] => True
  | (b, n) :: fs => IXs b ∧ n < 10000000000 ∧ FrX fs
structure PInv (s : Sta) (L : List Nat) : Prop where
  h : ∃ (fs : List (List Itm × Nat)) (cur : List Itm), s.depth = (fs.length : Int) ∧ FrX fs ∧ IXs cur ∧
    ((s.l = 0 ∧ cur = [] ∧ L = frL fs) ∨ (s.l = 1 ∧ L = frL fs ++ preL cur) ∨ (s.l = 2 ∧ ∃ c, (c = 33 ∨ c = 64) ∧ L = frL fs ++ preL cur ++ [c]) ∨
    (s.l = 3 ∧ ∃ sg w, (sg = [] ∨ sg = [33] ∨ sg = [64]) ∧ (∀ c ∈ w, 97 ≤ c ∧ c ≤ 122) ∧ 1 ≤ w.length ∧ w.length ≤ 8 ∧ s.long = (w.length : Int) ∧ L = frL fs ++ preL cur ++ (sg ++ w)) ∨
    (s.l = 4 ∧ ∃ n : Nat, (numL n).length ≤ 10 ∧ n < 10000000000 ∧ s.long = (if n = 0 then 0 else ((numL n).length : Int)) ∧ L = frL fs ++ preL cur ++ numL n) ∨
    (s.l = 5 ∧ ∃ i, IX i ∧ L = frL fs ++ preL cur ++ lI i))
/-- the item of a word with its sign -/
theorem item_of_word {sg w : List Nat} (hs : sg = [] ∨ sg = [33] ∨ sg = [64]) (hw : ∀ c ∈ w, 97 ≤ c ∧ c ≤ 122) (h1 : 1 ≤ w.length) (h8 : w.length ≤ 8) : ∃ i, IX i ∧ lI i = sg ++ w := by
  have W : Wd ⟨w.toArray⟩ := ⟨h1, h8, hw⟩
  rcases hs with rfl | rfl | rfl
  · exact ⟨.press ⟨w.toArray⟩, .press W, by rw [lI]; rfl⟩
  · exact ⟨.say ⟨w.toArray⟩, .say W, by rw [lI]; rfl⟩
  · exact ⟨.go ⟨w.toArray⟩, .go W, by rw [lI]; rfl⟩
theorem num_lt {n : Nat} (h : (numL n).length ≤ 10) : n < 10000000000 := by
  have all : ∀ (k : Nat) (n : Nat), (numL n).length ≤ k + 1 → n < 10 ^ (k + 1) := by
    intro k
    induction k with
    | zero =>
      intro n hn
      by_cases h : n < 10
      · exact h
      · rw [numL_step (by omega), List.length_append] at hn
        have : 1 ≤ (numL (n / 10)).length := by
          cases e : numL (n / 10) with
          | nil => exact absurd e (numL_ne _)
          | cons => simp
        have hn' : (numL (n / 10)).length + 1 ≤ 0 + 1 := hn
        omega
    | succ k ih =>
      intro n hn
      by_cases h : n < 10
      · calc n < 10 := h
          _ ≤ 10 ^ (k + 1 + 1) := by
            have : 10 ^ 1 ≤ 10 ^ (k + 1 + 1) := Nat.pow_le_pow_right (by decide) (by omega)
            simpa using this
      · rw [numL_step (by omega), List.length_append] at hn
        have hn' : (numL (n / 10)).length + 1 ≤ k + 1 + 1 := hn
        have := ih (n / 10) (by omega)
        have e : 10 ^ (k + 1 + 1) = 10 ^ (k + 1) * 10 := Nat.pow_succ ..
        omega
  have := all 9 n (by omega)
  simpa using this
theorem num_app {n d : Nat} (hn : 1 ≤ n) (hd : d < 10) : numL n ++ [48 + d] = numL (10 * n + d) := by
  rw [numL_step (n := 10 * n + d) (by omega), show (10 * n + d) / 10 = n by omega, show (10 * n + d) % 10 = d by omega]
theorem pinv_step {s t : Sta} {L : List Nat} {c : Nat} (p : PInv s L) (h : stp s c = some t) : PInv t (L ++ [c]) := by
  obtain ⟨fs, cur, hd, hf, hc, p⟩ := p.h
  cases ea : aft c s.l s.long s.depth with
  | none => unfold stp at h; rw [ea] at h; cases h
  | some f =>
    have ht : t = (if f = 0 then ⟨f, s.long, s.depth + 1⟩ else if f = 5 then ⟨f, s.long, s.depth - 1⟩ else if c = 48 ∧ s.l ≠ 4 then ⟨f, 0, s.depth⟩ else ⟨f, if f = s.l then s.long + 1 else 1, s.depth⟩ : Sta) := by
      unfold stp at h
      rw [ea] at h
      exact (Option.some.inj h).symm
    rcases aft_cases ea with ⟨rfl, ⟨c1, c2⟩, hl⟩ | ⟨rfl, ⟨c1, c2⟩, hl⟩ | ⟨rfl, hc2, hl⟩ | ⟨rfl, rfl, hl⟩ | ⟨rfl, rfl, hp, hl⟩ | ⟨rfl, rfl, hl⟩
    · -- a letter
      rw [if_neg (by decide), if_neg (by decide), if_neg (by omega)] at ht
      subst ht
      rcases p with ⟨e, rfl, rfl⟩ | ⟨e, rfl⟩ | ⟨e, sc, hsc, rfl⟩ | ⟨e, sg, w, hs, hw, w1, w8, hlg, rfl⟩ | ⟨e, _⟩ | ⟨e, _⟩
      · refine ⟨fs, [], hd, hf, hc, .inr (.inr (.inr (.inl ⟨rfl, [], [c], .inl rfl, fun x m => by rw [List.mem_singleton.mp m]; exact ⟨c1, c2⟩, by simp, by simp, ?_, by simp [preL]⟩)))⟩
        show (if 3 = s.l then s.long + 1 else 1) = _
        rw [if_neg (by omega)]; rfl
      · refine ⟨fs, cur, hd, hf, hc, .inr (.inr (.inr (.inl ⟨rfl, [], [c], .inl rfl, fun x m => by rw [List.mem_singleton.mp m]; exact ⟨c1, c2⟩, by simp, by simp, ?_, by simp⟩)))⟩
        show (if 3 = s.l then s.long + 1 else 1) = _
        rw [if_neg (by omega)]; rfl
      · refine ⟨fs, cur, hd, hf, hc, .inr (.inr (.inr (.inl ⟨rfl, [sc], [c], by rcases hsc with rfl | rfl <;> simp, fun x m => by rw [List.mem_singleton.mp m]; exact ⟨c1, c2⟩, by simp, by simp, ?_, by simp⟩)))⟩
        show (if 3 = s.l then s.long + 1 else 1) = _
        rw [if_neg (by omega)]; rfl
      · refine ⟨fs, cur, hd, hf, hc, .inr (.inr (.inr (.inl ⟨rfl, sg, w ++ [c], hs, fun x m => ?_, by simp, ?_, ?_, by simp⟩)))⟩
        · rcases List.mem_append.mp m with m | m
          · exact hw x m
          · rw [List.mem_singleton.mp m]; exact ⟨c1, c2⟩
        · rw [List.length_append]
          show _ + 1 ≤ 8
          rcases hl with z | z | z | ⟨_, z⟩ <;> omega
        · show (if 3 = s.l then s.long + 1 else 1) = _
          rw [if_pos e.symm, List.length_append, hlg]
          simp
      · rcases hl with z | z | z | ⟨z, _⟩ <;> omega
      · rcases hl with z | z | z | ⟨z, _⟩ <;> omega
    · -- a digit
      rw [if_neg (by decide), if_neg (by decide)] at ht
      obtain ⟨d, rfl⟩ : ∃ d, c = 48 + d := ⟨c - 48, by omega⟩
      have d10 : d < 10 := by omega
      have first : ∀ {cur : List Itm} {L : List Nat}, s.l ≠ 4 → IXs cur → L = frL fs ++ preL cur → PInv t (L ++ [48 + d]) := fun {cur L} n4 hc e => by
        by_cases z : d = 0
        · subst z
          rw [if_pos ⟨rfl, n4⟩] at ht
          subst ht
          exact ⟨fs, cur, hd, hf, hc, .inr (.inr (.inr (.inr (.inl ⟨rfl, 0, by decide, by decide, rfl, by rw [e, numL_lt (by decide)]⟩))))⟩
        · rw [if_neg (fun y => z (by omega))] at ht
          subst ht
          refine ⟨fs, cur, hd, hf, hc, .inr (.inr (.inr (.inr (.inl ⟨rfl, d, by rw [numL_lt d10]; simp, by omega, ?_, by rw [e, numL_lt d10]⟩))))⟩
          show (if 4 = s.l then s.long + 1 else 1) = _
          rw [if_neg (fun y => n4 y.symm), if_neg z, numL_lt d10]
          rfl
      rcases p with ⟨e, rfl, rfl⟩ | ⟨e, rfl⟩ | ⟨e, _⟩ | ⟨e, _⟩ | ⟨e, n, n10, nlt, hlg, rfl⟩ | ⟨e, _⟩
      · exact first (by omega) .nil (by simp [preL])
      · exact first (by omega) hc rfl
      · rcases hl with z | z | ⟨z, _⟩ <;> omega
      · rcases hl with z | z | ⟨z, _⟩ <;> omega
      · have nz : n ≠ 0 := fun z => by
          rw [if_pos z] at hlg
          rcases hl with y | y | ⟨_, y, _⟩ <;> omega
        rw [if_neg nz] at hlg
        have l9 : (numL n).length < 10 := by rcases hl with y | y | ⟨_, _, y⟩ <;> omega
        rw [if_neg (fun y => y.2 e)] at ht
        subst ht
        have en : numL n ++ [48 + d] = numL (10 * n + d) := num_app (by omega) d10
        have ln : (numL (10 * n + d)).length = (numL n).length + 1 := by rw [← en, List.length_append]; rfl
        refine ⟨fs, cur, hd, hf, hc, .inr (.inr (.inr (.inr (.inl ⟨rfl, 10 * n + d, by omega, num_lt (by omega), ?_, by rw [List.append_assoc, en]⟩))))⟩
        show (if 4 = s.l then s.long + 1 else 1) = _
        rw [if_pos e.symm, if_neg (by omega), ln, hlg]
        omega
      · rcases hl with z | z | ⟨z, _⟩ <;> omega
    · -- a sign
      rw [if_neg (by decide), if_neg (by decide), if_neg (by omega)] at ht
      subst ht
      rcases p with ⟨e, rfl, rfl⟩ | ⟨e, rfl⟩ | ⟨e, _⟩ | ⟨e, _⟩ | ⟨e, _⟩ | ⟨e, _⟩
      · exact ⟨fs, [], hd, hf, hc, .inr (.inr (.inl ⟨rfl, c, hc2, by simp [preL]⟩))⟩
      · exact ⟨fs, cur, hd, hf, hc, .inr (.inr (.inl ⟨rfl, c, hc2, rfl⟩))⟩
      all_goals (rcases hl with z | z <;> omega)
    · -- opened
      rw [if_pos rfl] at ht
      subst ht
      rcases p with ⟨e, _⟩ | ⟨e, _⟩ | ⟨e, _⟩ | ⟨e, _⟩ | ⟨e, n, n10, nlt, hlg, rfl⟩ | ⟨e, _⟩
      any_goals omega
      refine ⟨(cur, n) :: fs, [], ?_, ⟨hc, nlt, hf⟩, .nil, .inl ⟨rfl, rfl, ?_⟩⟩
      · show s.depth + 1 = _
        rw [hd]; simp
      · show _ = frL fs ++ (preL cur ++ (numL n ++ [40]))
        simp
    · -- closed
      rw [if_neg (by decide), if_pos rfl] at ht
      subst ht
      cases fs with
      | nil => rw [hd] at hp; exact absurd hp (by decide)
      | cons fb fs =>
        obtain ⟨b, n⟩ := fb
        obtain ⟨hb, nlt, hf⟩ := hf
        have hd' : s.depth - 1 = (fs.length : Int) := by rw [hd]; simp
        have fin : ∀ (its : List Itm) (L : List Nat), IXs its → L = frL ((b, n) :: fs) ++ joinL [32] (lIs its) → PInv ⟨5, s.long, s.depth - 1⟩ (L ++ [41]) := fun its L hi e => by
          refine ⟨fs, b, hd', hf, hb, .inr (.inr (.inr (.inr (.inr ⟨rfl, .times ((n : Nat) : Int) its, .times (by omega) (by omega) hi, ?_⟩))))⟩
          rw [e, lI]
          show frL fs ++ (preL b ++ (numL n ++ [40])) ++ joinL [32] (lIs its) ++ [41] = _
          simp
        rcases p with ⟨e, rfl, rfl⟩ | ⟨e, _⟩ | ⟨e, _⟩ | ⟨e, sg, w, hs, hw, w1, w8, hlg, rfl⟩ | ⟨e, _⟩ | ⟨e, i, hi, rfl⟩
        · exact fin [] _ .nil (by rw [lIs]; simp [joinL])
        · rcases hl with z | z | z <;> omega
        · rcases hl with z | z | z <;> omega
        · obtain ⟨i, hi, ei⟩ := item_of_word hs hw w1 w8
          exact fin (cur ++ [i]) _ (hc.app (.cons hi .nil)) (by rw [join_snoc, ei]; simp)
        · rcases hl with z | z | z <;> omega
        · exact fin (cur ++ [i]) _ (hc.app (.cons hi .nil)) (by rw [join_snoc]; simp)
    · -- a space
      rw [if_neg (by decide), if_neg (by decide), if_neg (by omega)] at ht
      subst ht
      rcases p with ⟨e, _⟩ | ⟨e, _⟩ | ⟨e, _⟩ | ⟨e, sg, w, hs, hw, w1, w8, hlg, rfl⟩ | ⟨e, _⟩ | ⟨e, i, hi, rfl⟩
      · rcases hl with z | z <;> omega
      · rcases hl with z | z <;> omega
      · rcases hl with z | z <;> omega
      · obtain ⟨i, hi, ei⟩ := item_of_word hs hw w1 w8
        exact ⟨fs, cur ++ [i], hd, hf, hc.app (.cons hi .nil), .inr (.inl ⟨rfl, by rw [preL_snoc, ei]; simp⟩)⟩
      · rcases hl with z | z <;> omega
      · exact ⟨fs, cur ++ [i], hd, hf, hc.app (.cons hi .nil), .inr (.inl ⟨rfl, by rw [preL_snoc]; simp⟩)⟩
theorem faultF_ok : ∀ (R : List Nat) (i : Nat) (s : Sta) (L : List Nat), PInv s L → faultF i s R = none → ∃ its, IXs its ∧ L ++ R = joinL [32] (lIs its)
  | [], i, s, L, p, h => by
    unfold faultF at h
    split at h
    · cases h
    · rename_i g
      obtain ⟨fs, cur, hd, hf, hc, p⟩ := p.h
      have f0 : fs = [] := by
        cases fs with
        | nil => rfl
        | cons a b => exact absurd (.inl (by rw [hd]; simp)) g
      subst f0
      rw [List.append_nil]
      rcases p with ⟨e, rfl, rfl⟩ | ⟨e, _⟩ | ⟨e, _⟩ | ⟨e, sg, w, hs, hw, w1, w8, hlg, rfl⟩ | ⟨e, _⟩ | ⟨e, i, hi, rfl⟩
      · exact ⟨[], .nil, by rw [lIs]; rfl⟩
      · exact absurd (.inr (.inl e)) g
      · exact absurd (.inr (.inr (.inl e))) g
      · obtain ⟨i, hi, ei⟩ := item_of_word hs hw w1 w8
        exact ⟨cur ++ [i], hc.app (.cons hi .nil), by rw [join_snoc, ei]; simp [frL]⟩
      · exact absurd (.inr (.inr (.inr e))) g
      · exact ⟨cur ++ [i], hc.app (.cons hi .nil), by rw [join_snoc]; simp [frL]⟩
  | c :: R, i, s, L, p, h => by
    unfold faultF at h
    cases e : stp s c with
    | none => rw [e] at h; cases h
    | some t =>
      rw [e] at h
      obtain ⟨its, hi, e2⟩ := faultF_ok R (i + 1) t (L ++ [c]) (pinv_step p e) h
      exact ⟨its, hi, by rw [← e2]; simp⟩
/-- a text without a fault is that of a body -/
theorem parse_all {z : PySem.Str} (h : faultF 0 ⟨0, 0, 0⟩ (tl z) = none) : ∃ its, IXs its ∧ z = txB its := by
  obtain ⟨its, hi, e⟩ := faultF_ok (tl z) 0 ⟨0, 0, 0⟩ [] ⟨[], [], rfl, trivial, .nil, .inl ⟨rfl, rfl, rfl⟩⟩ h
  exact ⟨its, hi, ext_tl (by rw [xl_txB hi]; exact e)⟩
end Pn
end

section
set_option Elab.async false
set_option linter.all false
set_option maxRecDepth 100000
set_option maxHeartbeats 4000000
/-! Faults of items that are written; reading tokens with them; reading signs. -/
namespace Pn
open PySem PySem.Spec PyProof.Rows L2 TL
inductive Fk where
  | item
  | many
  | deep
  deriving DecidableEq
def fkOwn (n : Int) (its : List Itm) : List Fk := (if 1000000000 < n then [.item] else []) ++ ((if 6 < its.length then [.many] else []) ++ (if 1 < dIs its then [.deep] else []))
mutual
def fkI : Itm → List Fk
  | .say _ => []
  | .press _ => []
  | .go _ => []
  | .times n its => fks its ++ fkOwn n its
def fks : List Itm → List Fk
  | [] => []
  | i :: is => fkI i ++ fks is
end
theorem own_nil {n : Int} {its : List Itm} (h : fkOwn n its = []) : n ≤ 1000000000 ∧ its.length ≤ 6 ∧ dIs its ≤ 1 := by
  unfold fkOwn at h
  rw [List.append_eq_nil_iff, List.append_eq_nil_iff] at h
  obtain ⟨a, b, c⟩ := h
  refine ⟨?_, ?_, ?_⟩
  · by_cases g : 1000000000 < n
    · rw [if_pos g] at a; cases a
    · omega
  · by_cases g : 6 < its.length
    · rw [if_pos g] at b; cases b
    · omega
  · by_cases g : 1 < dIs its
    · rw [if_pos g] at c; cases c
    · omega
mutual
theorem fk_w : ∀ {i : Itm}, IX i → fkI i = [] → ItW (dI i) i ∧ dI i ≤ 2
  | .say z, .say h, _ => ⟨.say h, by rw [dI]; omega⟩
  | .press z, .press h, _ => ⟨.press h, by rw [dI]; omega⟩
  | .go z, .go h, _ => ⟨.go h, by rw [dI]; omega⟩
  | .times n its, .times a b h, e => by
    rw [fkI, List.append_eq_nil_iff] at e
    obtain ⟨n1, l6, d1⟩ := own_nil e.2
    obtain ⟨w, _⟩ := fks_w h e.1
    rw [dI]
    refine ⟨?_, by omega⟩
    rw [Nat.add_comm]
    exact .times a n1 l6 w
theorem fks_w : ∀ {is : List Itm}, IXs is → fks is = [] → ItsW (dIs is) is ∧ dIs is ≤ 2
  | [], .nil, _ => ⟨.nil, by rw [dIs]; omega⟩
  | i :: is, .cons a b, e => by
    rw [fks, List.append_eq_nil_iff] at e
    obtain ⟨w1, d1⟩ := fk_w a e.1
    obtain ⟨w2, d2⟩ := fks_w b e.2
    rw [dIs]
    exact ⟨.cons (ItW.up (Nat.le_max_left ..) w1) (ItsW.up (Nat.le_max_right ..) w2), by omega⟩
end
theorem fks_w2 {is : List Itm} (h : IXs is) (e : fks is = []) : ItsW 2 is := (fks_w h e).1.up (fks_w h e).2
/-- the first fault of a Times, its own -/
def fk1 (n : Int) (its : List Itm) : Option Fk := (fkOwn n its).head?
/-- the items that are being read, the parentheses that are open, and what comes of it -/
def MRun2 : List Itm → List (Int × List Itm) → List Tk → Sum Fk (List Itm) → Prop
  | cur, st, [], fin => st = [] ∧ fin = .inr cur
  | cur, st, .it i :: r, fin => Plain i ∧ ItW 0 i ∧ MRun2 (cur ++ [i]) st r fin
  | cur, st, .op n :: r, fin => 0 ≤ n ∧ n < 10000000000 ∧ MRun2 [] ((n, cur) :: st) r fin
  | cur, (n, b) :: st, .cl :: r, fin => 0 ≤ n ∧ n < 10000000000 ∧ ItsW 2 cur ∧ (∀ f, fk1 n cur = some f → fin = .inl f) ∧ (fk1 n cur = none → MRun2 (b ++ [.times n cur]) st r fin)
  | _, [], .cl :: _, _ => False
theorem head_app {α : Type} {a b : List α} : (a ++ b).head? = if a = [] then b.head? else a.head? := by
  cases a with
  | nil => rfl
  | cons x a => rfl
mutual
theorem mrun2_item : ∀ {i : Itm}, IX i → ∀ (cur : List Itm) (st : List (Int × List Itm)) (r : List Tk) (fin : Sum Fk (List Itm)), (∀ f, (fkI i).head? = some f → fin = .inl f) → (fkI i = [] → MRun2 (cur ++ [i]) st r fin) → MRun2 cur st (tkI i ++ r) fin
  | .say z, .say hw, cur, st, r, fin, _, h => by rw [tkI]; exact ⟨trivial, .say hw, h (by rw [fkI])⟩
  | .press z, .press hw, cur, st, r, fin, _, h => by rw [tkI]; exact ⟨trivial, .press hw, h (by rw [fkI])⟩
  | .go z, .go hw, cur, st, r, fin, _, h => by rw [tkI]; exact ⟨trivial, .go hw, h (by rw [fkI])⟩
  | .times n its, .times a b hI, cur, st, r, fin, hf, h => by
    rw [tkI]
    refine ⟨a, b, ?_⟩
    show MRun2 [] ((n, cur) :: st) ((tkIs its ++ [Tk.cl]) ++ r) fin
    rw [List.append_assoc]
    rw [fkI] at hf h
    refine mrun2_items hI [] ((n, cur) :: st) ([.cl] ++ r) fin (fun f e => hf f ?_) (fun e => ?_)
    · rw [head_app, if_neg (fun z => by rw [z] at e; cases e)]
      exact e
    · rw [List.nil_append]
      refine ⟨a, b, fks_w2 hI e, fun f e2 => hf f ?_, fun e2 => h ?_⟩
      · rw [e, List.nil_append]
        exact e2
      · rw [e, List.nil_append]
        exact List.head?_eq_none_iff.mp e2
theorem mrun2_items : ∀ {is : List Itm}, IXs is → ∀ (cur : List Itm) (st : List (Int × List Itm)) (r : List Tk) (fin : Sum Fk (List Itm)), (∀ f, (fks is).head? = some f → fin = .inl f) → (fks is = [] → MRun2 (cur ++ is) st r fin) → MRun2 cur st (tkIs is ++ r) fin
  | [], .nil, cur, st, r, fin, _, h => by
    rw [tkIs]
    have := h (by rw [fks])
    rw [List.append_nil] at this
    exact this
  | i :: is, .cons a b, cur, st, r, fin, hf, h => by
    rw [tkIs, List.append_assoc]
    rw [fks] at hf h
    refine mrun2_item a cur st (tkIs is ++ r) fin (fun f e => hf f ?_) (fun e => mrun2_items b (cur ++ [i]) st r fin (fun f e2 => hf f ?_) (fun e2 => ?_))
    · rw [head_app, if_neg (fun z => by rw [z] at e; cases e)]
      exact e
    · rw [e, List.nil_append]
      exact e2
    · rw [List.append_assoc]
      exact h (by rw [e, e2]; rfl)
end
/-- what comes of a text -/
def resD (its : List Itm) : Sum Fk (List Itm) := match (fks its).head? with
  | some f => .inl f
  | none => .inr its
theorem mrun2_all {its : List Itm} (h : IXs its) : MRun2 [] [] (tkIs its) (resD its) := by
  have := mrun2_items h [] [] [] (resD its) (fun f e => by unfold resD; rw [e]) (fun e => ⟨rfl, by unfold resD; rw [e]; rfl⟩)
  rwa [List.append_nil] at this
/-! ### the machine, once more -/
/-- 0 begin, 1 open, 2 mark, 3 word, 4 zero, 5 number, 6 done -/
def nxt (so : Nat) (size deep : Int) (c : Nat) : Option (Nat × Int × Int) :=
  if (so = 0 ∨ so = 1) ∧ (c = 33 ∨ c = 64) then some (2, 0, deep)
  else if (so = 0 ∨ so = 1 ∨ so = 2) ∧ c ∈ smalls then some (3, 1, deep)
  else if (so = 0 ∨ so = 1) ∧ c ∈ digs then some (if c = 48 then 4 else 5, 1, deep)
  else if so = 3 ∧ c ∈ smalls ∧ size < 8 then some (3, size + 1, deep)
  else if so = 5 ∧ c ∈ digs ∧ size < 10 then some (5, size + 1, deep)
  else if (so = 5 ∨ so = 4) ∧ c = 40 then some (1, 0, deep + 1)
  else if (so = 3 ∨ so = 6) ∧ c = 32 then some (0, 0, deep)
  else if (so = 3 ∨ so = 6 ∨ so = 1) ∧ c = 41 ∧ 0 < deep then some (6, 0, deep - 1) else none
def wrongF : Nat → Nat × Int × Int → List Nat → Option Nat
  | i, x, [] => if (x.1 = 3 ∨ x.1 = 6) ∧ x.2.2 = 0 then none else some i
  | i, x, c :: r => match nxt x.1 x.2.1 x.2.2 c with
    | none => some i
    | some y => wrongF (i + 1) y r
theorem small_iff {c : Nat} : c ∈ smalls ↔ 97 ≤ c ∧ c ≤ 122 := ⟨small_low, fun h => low_small h.1 h.2⟩
structure Rl (s : Sta) (x : Nat × Int × Int) : Prop where
  d : x.2.2 = s.depth
  d0 : 0 ≤ s.depth
  r : (x.1 = 0 ∧ (s.l = 1 ∨ (s.l = 0 ∧ s.depth = 0))) ∨ (x.1 = 1 ∧ s.l = 0 ∧ 0 < s.depth) ∨ (x.1 = 2 ∧ s.l = 2) ∨ (x.1 = 3 ∧ s.l = 3 ∧ x.2.1 = s.long) ∨ (x.1 = 4 ∧ s.l = 4 ∧ s.long = 0) ∨ (x.1 = 5 ∧ s.l = 4 ∧ x.2.1 = s.long ∧ 1 ≤ s.long) ∨ (x.1 = 6 ∧ s.l = 5)
theorem rl_step {s : Sta} {x : Nat × Int × Int} (h : Rl s x) (c : Nat) : (stp s c = none ∧ nxt x.1 x.2.1 x.2.2 c = none) ∨ ∃ t y, stp s c = some t ∧ nxt x.1 x.2.1 x.2.2 c = some y ∧ Rl t y ∧ ¬ (t.l = 0 ∧ t.depth = 0) := by
  obtain ⟨l, long, depth⟩ := s
  obtain ⟨so, size, deep⟩ := x
  obtain ⟨h1, h2, h3⟩ := h
  have h1' : deep = depth := h1
  subst h1'
  have h2' : 0 ≤ deep := h2
  have h3' : (so = 0 ∧ (l = 1 ∨ (l = 0 ∧ deep = 0))) ∨ (so = 1 ∧ l = 0 ∧ 0 < deep) ∨ (so = 2 ∧ l = 2) ∨ (so = 3 ∧ l = 3 ∧ size = long) ∨ (so = 4 ∧ l = 4 ∧ long = 0) ∨ (so = 5 ∧ l = 4 ∧ size = long ∧ 1 ≤ long) ∨ (so = 6 ∧ l = 5) := h3
  clear h1 h2 h3
  show (stp ⟨l, long, deep⟩ c = none ∧ nxt so size deep c = none) ∨ ∃ t y, stp ⟨l, long, deep⟩ c = some t ∧ nxt so size deep c = some y ∧ Rl t y ∧ ¬ (t.l = 0 ∧ t.depth = 0)
  cases ea : aft c l long deep with
  | none =>
    refine .inl ⟨by unfold stp; show (match aft c l long deep with | none => none | some f => _) = _; rw [ea], ?_⟩
    unfold aft at ea
    simp only [small_iff, dig_iff] at ea
    unfold nxt
    simp only [small_iff, dig_iff]
    rw [if_neg, if_neg, if_neg, if_neg, if_neg, if_neg, if_neg, if_neg]
    all_goals (intro z)
    all_goals (repeat' (split at ea))
    all_goals (first | omega | cases ea)
  | some f =>
    have es : stp ⟨l, long, deep⟩ c = some (if f = 0 then ⟨f, long, deep + 1⟩ else if f = 5 then ⟨f, long, deep - 1⟩ else if c = 48 ∧ l ≠ 4 then ⟨f, 0, deep⟩ else ⟨f, if f = l then long + 1 else 1, deep⟩) := by
      unfold stp
      show (match aft c l long deep with | none => none | some f => _) = _
      rw [ea]
    rcases aft_cases ea with ⟨rfl, ⟨c1, c2⟩, hl⟩ | ⟨rfl, ⟨c1, c2⟩, hl⟩ | ⟨rfl, hc2, hl⟩ | ⟨rfl, rfl, hl⟩ | ⟨rfl, rfl, hp, hl⟩ | ⟨rfl, rfl, hl⟩
    · rw [if_neg (by decide), if_neg (by decide), if_neg (by omega)] at es
      refine .inr ⟨_, (3, if so = 3 then size + 1 else 1, deep), es, ?_, ⟨rfl, h2', .inr (.inr (.inr (.inl ⟨rfl, rfl, ?_⟩)))⟩, by intro z; exact Nat.succ_ne_zero _ z.1⟩
      · unfold nxt
        simp only [small_iff, dig_iff]
        rw [if_neg (by omega)]
        by_cases g : so = 3
        · rw [if_neg (by omega), if_neg (by omega), if_pos (by omega), if_pos g]
        · rw [if_pos (by omega), if_neg g]
      · show (if so = 3 then size + 1 else 1) = (if 3 = l then long + 1 else 1)
        by_cases g : so = 3
        · rw [if_pos g, if_pos (by omega)]; omega
        · rw [if_neg g, if_neg (by omega)]
    · rw [if_neg (by decide), if_neg (by decide)] at es
      by_cases g : l = 4
      · rw [if_neg (fun z => z.2 g), if_pos g.symm] at es
        refine .inr ⟨_, (5, size + 1, deep), es, ?_, ⟨rfl, h2', .inr (.inr (.inr (.inr (.inr (.inl ⟨rfl, rfl, ?_, ?_⟩)))))⟩, by intro z; exact Nat.succ_ne_zero _ z.1⟩
        · unfold nxt
          simp only [small_iff, dig_iff]
          rw [if_neg (by omega), if_neg (by omega), if_neg (by omega), if_neg (by omega), if_pos (by omega)]
        · show size + 1 = long + 1; omega
        · show 1 ≤ long + 1; omega
      · by_cases g2 : c = 48
        · rw [if_pos ⟨g2, g⟩] at es
          refine .inr ⟨_, (4, 1, deep), es, ?_, ⟨rfl, h2', .inr (.inr (.inr (.inr (.inl ⟨rfl, rfl, rfl⟩))))⟩, by intro z; exact Nat.succ_ne_zero _ z.1⟩
          unfold nxt
          simp only [small_iff, dig_iff]
          rw [if_neg (by omega), if_neg (by omega), if_pos (by omega), if_pos g2]
        · rw [if_neg (fun z => g2 z.1), if_neg (fun z => g z.symm)] at es
          refine .inr ⟨_, (5, 1, deep), es, ?_, ⟨rfl, h2', .inr (.inr (.inr (.inr (.inr (.inl ⟨rfl, rfl, rfl, Int.le_refl _⟩)))))⟩, by intro z; exact Nat.succ_ne_zero _ z.1⟩
          unfold nxt
          simp only [small_iff, dig_iff]
          rw [if_neg (by omega), if_neg (by omega), if_pos (by omega), if_neg g2]
    · rw [if_neg (by decide), if_neg (by decide), if_neg (by omega)] at es
      refine .inr ⟨_, (2, 0, deep), es, ?_, ⟨rfl, h2', .inr (.inr (.inl ⟨rfl, rfl⟩))⟩, by intro z; exact Nat.succ_ne_zero _ z.1⟩
      unfold nxt
      rw [if_pos (by omega)]
    · rw [if_pos rfl] at es
      refine .inr ⟨_, (1, 0, deep + 1), es, ?_, ⟨rfl, (by show 0 ≤ deep + 1; omega), .inr (.inl ⟨rfl, rfl, by show 0 < deep + 1; omega⟩)⟩, by intro z; have := z.2; have : deep + 1 = 0 := this; omega⟩
      have hso : so = 4 ∨ so = 5 := by omega
      rcases hso with rfl | rfl <;> (unfold nxt; simp [small_iff, dig_iff])
    · rw [if_neg (by decide), if_pos rfl] at es
      refine .inr ⟨_, (6, 0, deep - 1), es, ?_, ⟨rfl, (by show 0 ≤ deep - 1; omega), .inr (.inr (.inr (.inr (.inr (.inr ⟨rfl, rfl⟩)))))⟩, by intro z; exact Nat.succ_ne_zero _ z.1⟩
      have hdp : 0 < deep := hp
      have hso : so = 1 ∨ so = 3 ∨ so = 6 := by omega
      rcases hso with rfl | rfl | rfl <;> (unfold nxt; simp [small_iff, dig_iff, hdp])
    · rw [if_neg (by decide), if_neg (by decide), if_neg (by omega)] at es
      refine .inr ⟨_, (0, 0, deep), es, ?_, ⟨rfl, h2', .inl ⟨rfl, .inl rfl⟩⟩, by intro z; exact Nat.succ_ne_zero _ z.1⟩
      have hso : so = 3 ∨ so = 6 := by omega
      rcases hso with rfl | rfl <;> (unfold nxt; simp [small_iff, dig_iff])
theorem wrong_fault : ∀ (r : List Nat) (i : Nat) (s : Sta) (x : Nat × Int × Int), Rl s x → ¬ (s.l = 0 ∧ s.depth = 0) ∨ r ≠ [] → wrongF i x r = faultF i s r
  | [], i, s, x, h, g => by
    rcases g with g | g
    · unfold wrongF faultF
      obtain ⟨h1, h2, h3⟩ := h
      by_cases q : 0 < s.depth ∨ s.l = 1 ∨ s.l = 2 ∨ s.l = 4
      · rw [if_pos q, if_neg]
        omega
      · rw [if_neg q, if_pos]
        omega
    · exact absurd rfl g
  | c :: r, i, s, x, h, _ => by
    unfold wrongF faultF
    rcases rl_step h c with ⟨a, b⟩ | ⟨t, y, a, b, ht, n⟩
    · rw [a, b]
    · rw [a, b]
      exact wrong_fault r (i + 1) t y ht (.inl n)
/-! ### reading sign by sign -/
def finC (P : List Itm → List (Int × List Itm) → Prop) (cur : List Itm) (st : List (Int × List Itm)) (c : Nat) : Prop :=
  (c = 32 ∧ P cur st) ∨ (c = 41 ∧ ∃ n b st', st = (n, b) :: st' ∧ P (b ++ [.times n cur]) st')
def PRun : List Itm → List (Int × List Itm) → List Nat → List Nat → List Itm → Prop
  | cur, st, w, [], fin => st = [] ∧ cur = fin
  | cur, st, w, c :: r, fin => (c = 40 ∧ ∃ n : Int, 0 ≤ n ∧ n < 10000000000 ∧ w = numL n.toNat ∧ PRun [] ((n, cur) :: st) [] r fin) ∨
    ((c = 32 ∨ c = 41) ∧ ∃ cur', ((w = [] ∧ cur' = cur) ∨ ∃ i, Plain i ∧ ItW 0 i ∧ lI i = w ∧ cur' = cur ++ [i]) ∧ finC (fun a b => PRun a b [] r fin) cur' st c) ∨
    (c ≠ 40 ∧ c ≠ 32 ∧ c ≠ 41 ∧ PRun cur st (w ++ [c]) r fin)
theorem prun_plain : ∀ (p : List Nat) (cur : List Itm) (st : List (Int × List Itm)) (w r : List Nat) (fin : List Itm), (∀ c ∈ p, c ≠ 40 ∧ c ≠ 32 ∧ c ≠ 41) → PRun cur st (w ++ p) r fin → PRun cur st w (p ++ r) fin
  | [], cur, st, w, r, fin, _, h => by rw [List.append_nil] at h; exact h
  | c :: p, cur, st, w, r, fin, hp, h => by
    obtain ⟨h1, h2, h3⟩ := hp c (List.mem_cons_self ..)
    refine .inr (.inr ⟨h1, h2, h3, prun_plain p cur st (w ++ [c]) r fin (fun d m => hp d (List.mem_cons_of_mem _ m)) ?_⟩)
    rw [List.append_assoc]
    exact h
theorem plain_signs {i : Itm} (hp : Plain i) (h : ItW 0 i) : lI i ≠ [] ∧ ∀ c ∈ lI i, c ≠ 40 ∧ c ≠ 32 ∧ c ≠ 41 := by
  have wd : ∀ {z : PySem.Str}, Wd z → ∀ c ∈ tl z, c ≠ 40 ∧ c ≠ 32 ∧ c ≠ 41 := fun {z} h c m => by have := h.2.2 c m; omega
  cases h with
  | @say _ z hz =>
    rw [lI]
    refine ⟨by simp, fun c m => ?_⟩
    rcases List.mem_cons.mp m with rfl | m
    · decide
    · exact wd hz c m
  | @press _ z hz => rw [lI]; exact ⟨wd_ne hz, wd hz⟩
  | @go _ z hz =>
    rw [lI]
    refine ⟨by simp, fun c m => ?_⟩
    rcases List.mem_cons.mp m with rfl | m
    · decide
    · exact wd hz c m
theorem prun_word {i : Itm} (hp : Plain i) (h : ItW 0 i) (cur : List Itm) (st : List (Int × List Itm)) (c : Nat) (r : List Nat) (fin : List Itm) (k : finC (fun a b => PRun a b [] r fin) (cur ++ [i]) st c) : PRun cur st [] (lI i ++ c :: r) fin := by
  refine prun_plain (lI i) cur st [] (c :: r) fin (plain_signs hp h).2 (.inr (.inl ⟨?_, cur ++ [i], .inr ⟨i, hp, h, rfl, rfl⟩, k⟩))
  rcases k with ⟨e, _⟩ | ⟨e, _⟩
  · exact .inl e
  · exact .inr e
mutual
theorem prun_item : ∀ {i : Itm}, IX i → ∀ (cur : List Itm) (st : List (Int × List Itm)) (c : Nat) (r : List Nat) (fin : List Itm), finC (fun a b => PRun a b [] r fin) (cur ++ [i]) st c → PRun cur st [] (lI i ++ c :: r) fin
  | .say z, .say hw, cur, st, c, r, fin, k => prun_word (i := .say z) trivial (.say hw) cur st c r fin k
  | .press z, .press hw, cur, st, c, r, fin, k => prun_word (i := .press z) trivial (.press hw) cur st c r fin k
  | .go z, .go hw, cur, st, c, r, fin, k => prun_word (i := .go z) trivial (.go hw) cur st c r fin k
  | .times n its, .times a b h, cur, st, c, r, fin, k => by
    have e : lI (.times n its) ++ c :: r = numL n.toNat ++ (40 :: (joinL [32] (lIs its) ++ 41 :: (c :: r))) := by rw [lI]; simp
    rw [e]
    refine prun_plain _ cur st [] _ fin (fun d m => by have := numL_digits n.toNat d m; omega) (.inl ⟨rfl, n, a, b, rfl, ?_⟩)
    refine prun_items h [] ((n, cur) :: st) 41 (c :: r) fin (.inr ⟨rfl, n, cur, st, rfl, ?_⟩)
    rw [List.nil_append]
    refine .inr (.inl ⟨?_, cur ++ [.times n its], .inl ⟨rfl, rfl⟩, k⟩)
    rcases k with ⟨e, _⟩ | ⟨e, _⟩
    · exact .inl e
    · exact .inr e
theorem prun_items : ∀ {is : List Itm}, IXs is → ∀ (cur : List Itm) (st : List (Int × List Itm)) (c : Nat) (r : List Nat) (fin : List Itm), finC (fun a b => PRun a b [] r fin) (cur ++ is) st c → PRun cur st [] (joinL [32] (lIs is) ++ c :: r) fin
  | [], .nil, cur, st, c, r, fin, k => by
    rw [lIs]
    rw [List.append_nil] at k
    refine .inr (.inl ⟨?_, cur, .inl ⟨rfl, rfl⟩, k⟩)
    rcases k with ⟨e, _⟩ | ⟨e, _⟩
    · exact .inl e
    · exact .inr e
  | [i], .cons a .nil, cur, st, c, r, fin, k => by
    rw [lIs, lIs]
    exact prun_item a cur st c r fin k
  | i :: j :: is, .cons a b, cur, st, c, r, fin, k => by
    have hb : lIs (j :: is) = lI j :: lIs is := by rw [lIs]
    have e : joinL [32] (lIs (i :: j :: is)) ++ c :: r = lI i ++ 32 :: (joinL [32] (lIs (j :: is)) ++ c :: r) := by
      rw [lIs, hb]
      show (lI i ++ ([32] ++ joinL [32] (lI j :: lIs is))) ++ c :: r = _
      simp
    rw [e]
    refine prun_item a cur st 32 _ fin (.inl ⟨rfl, prun_items b (cur ++ [i]) st c r fin ?_⟩)
    rw [List.append_assoc]
    exact k
end
theorem prun_all {its : List Itm} (h : IXs its) : PRun [] [] [] (tl (txB its) ++ [32]) its := by
  rw [xl_txB h]
  exact prun_items h [] [] 32 [] its (.inl ⟨rfl, rfl, by rw [List.nil_append]⟩)
end Pn
end

section
set_option Elab.async false
set_option linter.all false
set_option maxRecDepth 100000
set_option maxHeartbeats 4000000
/-! Sizes of what is read, and what comes of any value. -/
namespace Pn
open PySem PySem.Spec PyProof.Rows L2 TL
theorem num_pos (n : Nat) : 1 ≤ (numL n).length := by
  cases e : numL n with
  | nil => exact absurd e (numL_ne _)
  | cons => simp
mutual
theorem tk_len : ∀ {i : Itm}, IX i → (tkI i).length ≤ (lI i).length
  | .say z, .say h => by rw [tkI, lI]; simp
  | .press z, .press h => by rw [tkI, lI]; exact h.1
  | .go z, .go h => by rw [tkI, lI]; simp
  | .times n its, .times a b h => by
    have ih := tks_len h
    have np := num_pos n.toNat
    rw [tkI, lI]
    simp only [List.length_cons, List.length_append, List.length_nil]
    omega
theorem tks_len : ∀ {is : List Itm}, IXs is → (tkIs is).length ≤ (joinL [32] (lIs is)).length
  | [], .nil => by rw [tkIs]; simp
  | [i], .cons a .nil => by rw [tkIs, tkIs, lIs, lIs, List.append_nil]; exact tk_len a
  | i :: j :: is, .cons a b => by
    have h1 := tk_len a
    have h2 := tks_len b
    have hb : lIs (j :: is) = lI j :: lIs is := by rw [lIs]
    have e : joinL [32] (lIs (i :: j :: is)) = lI i ++ ([32] ++ joinL [32] (lIs (j :: is))) := by
      rw [lIs, hb]
      rfl
    rw [e, show tkIs (i :: j :: is) = tkI i ++ tkIs (j :: is) by rw [tkIs]]
    simp only [List.length_append]
    omega
end
mutual
theorem dp_cnt : ∀ {i : Itm}, IX i → dI i ≤ (lI i).count 40
  | .say z, .say h => by rw [dI]; exact Nat.zero_le _
  | .press z, .press h => by rw [dI]; exact Nat.zero_le _
  | .go z, .go h => by rw [dI]; exact Nat.zero_le _
  | .times n its, .times a b h => by
    have ih := dps_cnt h
    rw [dI, lI, List.count_append, List.count_cons, List.count_append]
    simp
    omega
theorem dps_cnt : ∀ {is : List Itm}, IXs is → dIs is ≤ (joinL [32] (lIs is)).count 40
  | [], .nil => by rw [dIs]; exact Nat.zero_le _
  | [i], .cons a .nil => by
    have := dp_cnt a
    rw [dIs, dIs, lIs, lIs]
    show max (dI i) 0 ≤ (lI i).count 40
    omega
  | i :: j :: is, .cons a b => by
    have h1 := dp_cnt a
    have h2 := dps_cnt b
    have hb : lIs (j :: is) = lI j :: lIs is := by rw [lIs]
    have e : joinL [32] (lIs (i :: j :: is)) = lI i ++ ([32] ++ joinL [32] (lIs (j :: is))) := by
      rw [lIs, hb]
      rfl
    rw [e, show dIs (i :: j :: is) = max (dI i) (dIs (j :: is)) by rw [dIs]]
    simp only [List.count_append]
    omega
end
mutual
theorem dp_len : ∀ {i : Itm}, IX i → 3 * dI i ≤ (lI i).length
  | .say z, .say h => by rw [dI]; exact Nat.zero_le _
  | .press z, .press h => by rw [dI]; exact Nat.zero_le _
  | .go z, .go h => by rw [dI]; exact Nat.zero_le _
  | .times n its, .times a b h => by
    have ih := dps_len h
    have np := num_pos n.toNat
    rw [dI, lI]
    simp only [List.length_cons, List.length_append, List.length_nil]
    omega
theorem dps_len : ∀ {is : List Itm}, IXs is → 3 * dIs is ≤ (joinL [32] (lIs is)).length
  | [], .nil => by rw [dIs]; exact Nat.zero_le _
  | [i], .cons a .nil => by
    have := dp_len a
    rw [dIs, dIs, lIs, lIs]
    show 3 * max (dI i) 0 ≤ (lI i).length
    omega
  | i :: j :: is, .cons a b => by
    have h1 := dp_len a
    have h2 := dps_len b
    have hb : lIs (j :: is) = lI j :: lIs is := by rw [lIs]
    have e : joinL [32] (lIs (i :: j :: is)) = lI i ++ ([32] ++ joinL [32] (lIs (j :: is))) := by
      rw [lIs, hb]
      rfl
    rw [e, show dIs (i :: j :: is) = max (dI i) (dIs (j :: is)) by rw [dIs]]
    simp only [List.length_append]
    omega
end
inductive Out1 where
  | bad (i : Nat)
  | fk (f : Fk)
  | ok (its : List Itm)
/-- what comes of reading the items of any value -/
inductive Tells : PyData → Out1 → Prop
  | no {d : PyData} : isD "str" d = false → Tells d (.bad 0)
  | bad {z : PySem.Str} {i : Nat} : faultF 0 ⟨0, 0, 0⟩ (tl z) = some i → Tells (.str z) (.bad i)
  | fk {z : PySem.Str} {its : List Itm} {f : Fk} : faultF 0 ⟨0, 0, 0⟩ (tl z) = none → z = txB its → IXs its → (fks its).head? = some f → Tells (.str z) (.fk f)
  | ok {z : PySem.Str} {its : List Itm} : faultF 0 ⟨0, 0, 0⟩ (tl z) = none → z = txB its → IXs its → fks its = [] → Tells (.str z) (.ok its)
def fkJ : Fk → Nat
  | .item => 0
  | .many => 2
  | .deep => 3
def fkV : Fk → V
  | .item => .str "number"
  | .many => .int 6
  | .deep => .int 2
end Pn
end

section
set_option Elab.async false
set_option linter.all false
set_option maxRecDepth 100000
set_option maxHeartbeats 4000000
namespace KP
open PySem PySem.Spec PyProof.Rows L2 Pn TL StX
/-- InvalidText -/
structure InvT (K : PySem.W.Frag) (mg : PySem.Str → Option Value) (CT : Addr) : Prop where
  g : mg "InvalidText" = some (.ref CT)
  one : One K CT (bM 0) (bN 0) "index"
  ty : PySem.W.typeIn K (.ref CT) = some (.type "type")
/-- what must be raised, or what is told -/
def Due1 (K : PySem.W.Frag) (c : Cs) (C : Nat → Addr) (CT : Addr) (H : Hp) (E : XK) : Out1 → (List Itm → Prop) → Prop
  | .bad i, _ => ∀ H' dd, Same H H' → H' dd = none → E (.ref CT) (some dd) (upd H' dd (.xd [("index", .int (i : Nat))]))
  | .fk f, _ => Rz C H E (fkJ f) (fkV f)
  | .ok its, k => k its
def spItemsX (K : PySem.W.Frag) (c : Cs) (C : Nat → Addr) (CT : Addr) : Sp := fun vs H Q E => ∃ (v : V) (d : PyData) (o : Out1), vs = [v] ∧ Kd K H v d ∧ (∀ z, d = .str z → z.length ≤ 1000) ∧ Tells d o ∧
  Due1 K c C CT H E o (fun its => ∀ p xs H', Same H H' → H p = none → H' p = some (.lst xs) → Ios c H' xs its → Q (.ref p) H')
theorem fkJ_field (f : Fk) : errF (fkJ f) = if f = .item then "field" else "limit" := by cases f <;> rfl
/-- the errors of a Times -/
theorem due_times {K : PySem.W.Frag} {c : Cs} {C : Nat → Addr} {H : Hp} {E : XK} {x dx : Addr} {n : Int} {xs : List V} {its : List Itm} {Qh : Hp → Prop} (n0 : 0 ≤ n) (hI : Ios c H xs its) (hw : ItsW 2 its) (hl : xs.length ≤ 1000) (nx : H x = none) (ndx : H dx = none)
    (kE : ∀ f, fk1 n its = some f → Rz C H E (fkJ f) (fkV f)) (k : fk1 n its = none → ∀ H', Same H H' → Io c H' (.ref x) (.times n its) → Qh H') :
    spTimesI K c C (.ref x :: .int n :: xs) (upd (upd H dx (.own x)) x (.ins c.times dx [])) (fun v H2 => v = .non ∧ Qh H2) E := by
  have ow : fk1 n its = if 1000000000 < n then some .item else if 6 < its.length then some .many else if 1 < dIs its then some .deep else none := by
    unfold fk1 fkOwn
    by_cases a : 1000000000 < n
    · rw [if_pos a, if_pos a]; rfl
    · rw [if_neg a, if_neg a]
      by_cases b : 6 < its.length
      · rw [if_pos b, if_pos b]; rfl
      · rw [if_neg b, if_neg b]
        by_cases g : 1 < dIs its
        · rw [if_pos g, if_pos g]; rfl
        · rw [if_neg g, if_neg g]; rfl
  have wn : withinD 0 1000000000 (.int n) = (decide (0 ≤ n) && decide (n ≤ 1000000000)) := rfl
  refine ⟨H, x, dx, .int n, .int n, xs, its.map some, rfl, same_ins nx ndx, nx, upd_same, Kd.int n, Ents.ofIos hI hw, hl, fun e => ?_, fun e j y ec => ?_, fun e ec n' its' H' en eo hw' S' hB => ⟨rfl, ?_⟩⟩
  · have a : 1000000000 < n := by
      rw [wn, decide_eq_true n0, Bool.true_and, decide_eq_false_iff_not] at e
      omega
    exact kE .item (by rw [ow, if_pos a])
  · have a : ¬ 1000000000 < n := by
      rw [wn, decide_eq_true n0, Bool.true_and, decide_eq_true_iff] at e
      omega
    unfold chk at ec
    rw [firstBad_map] at ec
    have ec' : (if 6 < (its.map some).length then some (2, (6 : Int)) else if (1 : Int) < ((dIs (goods (its.map some)) : Nat) : Int) then some (3, (2 : Int)) else none) = some (j, y) := ec
    rw [List.length_map, goods_map] at ec'
    by_cases b : 6 < its.length
    · rw [if_pos b] at ec'
      cases ec'
      exact kE .many (by rw [ow, if_neg a, if_pos b])
    · rw [if_neg b] at ec'
      by_cases g : 1 < dIs its
      · rw [if_pos (by omega)] at ec'
        cases ec'
        exact kE .deep (by rw [ow, if_neg a, if_neg b, if_pos g])
      · rw [if_neg (by omega)] at ec'
        cases ec'
  · cases en
    have := map_some_inj eo
    subst this
    refine k ?_ H' S' hB
    cases hw' with
    | times b0 b1 b2 b3 =>
      have d1 := b3.dIs
      rw [ow, if_neg (by omega), if_neg (by omega), if_neg (by omega)]
section
variable {P : Program} {w : World} {K : PySem.W.Frag} {mg : Str → Option Value} {base : Heap} {fD pD fO fC tS tP tG tT tB fa iS iP iG iT iB fW fN fH : Addr} {fdD fdO fdC dS dP dG dT dB eS eP eG eT eB fdW fdN fdH : FuncData} {c : Cs} {C : Nat → Addr} {CT : Addr}
theorem ok_itemsX {f rA rF rT rI : Addr} {fd dA dF dT' dI : FuncData} (F : Fun K "items_of" "items_of" sItemsOf f fd) (T : Blt3 mg) (T1 : Blt mg) (U : Blt2 mg) (RD : RdT mg) (B : BodT K mg c) (R : ErrT K mg C tclass) (Z : MakT K mg c fD pD fO fC tS tP tG tT tB fdD fdO fdC dS dP dG dT dB) (Y : InsT K mg c iS iP iG iT iB fW fN fH eS eP eG eT eB fdW fdN fdH)
    (N : RedT K mg rA rF rT rI dA dF dT' dI) (IT : InvT K mg CT) : FnOk P w K mg base (L2.CX P w) 9 f fd ["text"] (spItemsX K c C CT) := by
  have GF : FnOk P w K mg base CX0 2 rF dF ["text"] spFault := ok_fault N.FF RD N.FA N.bA N.gA
  have GK : FnOk P w K mg base CX0 1 rT dT' ["text"] spTok := ok_tokens N.FT
  have GI : FnOk P w K mg base CX0 4 rI dI ["token"] (spItemOf c) := ok_itemOf N.FI T1 U B R Y
  have GT : FnR P w K mg base (L2.CX P w) 7 iT (spTimesI K c C) := ok_timesI T T1 U B R Z Y
  refine F.okX scItemsOf (fun vs H Q E h => ?_) (fun cdv A outer s H vs Q E hr h => ?_)
  · obtain ⟨v, d, o, rfl, _⟩ := h
    rfl
  · obtain ⟨v, d, o, rfl, hk, hz1, hT, q⟩ := h
    have hr8 : Room 8 _ := hr
    have hr4 : Room 4 _ := hr.mono (by decide)
    have hr2 : Room 2 _ := hr.mono (by decide)
    have hr1 : Room 1 _ := hr.mono (by decide)
    refine ⟨_, pss_cons (ps_if (pt_not (pt_val (pe_callB call_isi (by rfl) T.isi bIsi (pa_cons (pv 0) (pa_cons (pe_bltn (v := .ty "str") (by rfl) U.str (by decide +kernel) rfl) pa_nil))))) (pss_one (ps_raise rfl (takes_of rfl rfl rfl rfl) (pmk_one (basC 0) IT.one IT.ty hr1 IT.g (pa_cons pe_int pa_nil)))) pss_nil)
      (pss_cons (ps_set (i := 1) scItemsOf.nd rfl (Or.inl rfl) (pe_call GF hr2 rfl N.gF.g N.gF.k N.bF .nil pass0 (pa_cons (pv 0) pa_nil)))
      (pss_cons (ps_if (pt_cmpR op_notN (pv 1) pe_non (nomark _)) (pss_one (ps_raise rfl (takes_of rfl rfl rfl rfl) (pmk_one (basC 0) IT.one IT.ty hr1 IT.g (pa_cons (pv 1) pa_nil)))) pss_nil)
      (pss_cons (ps_set (i := 2) scItemsOf.nd rfl (Or.inl rfl) (pe_lst pa_nil))
      (pss_cons (ps_set (i := 3) scItemsOf.nd rfl (Or.inl rfl) (pe_lst pa_nil))
      (pss_cons (ps_for (passes_of rfl) rfl (pi_list (pe_call GK hr1 rfl N.gT.g N.gT.k N.bT .nil pass0 (pa_cons (pv 0) pa_nil))) (pg_name (i := 4) scItemsOf.nd rfl (Or.inl rfl))
        (pss_one (ps_if (pt_cmpR op_eq (pv 4) pe_str (nomark _))
          (pss_cons (ps_asg (pe_bm0 PySem.F.plainAttrs_list PySem.F.slot_list_pop PySem.F.type_list_pop mt_pop (pv 3)) (pg_tup (by rfl) (pgs_cons (pg_name (i := 5) scItemsOf.nd rfl (Or.inl rfl)) (pgs_cons (pg_name (i := 6) scItemsOf.nd rfl (Or.inl rfl)) pgs_nil))))
          (pss_cons (ps_expr (pe_bm PySem.F.plainAttrs_list PySem.F.slot_list_append PySem.F.type_list_append mt_append (pv 6) (pa_cons (mk_glob Y.mT GT hr8 rfl B.gTimes (passes_call (takes_of rfl rfl rfl rfl) (fun _ _ _ _ h => h)) (pa_cons (pv 5) (pa_star (pv 2) pa_nil))) pa_nil)))
          (pss_one (ps_set (i := 2) scItemsOf.nd rfl (Or.inl rfl) (pv 6)))))
          (pss_one (ps_if (pt_cmpR op_eq (pe_ix ix_str (pv 4) (pe_un un_neg pe_int) (fun _ _ => rfl)) pe_str (nomark _))
            (pss_cons (ps_expr (pe_bm PySem.F.plainAttrs_list PySem.F.slot_list_append PySem.F.type_list_append mt_append (pv 3) (pa_cons (pe_tup (pa_cons (pe_callTy call_int_str (by rfl) T1.int (by decide +kernel) (pa_cons (pe_slice sl_str (pv 4) po_none (po_some (pe_un un_neg pe_int))) pa_nil)) (pa_cons (pv 2) pa_nil))) pa_nil)))
            (pss_one (ps_set (i := 2) scItemsOf.nd rfl (Or.inl rfl) (pe_lst pa_nil))))
            (pss_one (ps_expr (pe_bm PySem.F.plainAttrs_list PySem.F.slot_list_append PySem.F.type_list_append mt_append (pv 2) (pa_cons (pe_call GI hr4 rfl N.gI.g N.gI.k N.bI .nil pass0 (pa_cons (pv 4) pa_nil)) pa_nil)))))))))
      (pss_one (ps_ret (pv 2)))))))), ?_⟩
    have m8 : sizeLine = 16777216 := rfl
    have three : (isD "str" d = false ∧ ∀ H' dd, Same H H' → H' dd = none → E (.ref CT) (some dd) (upd H' dd (.xd [("index", .int ((0 : Nat) : Int))]))) ∨
        (∃ z i, d = .str z ∧ faultF 0 ⟨0, 0, 0⟩ (tl z) = some i ∧ ∀ H' dd, Same H H' → H' dd = none → E (.ref CT) (some dd) (upd H' dd (.xd [("index", .int (i : Nat))]))) ∨
        (∃ z its, d = .str z ∧ faultF 0 ⟨0, 0, 0⟩ (tl z) = none ∧ z = txB its ∧ IXs its ∧ (∀ f, resD its = .inl f → Rz C H E (fkJ f) (fkV f)) ∧ (∀ its', resD its = .inr its' → ∀ p xs H', Same H H' → H p = none → H' p = some (.lst xs) → Ios c H' xs its' → Q (.ref p) H')) := by
      cases hT with
      | no e => exact .inl ⟨e, q⟩
      | @bad z i e => exact .inr (.inl ⟨z, i, rfl, e, q⟩)
      | @fk z its f e ez hx he =>
        have hr' : resD its = .inl f := by unfold resD; rw [he]
        exact .inr (.inr ⟨z, its, rfl, e, ez, hx, fun f' e' => (by rw [hr'] at e'; cases e'; exact q), fun its' e' => (by rw [hr'] at e'; cases e')⟩)
      | @ok z its e ez hx he =>
        have hr' : resD its = .inr its := by unfold resD; rw [he]; rfl
        exact .inr (.inr ⟨z, its, rfl, e, ez, hx, fun f' e' => (by rw [hr'] at e'; cases e'), fun its' e' => (by rw [hr'] at e'; cases e'; exact q)⟩)
    clear q hT
    refine ⟨_, rfl, v, .ty "str", _, _, _, rfl, .ty _, hk.ty, kit_str d, _, rfl, ?_⟩
    rcases three with ⟨e, q⟩ | ⟨z, i, rfl, e, q⟩ | ⟨z, its, rfl, e, rfl, hx, qE, q⟩
    · rw [e]
      exact iteT ⟨_, rfl, fun dd hdd => q _ dd same_refl hdd⟩
    · cases hk.st z rfl
      have hz := hz1 z rfl
      rw [(isD_str (.str z)).mpr ⟨z, rfl⟩]
      refine iteF ⟨_, rfl, z, rfl, by omega, fun H1 S1 => ?_⟩
      rw [e]
      exact ⟨_, rfl, rfl, _, rfl, iteT ⟨_, rfl, _, rfl, fun dd hdd => q _ dd S1 hdd⟩⟩
    cases hk.st _ rfl
    have hz := hz1 _ rfl
    rw [(isD_str (.str (txB its))).mpr ⟨_, rfl⟩]
    refine iteF ⟨_, rfl, txB its, rfl, by omega, fun H1 S1 => ?_⟩
    rw [e]
    refine ⟨_, rfl, rfl, _, rfl, iteF ?_⟩
    have hT : (tkIs its).length ≤ 1000 := by
      have := tks_len hx
      rw [← xl_txB hx, ← len_tl] at this
      omega
    refine ⟨(by show 0 ≤ sizeLine; decide), fun p0 hp0 => ⟨(by show 0 ≤ sizeLine; decide), fun q0 hq0 => ?_⟩⟩
    refine ⟨_, rfl, txB its, rfl, by omega, fun L hL => ?_⟩
    rw [xwords_txB hx]
    have emap : ((tkIs its).map tkS).map V.str = (tkIs its).map fun t => V.str (tkS t) := by rw [List.map_map]; rfl
    rw [emap]
    have qp : q0 ≠ p0 := fun z => by rw [z, upd_same] at hq0; cases hq0
    have hq1 : H1 q0 = none := by rw [upd_ne qp] at hq0; exact hq0
    have Lq : L ≠ q0 := fun z => by rw [z, upd_same] at hL; cases hL
    have hL1 : upd H1 p0 (.lst []) L = none := by rw [upd_ne Lq] at hL; exact hL
    have Lp : L ≠ p0 := fun z => by rw [z, upd_same] at hL1; cases hL1
    have nH : ∀ {a : Addr}, H1 a = none → H a = none := fun {a} e => by
      cases e2 : H a with
      | none => rfl
      | some o => rw [S1 _ _ e2] at e; cases e
    refine ⟨L, rfl, ⟨_, SqL.of upd_same⟩, for_list (xs := (tkIs its).map fun t => V.str (tkS t)) (fun i σ Hk => ∃ (p q1 : Addr) (bs : List Addr) (vs fr : List V) (cur : List Itm) (st : List (Int × List Itm)) (y4 y5 y6 : Option V),
        σ = [some (.str (txB its)), some .non, some (.ref p), some (.ref q1), y4, y5, y6] ∧ Same H Hk ∧ (p :: q1 :: L :: bs).Nodup ∧ (∀ b ∈ p :: q1 :: bs, H b = none) ∧ Hk L = some (.lst ((tkIs its).map fun t => V.str (tkS t))) ∧ Hk p = some (.lst vs) ∧ Ios c Hk vs cur ∧ Hk q1 = some (.lst fr.reverse) ∧ Frs c Hk bs fr st ∧
        MRun2 cur st ((tkIs its).drop i) (resD its) ∧ ItsW 2 cur ∧ (∀ f ∈ st, ItsW 2 f.2) ∧ cur.length ≤ i ∧ (∀ f ∈ st, f.2.length ≤ i) ∧ st.length ≤ i) ?_ (fun i σ Hk _ h => ?_) ?_ ?_⟩
    · refine ⟨p0, q0, [], [], [], [], [], none, none, none, rfl, ?_, ?_, ?_, upd_same, ?_, .nil, ?_, .nil, mrun2_all hx, .nil, (fun f m => by cases m), Nat.le_refl _, (fun f m => by cases m), Nat.le_refl _⟩
      · exact ((S1.trans (same_new hp0)).trans (same_new hq0)).trans (same_new hL)
      · simp only [List.nodup_cons, List.mem_cons, List.not_mem_nil, or_false, not_or, not_false_eq_true, List.nodup_nil, and_true]
        exact ⟨⟨fun z => qp z.symm, fun z => Lp z.symm⟩, fun z => Lq z.symm⟩
      · intro b m
        rcases List.mem_cons.mp m with rfl | m
        · exact nH hp0
        · rcases List.mem_cons.mp m with rfl | m
          · exact nH hq1
          · cases m
      · rw [upd_ne (fun z => Lp z.symm), upd_ne (fun z => qp z.symm)]
        exact upd_same
      · rw [upd_ne (fun z => Lq z.symm)]
        exact upd_same
    · obtain ⟨p, q1, bs, vs, fr, cur, st, y4, y5, y6, _, _, _, _, h, _⟩ := h
      exact SqL.of h
    · rintro i x σ Hk hx ⟨p, q1, bs, vs, fr, cur, st, y4, y5, y6, rfl, S, nd, nn, hLk, hpk, hI, hqk, hF, hM, hv1, hv2, hl1, hl2, hl3⟩
      obtain ⟨tk, htk, rfl, ed⟩ := wtk hx
      rw [ed] at hM
      have il : i < (tkIs its).length := (List.getElem?_eq_some_iff.mp htk).1
      have nd0 := nd
      simp only [List.nodup_cons, List.mem_cons, not_or] at nd
      obtain ⟨⟨npq, npL, npb⟩, ⟨nqL, nqb⟩, nLb, nbb⟩ := nd
      have np := nn p (List.mem_cons_self ..)
      have nq := nn q1 (List.mem_cons_of_mem _ (List.mem_cons_self ..))
      have nb : ∀ b ∈ bs, H b = none := fun b m => nn b (List.mem_cons_of_mem _ (List.mem_cons_of_mem _ m))
      have hfl := hF.len
      cases tk with
      | it it =>
        obtain ⟨hp, hw0, hM⟩ := hM
        obtain ⟨l9, a, d, ea, d1, d2⟩ := plain_last hp hw0
        refine ⟨_, rfl, rfl, _, rfl, ?_⟩
        rw [show decide (V.str (tkS (.it it)) = V.str ")") = false from not_close ea (by omega)]
        refine iteF ⟨_, rfl, _, rfl, _, _, d, rfl, rfl, (show (txI it).length ≤ sizeLine by omega), (show atI (tl (txI it)) (-1) = some d by rw [ea]; exact atI_last a d), rfl, _, rfl, ?_⟩
        rw [sgn1 d 40 "(" tl_open, decide_eq_false (show ¬ d = 40 by omega)]
        refine iteF ⟨_, rfl, .inl ⟨rfl, _, SqL.of hpk⟩, _, rfl, it, rfl, hp, hw0, fun u H' S' hio => ?_⟩
        have vl := hI.len
        refine ⟨p, vs, u, rfl, rfl, S' _ _ hpk, by omega, p, q1, bs, vs ++ [u], fr, cur ++ [it], st, _, y5, y6, rfl, same_mod (S.trans S') np, nd0, nn, ?_, upd_same, ?_, ?_, ?_, hM, hv1.app (.cons (hw0.up (Nat.zero_le _)) .nil), hv2, ?_, ?_, by omega⟩
        · rw [upd_ne (fun z => npL z.symm)]; exact S' _ _ hLk
        · exact ((hI.keep (.same S')).keep (Kept.lst (S' _ _ hpk))).app (.cons (hio.keep (Kept.lst (S' _ _ hpk))) .nil)
        · rw [upd_ne (fun z => npq z.symm)]; exact S' _ _ hqk
        · refine Frs.keep (Kept.lst (S' _ _ hpk)) (fun b m => upd_ne (fun z => npb (z ▸ m))) (Frs.keep (.same S') (fun b m => ?_) hF)
          obtain ⟨ws, e⟩ := hF.lsts b m
          rw [e]; exact S' _ _ e
        · rw [List.length_append]; show _ + 1 ≤ _; omega
        · intro f m; have := hl2 f m; omega
      | op n =>
        obtain ⟨n0, n1, hM⟩ := hM
        have nl : (PySem.Str.ofString (toString n)).length ≤ 10 := toString_length_le n0 (by decide) (by omega)
        have ea : tl (tkS (.op n)) = tl (PySem.Str.ofString (toString n)) ++ [40] := by
          show tl (PySem.Str.ofString (toString n) ++ "(") = _
          rw [tl_append, tl_open]
        have hlen : (tkS (.op n)).length ≤ sizeLine := by
          rw [len_tl, ea, List.length_append, ← len_tl]
          show _ + 1 ≤ _
          omega
        refine ⟨_, rfl, rfl, _, rfl, ?_⟩
        rw [not_close ea (by decide)]
        refine iteF ⟨_, rfl, _, rfl, _, _, 40, rfl, rfl, hlen, (show atI (tl (tkS (.op n))) (-1) = some 40 by rw [ea]; exact atI_last _ _), rfl, _, rfl, ?_⟩
        rw [sgn1 40 40 "(" tl_open]
        refine iteT ⟨_, rfl, .inl ⟨rfl, _, SqL.of hqk⟩, _, rfl, _, rfl, _, rfl, _, rfl, hlen, _, n, rfl, ?_⟩
        rw [show cutS (tkS (.op n)) none (some (-1)) = PySem.Str.ofString (toString n) from cut_last ea]
        refine ⟨PySem.W.KIN.num_reads n0 (by omega), by omega, _, rfl, (by show 2 ≤ sizeLine; decide), fun t ht => ?_⟩
        have tq : q1 ≠ t := fun z => by rw [z, ht] at hqk; cases hqk
        have hq2 : upd Hk t (.tup [.int n, .ref p]) q1 = some (.lst fr.reverse) := by rw [upd_ne tq]; exact hqk
        refine ⟨q1, fr.reverse, .ref t, rfl, rfl, hq2, by rw [List.length_reverse]; omega, (by show 0 ≤ sizeLine; decide), fun p2 hp2 => ?_⟩
        have h2q : p2 ≠ q1 := fun z => by rw [z, upd_same] at hp2; cases hp2
        have hp3 : upd Hk t (.tup [.int n, .ref p]) p2 = none := by rw [upd_ne h2q] at hp2; exact hp2
        have h2t : p2 ≠ t := fun z => by rw [z, upd_same] at hp3; cases hp3
        have hp4 : Hk p2 = none := by rw [upd_ne h2t] at hp3; exact hp3
        have n2 : H p2 = none := by
          cases e2 : H p2 with
          | none => rfl
          | some o => rw [S _ _ e2] at hp4; cases hp4
        have old : ∀ {b : Addr} {o : HO}, Hk b = some o → b ≠ q1 → upd (upd (upd Hk t (.tup [.int n, .ref p])) q1 (.lst (fr.reverse ++ [.ref t]))) p2 (.lst []) b = some o := fun {b o} e ne => by
          rw [upd_ne (ne_of_none e hp4), upd_ne ne, upd_ne (ne_of_none e ht)]
          exact e
        have kp : Kept Hk (upd (upd (upd Hk t (.tup [.int n, .ref p])) q1 (.lst (fr.reverse ++ [.ref t]))) p2 (.lst [])) :=
          ((Kept.same (same_new ht)).trans (Kept.lst hq2)).trans (Kept.same (same_new hp2))
        refine ⟨p2, q1, p :: bs, [], .ref t :: fr, [], (n, cur) :: st, _, y5, y6, rfl, ?_, ?_, ?_, old hLk (fun z => nqL z.symm), upd_same, .nil, ?_, ?_, hM, .nil, ?_, Nat.zero_le _, ?_, ?_⟩
        · exact (same_mod (S.trans (same_new ht)) nq).trans (same_new hp2)
        · simp only [List.nodup_cons, List.mem_cons, not_or]
          refine ⟨⟨h2q, fun z => ?_, fun z => ?_, fun m => ?_⟩, ⟨nqL, fun z => npq z.symm, nqb⟩, ⟨fun z => npL z.symm, nLb⟩, npb, nbb⟩
          · rw [z, hLk] at hp4; cases hp4
          · rw [z, hpk] at hp4; cases hp4
          · obtain ⟨ws, e⟩ := hF.lsts _ m
            rw [e] at hp4; cases hp4
        · intro b m
          rcases List.mem_cons.mp m with rfl | m
          · exact n2
          · rcases List.mem_cons.mp m with rfl | m
            · exact nq
            · rcases List.mem_cons.mp m with rfl | m
              · exact np
              · exact nb b m
        · rw [upd_ne (fun z => h2q z.symm), upd_same, List.reverse_cons]
        · refine .cons ?_ (old hpk npq) (hI.keep kp) (Frs.keep kp (fun b m => ?_) hF)
          · rw [upd_ne (fun z => h2t z.symm), upd_ne (fun z => tq z.symm), upd_same]
          · obtain ⟨ws, e⟩ := hF.lsts b m
            rw [e]; exact old e (fun z => nqb (z ▸ m))
        · intro f m
          rcases List.mem_cons.mp m with rfl | m
          · exact hv1
          · exact hv2 f m
        · intro f m
          rcases List.mem_cons.mp m with rfl | m
          · show cur.length ≤ _; omega
          · have := hl2 f m; omega
        · rw [List.length_cons]; omega
      | cl =>
        cases st with
        | nil => exact hM.elim
        | cons f st =>
          obtain ⟨n, bf⟩ := f
          obtain ⟨n0, n1, cw, hf1, hM⟩ := hM
          cases hF with
          | @cons t b ws _ _ bs fr _ h1 h2 h3 h4 =>
            simp only [List.mem_cons, not_or] at npb nqb nLb
            refine ⟨_, rfl, rfl, _, rfl, iteT ?_⟩
            have hqr : Hk q1 = some (.lst (fr.reverse ++ [.ref t])) := by rw [hqk, List.reverse_cons]
            refine ⟨_, rfl, .inl ⟨rfl, _, SqL.of hqr⟩, q1, fr.reverse ++ [.ref t], .ref t, rfl, rfl, hqr, (by simp), ?_⟩
            rw [List.dropLast_concat]
            have o2 : ∀ {a : Addr} {o : HO}, Hk a = some o → a ≠ q1 → upd Hk q1 (.lst fr.reverse) a = some o := fun {a o} e ne => by rw [upd_ne ne]; exact e
            have tq : t ≠ q1 := ne_of h1 hqk (by intro z; cases z)
            refine ⟨t, [.int n, .ref b], rfl, .inl (.inl (o2 h1 tq)), rfl, _, [.ref b], rfl, _, [], rfl, rfl, ?_⟩
            have k2 : Kept Hk (upd Hk q1 (.lst fr.reverse)) := Kept.lst hqk
            have bq : b ≠ q1 := fun z => nqb.1 z.symm
            have hb2 := o2 h2 bq
            have hp2 := o2 hpk npq
            have hI2 := hI.keep k2
            have hI3 := h3.keep k2
            have hF2 : Frs c (upd Hk q1 (.lst fr.reverse)) bs fr st := Frs.keep k2 (fun a m => upd_ne (fun z => nqb.2 (z ▸ m))) h4
            have hL2 := o2 hLk (fun z => nqL z.symm)
            have S2 : Same H (upd Hk q1 (.lst fr.reverse)) := same_mod S nq
            have hq2 : upd Hk q1 (.lst fr.reverse) q1 = some (.lst fr.reverse) := upd_same
            generalize upd Hk q1 (.lst fr.reverse) = H2 at hb2 hp2 hI2 hI3 hF2 hL2 S2 hq2 ⊢
            refine ⟨_, rfl, .inl ⟨rfl, _, SqL.of hb2⟩, _, rfl, _, rfl, p, vs, rfl, .inr (SqL.of hp2), fun x dx nx ndx ne => ?_⟩
            rw [List.append_nil]
            have vl2 := hI2.len
            refine due_times n0 hI2 cw (by omega) nx ndx (fun f e => (qE f (hf1 f e)).same S2) (fun e0 H3 S3 hio => ?_)
            have wl := hI3.len
            have bl := hl2 (n, bf) (List.mem_cons_self ..)
            have bl' : bf.length ≤ i := bl
            refine ⟨b, ws, .ref x, rfl, rfl, S3 _ _ hb2, by omega, _, rfl, ?_⟩
            have k4 : Kept H3 (upd H3 b (.lst (ws ++ [.ref x]))) := Kept.lst (S3 _ _ hb2)
            have nb0 := nb b (List.mem_cons_self ..)
            simp only [List.nodup_cons] at nbb
            have o4 : ∀ {a : Addr} {o : HO}, H2 a = some o → a ≠ b → upd H3 b (.lst (ws ++ [.ref x])) a = some o := fun {a o} e ne => by rw [upd_ne ne]; exact S3 _ _ e
            refine ⟨b, q1, bs, ws ++ [.ref x], fr, bf ++ [.times n cur], st, _, _, _, rfl, same_mod (S2.trans S3) nb0, ?_, ?_, o4 hL2 nLb.1, upd_same, ?_, o4 hq2 nqb.1, ?_, hM e0, ?_, (fun f m => hv2 f (List.mem_cons_of_mem _ m)), ?_, ?_, ?_⟩
            · simp only [List.nodup_cons, List.mem_cons, not_or]
              exact ⟨⟨bq, fun z => nLb.1 z.symm, nbb.1⟩, ⟨nqL, nqb.2⟩, nLb.2, nbb.2⟩
            · intro a m
              rcases List.mem_cons.mp m with rfl | m
              · exact nb0
              · rcases List.mem_cons.mp m with rfl | m
                · exact nq
                · exact nb a (List.mem_cons_of_mem _ m)
            · exact ((hI3.keep (.same S3)).keep k4).app (.cons (hio.keep k4) .nil)
            · refine Frs.keep k4 (fun a m => upd_ne (fun z => nbb.1 (z ▸ m))) (Frs.keep (.same S3) (fun a m => ?_) hF2)
              obtain ⟨us, e⟩ := hF2.lsts a m
              rw [e]; exact S3 _ _ e
            · have hb2 := hv2 (n, bf) (List.mem_cons_self ..)
              have ow := own_nil (List.head?_eq_none_iff.mp e0)
              refine hb2.app (.cons (.times n0 ow.1 ow.2.1 (ItsW.up ow.2.2 cw.fit)) .nil)
            · rw [List.length_append]; show _ + 1 ≤ _; omega
            · intro f m; have := hl2 f (List.mem_cons_of_mem _ m); omega
            · rw [List.length_cons] at hl3; omega
    · rintro σ Hk ⟨p, q1, bs, vs, fr, cur, st, y4, y5, y6, rfl, S, nd, nn, hLk, hpk, hI, hqk, hF, hM, hv1, hv2, hl1, hl2, hl3⟩
      rw [List.length_map, List.drop_length] at hM
      obtain ⟨rfl, hM⟩ := hM
      exact ⟨_, rfl, q _ hM p vs Hk S (nn p (List.mem_cons_self ..)) hpk hI⟩
end
end KP
end

section
set_option Elab.async false
set_option linter.all false
set_option maxRecDepth 100000
set_option maxHeartbeats 4000000
namespace KP
open PySem PySem.Spec PyProof.Rows L2 Pn TL StX
abbrev sText : Stmt := top 52
def spBodyRd (c : Cs) : Sp := fun vs H Q _ => ∃ its : List Itm, vs = [.ref c.body, .str (txB its)] ∧ ItsW 2 its ∧ its.length ≤ 6 ∧ ∀ x H', Same H H' → H x = none → Bo c H' x its → Q (.ref x) H'
def spText (D : Nat) : Sp := fun vs H Q _ => ∃ (l : Addr) (xs : List V) (its : List Itm) (Bp : Addr → Prop), vs = [.ref l] ∧ H l = some (.lst xs) ∧ Rps Bp H xs its ∧ ItsOk D its ∧ its.length ≤ 6 ∧ ∀ H', Same H H' → Q (.str (txB its)) H'
def spTextP : Nat → Sp
  | 0 => spNo
  | d + 1 => spText d
theorem empty_add (x : PySem.Str) : PySem.Str.empty ++ x = x := ext_tl (by rw [tl_append]; rfl)
theorem lit_add (x : PySem.Str) : ("" : PySem.Str) ++ x = x := ext_tl (by rw [tl_append, show tl "" = [] by decide +kernel]; rfl)
def kSign : List (Key × V) := [(Sum.inr "say", .str "!"), (Sum.inr "press", .str ""), (Sum.inr "go", .str "@")]
section
variable {P : Program} {w : World} {K : PySem.W.Frag} {mg : Str → Option Value} {base : Heap} {fD pD fO fC tS tP tG tT tB fa iS iP iG iT iB fW fN fH : Addr} {fdD fdO fdC dS dP dG dT dB eS eP eG eT eB fdW fdN fdH : FuncData} {c : Cs} {C : Nat → Addr}
theorem scBodyR : FnScope ["cls", "text", "items"] ["cls", "text"] (defScope sBodyR) := ⟨rfl, rfl, rfl, by decide +kernel, rfl, by decide +kernel, by decide +kernel⟩
theorem ok_bodyRd {f rO rA rF rT rI : Addr} {fd dO dA dF dT' dI : FuncData} (F : Fun K "read" "Body.read" sBodyR f fd) (T : Blt3 mg) (T1 : Blt mg) (U : Blt2 mg) (RD : RdT mg) (B : BodT K mg c) (R : ErrT K mg C tclass) (Z : MakT K mg c fD pD fO fC tS tP tG tT tB fdD fdO fdC dS dP dG dT dB) (Y : InsT K mg c iS iP iG iT iB fW fN fH eS eP eG eT eB fdW fdN fdH)
    (N : RedT K mg rA rF rT rI dA dF dT' dI) (FO : Fun K "items_of" "items_of" sItemsOf rO dO) (bO : Binds K dO ["text"] []) (gO : Fn K mg "items_of" rO) : FnOk P w K mg base CX0 10 f fd ["cls", "text"] (spBodyRd c) := by
  have GO : FnOk P w K mg base CX0 9 rO dO ["text"] (spItemsOf c) := ok_itemsOf FO T T1 U RD B R Z Y N
  have GB : FnR P w K mg base (L2.CX P w) 5 iB (spBodyI K c C) := ok_bodyI Y.body T B R Z
  refine F.ok scBodyR (fun vs H Q E h => ?_) (fun cdv A outer s H vs Q E hr h => ?_)
  · obtain ⟨its, rfl, _⟩ := h
    rfl
  · obtain ⟨its, rfl, hw, h6, q⟩ := h
    have hr9 : Room 9 _ := hr
    have hr6 : Room 6 _ := hr.mono (by decide)
    refine ⟨_, pss_cons (ps_set (i := 2) scBodyR.nd rfl (Or.inl rfl) (pe_call GO hr9 rfl gO.g gO.k bO .nil pass0 (pa_cons (pv 1) pa_nil)))
      (pss_one (ps_ret (pe_makeL1 (i := 0) Y.mB GB hr6 rfl (Or.inl rfl) passF (pv 2)))), ?_⟩
    refine ⟨_, rfl, its, rfl, hw, h6, fun p xs H1 S1 np hp hI => ?_⟩
    refine ⟨rfl, _, rfl, p, xs, rfl, .inr (SqL.of hp), fun x dx nx ndx ne => ?_⟩
    refine mk_body hI hw h6 nx ndx (fun H' S' hB => q x H' (S1.trans S') ?_ hB)
    cases e : H x with
    | none => rfl
    | some o => rw [S1 _ _ e] at nx; cases nx
theorem scText : FnScope ["_law_items_here", "_law_found", "_law_one"] ["_law_items_here"] (defScope sText) := ⟨rfl, rfl, rfl, by decide +kernel, rfl, by decide +kernel, by decide +kernel⟩
theorem ok_text1 (D : Nat) (hD : D ≤ 2) {f fZ : Addr} {fd fdZ : FuncData} (F : Fun K "_law_text" "_law_text" sText f fd) (U : Blt2 mg) (GZ : FnOk P w K mg base CX0 (1 + D) fZ fdZ ["_law_items_here"] (spTextP D)) (bZ : Binds K fdZ ["_law_items_here"] []) (gZ : Fn K mg "_law_text" fZ) :
    FnOk P w K mg base CX0 (2 + D) f fd ["_law_items_here"] (spText D) := by
  rw [show 2 + D = (1 + D) + 1 by omega]
  refine F.ok scText (fun vs H Q E h => ?_) (fun cdv A outer s H vs Q E hr h => ?_)
  · obtain ⟨l, xs, its, Bp, rfl, _⟩ := h
    rfl
  · obtain ⟨l, xs, its, Bp, rfl, hL, hR, hO, h20, q⟩ := h
    have hrZ : Room (1 + D) _ := hr
    have hu := hu_of hr
    refine ⟨_, pss_cons (ps_set (i := 1) scText.nd rfl (Or.inl rfl) (pe_lst pa_nil))
      (pss_cons (ps_for PassesOwn.never rfl (pi_list (pv 0)) (pg_name (i := 2) scText.nd rfl (Or.inl rfl))
        (pss_one (ps_if (pt_cmpR op_eq (pe_ix (r := rIxT K) ix_tup (pv 2) pe_int (fun _ _ => rfl)) pe_str (nomark _))
          (pss_one (ps_expr (pe_bm PySem.F.plainAttrs_list PySem.F.slot_list_append PySem.F.type_list_append mt_append (pv 1) (pa_cons (pe_op op_add_str (pe_op op_add_str (pe_op op_add_str (pe_callTy call_str_int (by rfl) U.str (by decide +kernel) (pa_cons (pe_ix (r := rIxT K) ix_tup (pv 2) pe_int (fun _ _ => rfl)) pa_nil)) pe_str) (pe_call GZ hrZ rfl gZ.g gZ.k bZ .nil pass0 (pa_cons (pe_ix (r := rIxT K) ix_tup (pv 2) pe_int (fun _ _ => rfl)) pa_nil))) pe_str) pa_nil))))
          (pss_one (ps_expr (pe_bm PySem.F.plainAttrs_list PySem.F.slot_list_append PySem.F.type_list_append mt_append (pv 1) (pa_cons (pe_op op_add_str (pe_dget hu (pe_disp (pps_cons pe_str pe_str (pps_cons pe_str pe_str (pps_cons pe_str pe_str pps_nil))) (by rfl) (by rfl) (fun z => by cases z) (by decide)) (pe_ix (r := rIxT K) ix_tup (pv 2) pe_int (fun _ _ => rfl)) (fun _ _ => rfl)) (pe_ix (r := rIxT K) ix_tup (pv 2) pe_int (fun _ _ => rfl))) pa_nil)))))))
      (pss_one (ps_ret (pe_join pe_str (pv 1) rfl)))), ?_⟩
    refine ⟨(by show 0 ≤ sizeLine; decide), fun F0 hF0 => ?_⟩
    have m8 : sizeLine = 16777216 := rfl
    have hx := hR.len
    refine ⟨_, rfl, l, rfl, ⟨_, SqL.of ((same_new hF0) _ _ hL)⟩, for_list (xs := xs) (fun i σ Hk => ∃ y2, σ = [some (.ref l), some (.ref F0), y2] ∧ Same H Hk ∧ Hk F0 = some (.lst ((txs (its.take i)).map V.str))) ⟨none, rfl, same_new hF0, by rw [List.take_zero, txs]; exact upd_same⟩ (fun i σ Hk _ h => let ⟨_, _, S, _⟩ := h; SqL.of (S _ _ hL)) ?_ ?_⟩
    · rintro i x σ Hk hxi ⟨y2, rfl, S, hFk⟩
      obtain ⟨it, hit, hr0⟩ := (hR.same S).get hxi
      have hok := hO.get hit
      have il : i < xs.length := (List.getElem?_eq_some_iff.mp hxi).1
      have tk : txs (its.take (i + 1)) = txs (its.take i) ++ [txI it] := by
        rw [List.take_add_one, hit, txs_app]
        show _ ++ txs [it] = _
        rw [txs, txs]
      have lt : ((txs (its.take i)).map V.str).length ≤ 6 := by
        rw [List.length_map, txs_len, List.length_take]; omega
      have bw := txI_len hok.w
      have bD : ∀ z : PySem.Str, Wd z → z.length ≤ 8 := fun z h => wd_len h
      have l1 : (("!" : PySem.Str)).length = 1 := by decide +kernel
      have l2 : (("@" : PySem.Str)).length = 1 := by decide +kernel
      have l0 : (("" : PySem.Str)).length = 0 := by decide +kernel
      cases hr0 with
      | @say t z nB h =>
        cases hok with
        | say hw =>
        refine ⟨_, rfl, _, _, 0, _, rfl, rfl, SqT.of h, atI_nat rfl, rfl, _, rfl, iteF ?_⟩
        refine ⟨_, rfl, .inl ⟨rfl, _, SqL.of hFk⟩, fun d hd => ?_⟩
        have hF2 : upd (upd Hk d (.dK [])) d (.dK (mergeK [] kSign)) F0 = some (.lst ((txs (its.take i)).map V.str)) := by
          rw [upd_ne (ne_of_none hFk hd), upd_ne (ne_of_none hFk hd)]; exact hFk
        have h2 : upd (upd Hk d (.dK [])) d (.dK (mergeK [] kSign)) t = some (.tup [.str "say", .str z]) := by
          rw [upd_ne (ne_of_none h hd), upd_ne (ne_of_none h hd)]; exact h
        have gd : DGet (upd (upd Hk d (.dK [])) d (.dK (mergeK [] kSign))) d (.str "say") (some (.str "!")) := .k (k := .inr "say") upd_same
        have S2 : Same H (upd (upd Hk d (.dK [])) d (.dK (mergeK [] kSign))) := fun b o e => by
          rw [upd_ne (ne_of_none (S _ _ e) hd), upd_ne (ne_of_none (S _ _ e) hd)]; exact S _ _ e
        refine ⟨upd_same, kSign, rfl, by decide, _, rfl, _, _, 0, _, rfl, rfl, SqT.of h2, atI_nat rfl, d, _, rfl, gd, ?_⟩
        have zl := wd_len hw
        refine ⟨_, rfl, _, _, 1, _, rfl, rfl, SqT.of h2, atI_nat rfl, _, _, rfl, rfl, by rw [l1]; omega, ?_⟩
        rw [show ("!" : PySem.Str) ++ z = txI (.say z) by rw [txI, empty_add]]
        refine ⟨F0, _, _, rfl, rfl, hF2, by omega, _, rfl, same_mod S2 hF0, ?_⟩
        rw [upd_same, tk, List.map_append]
        rfl
      | @press t z nB h =>
        cases hok with
        | press hw =>
        refine ⟨_, rfl, _, _, 0, _, rfl, rfl, SqT.of h, atI_nat rfl, rfl, _, rfl, iteF ?_⟩
        refine ⟨_, rfl, .inl ⟨rfl, _, SqL.of hFk⟩, fun d hd => ?_⟩
        have hF2 : upd (upd Hk d (.dK [])) d (.dK (mergeK [] kSign)) F0 = some (.lst ((txs (its.take i)).map V.str)) := by
          rw [upd_ne (ne_of_none hFk hd), upd_ne (ne_of_none hFk hd)]; exact hFk
        have h2 : upd (upd Hk d (.dK [])) d (.dK (mergeK [] kSign)) t = some (.tup [.str "press", .str z]) := by
          rw [upd_ne (ne_of_none h hd), upd_ne (ne_of_none h hd)]; exact h
        have gd : DGet (upd (upd Hk d (.dK [])) d (.dK (mergeK [] kSign))) d (.str "press") (some (.str "")) := .k (k := .inr "press") upd_same
        have S2 : Same H (upd (upd Hk d (.dK [])) d (.dK (mergeK [] kSign))) := fun b o e => by
          rw [upd_ne (ne_of_none (S _ _ e) hd), upd_ne (ne_of_none (S _ _ e) hd)]; exact S _ _ e
        refine ⟨upd_same, kSign, rfl, by decide, _, rfl, _, _, 0, _, rfl, rfl, SqT.of h2, atI_nat rfl, d, _, rfl, gd, ?_⟩
        have zl := wd_len hw
        refine ⟨_, rfl, _, _, 1, _, rfl, rfl, SqT.of h2, atI_nat rfl, _, _, rfl, rfl, by rw [l0]; omega, ?_⟩
        rw [show ("" : PySem.Str) ++ z = txI (.press z) by rw [txI, lit_add]]
        refine ⟨F0, _, _, rfl, rfl, hF2, by omega, _, rfl, same_mod S2 hF0, ?_⟩
        rw [upd_same, tk, List.map_append]
        rfl
      | @go t z nB h =>
        cases hok with
        | go hw =>
        refine ⟨_, rfl, _, _, 0, _, rfl, rfl, SqT.of h, atI_nat rfl, rfl, _, rfl, iteF ?_⟩
        refine ⟨_, rfl, .inl ⟨rfl, _, SqL.of hFk⟩, fun d hd => ?_⟩
        have hF2 : upd (upd Hk d (.dK [])) d (.dK (mergeK [] kSign)) F0 = some (.lst ((txs (its.take i)).map V.str)) := by
          rw [upd_ne (ne_of_none hFk hd), upd_ne (ne_of_none hFk hd)]; exact hFk
        have h2 : upd (upd Hk d (.dK [])) d (.dK (mergeK [] kSign)) t = some (.tup [.str "go", .str z]) := by
          rw [upd_ne (ne_of_none h hd), upd_ne (ne_of_none h hd)]; exact h
        have gd : DGet (upd (upd Hk d (.dK [])) d (.dK (mergeK [] kSign))) d (.str "go") (some (.str "@")) := .k (k := .inr "go") upd_same
        have S2 : Same H (upd (upd Hk d (.dK [])) d (.dK (mergeK [] kSign))) := fun b o e => by
          rw [upd_ne (ne_of_none (S _ _ e) hd), upd_ne (ne_of_none (S _ _ e) hd)]; exact S _ _ e
        refine ⟨upd_same, kSign, rfl, by decide, _, rfl, _, _, 0, _, rfl, rfl, SqT.of h2, atI_nat rfl, d, _, rfl, gd, ?_⟩
        have zl := wd_len hw
        refine ⟨_, rfl, _, _, 1, _, rfl, rfl, SqT.of h2, atI_nat rfl, _, _, rfl, rfl, by rw [l2]; omega, ?_⟩
        rw [show ("@" : PySem.Str) ++ z = txI (.go z) by rw [txI, empty_add]]
        refine ⟨F0, _, _, rfl, rfl, hF2, by omega, _, rfl, same_mod S2 hF0, ?_⟩
        rw [upd_same, tk, List.map_append]
        rfl
      | @times t l2 n vs js nB nB2 h hl hR2 =>
        cases D with
        | zero => cases hok
        | succ d =>
          cases hok with
          | times n0 n1 n3 hj =>
            refine ⟨_, rfl, _, _, 0, _, rfl, rfl, SqT.of h, atI_nat rfl, rfl, _, rfl, iteT ?_⟩
            refine ⟨_, rfl, .inl ⟨rfl, _, SqL.of hFk⟩, _, rfl, _, _, 1, _, rfl, rfl, SqT.of h, atI_nat rfl, n, rfl, log_ok n0 n1, ?_⟩
            have nl : (PySem.Str.ofString (toString n)).length ≤ 10 := toString_length_le n0 (by decide) (by omega)
            have p1 : (("(" : PySem.Str)).length = 1 := by decide +kernel
            have p2 : ((")" : PySem.Str)).length = 1 := by decide +kernel
            have bw' : (txI (.times n js)).length ≤ bI (d + 1) := bw
            have e1 : txI (.times n js) = ((PySem.Str.ofString (toString n) ++ "(") ++ txB js) ++ ")" := by rw [txI, empty_add]; rfl
            have bl : (txB js).length ≤ 6 * (bI d + 1) := txB_len hj.w (by omega)
            have b2 : bI d ≤ bI 2 := bI_up (by omega)
            have b2' : bI 2 = 1042 := by decide
            refine ⟨_, _, rfl, rfl, by rw [p1]; omega, _, rfl, _, _, 2, _, rfl, rfl, SqT.of h, atI_nat rfl, l2, vs, js, _, rfl, hl, hR2, hj, by omega, fun H' S' => ?_⟩
            refine ⟨_, _, rfl, rfl, by rw [Str.length_append, p1]; omega, _, _, rfl, rfl, by rw [Str.length_append, Str.length_append, p1, p2]; omega, ?_⟩
            rw [← e1]
            refine ⟨F0, _, _, rfl, rfl, S' _ _ hFk, by omega, _, rfl, same_mod (S.trans S') hF0, ?_⟩
            rw [upd_same, tk, List.map_append]
            rfl
    · rintro σ Hk ⟨y2, rfl, S, hFk⟩
      rw [List.take_of_length_le (by omega)] at hFk
      refine ⟨⟨_, rfl⟩, _, rfl, _, _, txs its, rfl, rfl, .inl (SqL.of hFk), ?_, ?_⟩
      · exact txB_join hO.w h20 (by omega)
      · exact q Hk S
theorem ok_text {f : Addr} {fd : FuncData} (F : Fun K "_law_text" "_law_text" sText f fd) (U : Blt2 mg) (bZ : Binds K fd ["_law_items_here"] []) (gZ : Fn K mg "_law_text" f) : FnOk P w K mg base CX0 4 f fd ["_law_items_here"] (spText 2) :=
  ok_text1 2 (by decide) F U (ok_text1 1 (by decide) F U (ok_text1 0 (by decide) F U (fZ := f) (fdZ := fd) ok_no bZ gZ) bZ gZ) bZ gZ
end
end KP
end

section
set_option Elab.async false
set_option linter.all false
set_option maxRecDepth 100000
set_option maxHeartbeats 4000000
namespace KP
open PySem PySem.Spec PyProof.Rows L2 Pn TL StX
abbrev sNext : Stmt := top 53
abbrev sWrong : Stmt := top 54
def spReadX (K : PySem.W.Frag) (c : Cs) (C : Nat → Addr) (CT : Addr) : Sp := fun vs H Q E => ∃ (v : V) (d : PyData) (o : Out1), vs = [.ref c.body, v] ∧ Kd K H v d ∧ (∀ z, d = .str z → z.length ≤ 1000) ∧ Tells d o ∧
  Due1 K c C CT H E o (fun its => (6 < its.length → Rz C H E 2 (.int 6)) ∧ (its.length ≤ 6 → ∀ x H', Same H H' → H x = none → Bo c H' x its → Q (.ref x) H'))
section
variable {P : Program} {w : World} {K : PySem.W.Frag} {mg : Str → Option Value} {base : Heap} {fD pD fO fC tS tP tG tT tB fa iS iP iG iT iB fW fN fH : Addr} {fdD fdO fdC dS dP dG dT dB eS eP eG eT eB fdW fdN fdH : FuncData} {c : Cs} {C : Nat → Addr} {CT : Addr}
theorem ok_readX {f rO rA rF rT rI : Addr} {fd dO dA dF dT' dI : FuncData} (F : Fun K "read" "Body.read" sBodyR f fd) (T : Blt3 mg) (T1 : Blt mg) (U : Blt2 mg) (RD : RdT mg) (B : BodT K mg c) (R : ErrT K mg C tclass) (Z : MakT K mg c fD pD fO fC tS tP tG tT tB fdD fdO fdC dS dP dG dT dB) (Y : InsT K mg c iS iP iG iT iB fW fN fH eS eP eG eT eB fdW fdN fdH)
    (N : RedT K mg rA rF rT rI dA dF dT' dI) (IT : InvT K mg CT) (FO : Fun K "items_of" "items_of" sItemsOf rO dO) (bO : Binds K dO ["text"] []) (gO : Fn K mg "items_of" rO) : FnOk P w K mg base (L2.CX P w) 10 f fd ["cls", "text"] (spReadX K c C CT) := by
  have GO : FnOk P w K mg base (L2.CX P w) 9 rO dO ["text"] (spItemsX K c C CT) := ok_itemsX FO T T1 U RD B R Z Y N IT
  have GB : FnR P w K mg base (L2.CX P w) 5 iB (spBodyI K c C) := ok_bodyI Y.body T B R Z
  refine F.okX scBodyR (fun vs H Q E h => ?_) (fun cdv A outer s H vs Q E hr h => ?_)
  · obtain ⟨v, d, o, rfl, _⟩ := h
    rfl
  · obtain ⟨v, d, o, rfl, hk, hz, hT, q⟩ := h
    have hr9 : Room 9 _ := hr
    have hr6 : Room 6 _ := hr.mono (by decide)
    refine ⟨_, pss_cons (ps_set (i := 2) scBodyR.nd rfl (Or.inl rfl) (pe_call GO hr9 rfl gO.g gO.k bO .nil (passes_call (takes_of rfl rfl rfl rfl) (fun _ _ _ _ h => h)) (pa_cons (pv 1) pa_nil)))
      (pss_one (ps_ret (pe_makeL1 (i := 0) Y.mB GB hr6 rfl (Or.inl rfl) (passes_call (takes_of rfl rfl rfl rfl) (fun _ _ _ _ h => h)) (pv 2)))), ?_⟩
    refine ⟨_, rfl, v, d, o, rfl, hk, hz, hT, ?_⟩
    cases hT with
    | no e => exact q
    | bad e => exact q
    | fk e ez hx he => exact q
    | @ok z its e ez hx he =>
      obtain ⟨qm, q⟩ := q
      have hw := fks_w2 hx he
      have hxl : its.length ≤ (tkIs its).length := by
        have all : ∀ is : List Itm, is.length ≤ (tkIs is).length := by
          intro is
          induction is with
          | nil => simp
          | cons i is ih =>
            rw [tkIs, List.length_append, List.length_cons]
            have : 1 ≤ (tkI i).length := by cases i <;> (rw [tkI]; simp)
            omega
        exact all its
      have hT1 : (tkIs its).length ≤ 1000 := by
        have := tks_len hx
        rw [← xl_txB hx, ← len_tl, ← ez] at this
        have := hz z rfl
        omega
      intro p xs H1 S1 np hp hI
      have xl := hI.len
      refine ⟨rfl, _, rfl, p, xs, rfl, .inr (SqL.of hp), fun x dx nx ndx ne => ?_⟩
      have n0 : H x = none := by
        cases e : H x with
        | none => rfl
        | some o => rw [S1 _ _ e] at nx; cases nx
      have hc : chk (its.map some) 2 = if 6 < its.length then some (2, 6) else none := by
        unfold chk
        rw [firstBad_map]
        show (if 6 < (its.map some).length then some (2, (6 : Int)) else if (2 : Int) < ((dIs (goods (its.map some)) : Nat) : Int) then some (3, (2 : Int)) else none) = _
        rw [List.length_map, goods_map]
        have := hw.dIs
        by_cases g : 6 < its.length
        · rw [if_pos g, if_pos g]
        · rw [if_neg g, if_neg g, if_neg (by omega)]
      refine ⟨H1, x, dx, xs, its.map some, rfl, same_ins nx ndx, nx, upd_same, Ents.ofIos hI hw, by omega, fun j y ec => ?_, fun ec its' H' eo hw' h6' S' hB => ⟨rfl, ?_⟩⟩
      · rw [hc] at ec
        by_cases g : 6 < its.length
        · rw [if_pos g] at ec
          cases ec
          exact (qm g).same S1
        · rw [if_neg g] at ec; cases ec
      · have := map_some_inj eo
        subst this
        exact q h6' x H' (S1.trans S') n0 hB
end
/-! ### the law's own machine -/
def srt : Nat → PySem.Str
  | 0 => "begin"
  | 1 => "open"
  | 2 => "mark"
  | 3 => "word"
  | 4 => "zero"
  | 5 => "number"
  | _ => "done"
theorem seven {P : Nat → Prop} (h0 : P 0) (h1 : P 1) (h2 : P 2) (h3 : P 3) (h4 : P 4) (h5 : P 5) (h6 : P 6) : ∀ l, l < 7 → P l
  | 0, _ => h0
  | 1, _ => h1
  | 2, _ => h2
  | 3, _ => h3
  | 4, _ => h4
  | 5, _ => h5
  | 6, _ => h6
  | l + 7, h => absurd h (by omega)
theorem sn2 (a b : Nat) (ha : a < 7) (hb : b < 7) : ∀ l, l < 7 → inV (.str (srt l)) [.str (srt a), .str (srt b)] = decide (l = a ∨ l = b) := by
  have all : ∀ a, a < 7 → ∀ b, b < 7 → ∀ l, l < 7 → inV (.str (srt l)) [.str (srt a), .str (srt b)] = decide (l = a ∨ l = b) := by decide +kernel
  exact all a ha b hb
theorem sn3 (a b c : Nat) (ha : a < 7) (hb : b < 7) (hc : c < 7) : ∀ l, l < 7 → inV (.str (srt l)) [.str (srt a), .str (srt b), .str (srt c)] = decide (l = a ∨ l = b ∨ l = c) := by
  have all : ∀ a, a < 7 → ∀ b, b < 7 → ∀ c, c < 7 → ∀ l, l < 7 → inV (.str (srt l)) [.str (srt a), .str (srt b), .str (srt c)] = decide (l = a ∨ l = b ∨ l = c) := by decide +kernel
  exact all a ha b hb c hc
theorem si1 (a : Nat) (ha : a < 7) : ∀ l, l < 7 → decide (V.str (srt l) = V.str (srt a)) = decide (l = a) := by
  have all : ∀ a, a < 7 → ∀ l, l < 7 → decide (V.str (srt l) = V.str (srt a)) = decide (l = a) := by decide +kernel
  exact all a ha
def trip (y : Nat × Int × Int) : List V := [.str (srt y.1), .int y.2.1, .int y.2.2]
def NQ (Q : VK) (H' : Hp) : Option (Nat × Int × Int) → Prop
  | none => Q .non H'
  | some y => ∀ t, H' t = some (.tup (trip y)) → Q (.ref t) H'
def spNext : Sp := fun vs H Q _ => ∃ (so c : Nat) (size deep : Int), vs = [.str (srt so), .int size, .int deep, .str ⟨#[c]⟩] ∧ so < 7 ∧ ∀ H', Same H H' → NQ Q H' (nxt so size deep c)
section
variable {P : Program} {w : World} {K : PySem.W.Frag} {mg : Str → Option Value} {base : Heap}
theorem scNext : FnScope ["_law_sort", "_law_size", "_law_deep", "_law_sign", "_law_signs", "_law_digits"] ["_law_sort", "_law_size", "_law_deep", "_law_sign"] (defScope sNext) := ⟨rfl, rfl, rfl, by decide +kernel, rfl, by decide +kernel, by decide +kernel⟩
theorem ok_next {f : Addr} {fd : FuncData} (F : Fun K "_law_next" "_law_next" sNext f fd) : FnOk P w K mg base CX0 1 f fd ["_law_sort", "_law_size", "_law_deep", "_law_sign"] spNext := by
  refine F.ok scNext (fun vs H Q E h => ?_) (fun cdv A outer s H vs Q E hr h => ?_)
  · obtain ⟨so, c, size, deep, rfl, _⟩ := h
    rfl
  · obtain ⟨so, c, size, deep, rfl, hs, q⟩ := h
    refine ⟨_, pss_cons (ps_asg (pe_tup (pa_cons pe_str (pa_cons pe_str pa_nil))) (pg_tup (by rfl) (pgs_cons (pg_name (i := 4) scNext.nd rfl (Or.inl rfl)) (pgs_cons (pg_name (i := 5) scNext.nd rfl (Or.inl rfl)) pgs_nil))))
      (C8.pss_cut (ps_if (PW.pt (pw_and (pt_cmpR op_in_seq (pv 0) (pe_tup (pa_cons pe_str (pa_cons pe_str pa_nil))) rfl) (pw_and1 (pt_cmpR op_in_sign (pv 3) pe_str rfl)))) (pss_one (ps_ret (pe_tup (pa_cons pe_str (pa_cons pe_int (pa_cons (pv 2) pa_nil)))))) pss_nil)
      (C8.pss_cut (ps_if (PW.pt (pw_and (pt_cmpR op_in_seq (pv 0) (pe_tup (pa_cons pe_str (pa_cons pe_str (pa_cons pe_str pa_nil)))) rfl) (pw_and1 (pt_cmpR op_in_sign (pv 3) (pv 4) rfl)))) (pss_one (ps_ret (pe_tup (pa_cons pe_str (pa_cons pe_int (pa_cons (pv 2) pa_nil)))))) pss_nil)
      (C8.pss_cut (ps_if (PW.pt (pw_and (pt_cmpR op_in_seq (pv 0) (pe_tup (pa_cons pe_str (pa_cons pe_str pa_nil))) rfl) (pw_and1 (pt_cmpR op_in_sign (pv 3) (pv 5) rfl)))) (pss_one (ps_ret (pe_tup (pa_cons (pe_ifExp (pt_cmpR op_eq (pv 3) pe_str (nomark _)) pe_str pe_str) (pa_cons pe_int (pa_cons (pv 2) pa_nil)))))) pss_nil)
      (C8.pss_cut (ps_if (PW.pt (pw_and (pt_cmpR op_eq (pv 0) pe_str (nomark _)) (pw_and (pt_cmpR op_in_sign (pv 3) (pv 4) rfl) (pw_and1 (pt_cmpR op_lt (pv 1) pe_int (nomark _)))))) (pss_one (ps_ret (pe_tup (pa_cons pe_str (pa_cons (pe_op op_add (pv 1) pe_int) (pa_cons (pv 2) pa_nil)))))) pss_nil)
      (C8.pss_cut (ps_if (PW.pt (pw_and (pt_cmpR op_eq (pv 0) pe_str (nomark _)) (pw_and (pt_cmpR op_in_sign (pv 3) (pv 5) rfl) (pw_and1 (pt_cmpR op_lt (pv 1) pe_int (nomark _)))))) (pss_one (ps_ret (pe_tup (pa_cons pe_str (pa_cons (pe_op op_add (pv 1) pe_int) (pa_cons (pv 2) pa_nil)))))) pss_nil)
      (C8.pss_cut (ps_if (PW.pt (pw_and (pt_cmpR op_in_seq (pv 0) (pe_tup (pa_cons pe_str (pa_cons pe_str pa_nil))) rfl) (pw_and1 (pt_cmpR op_eq (pv 3) pe_str (nomark _))))) (pss_one (ps_ret (pe_tup (pa_cons pe_str (pa_cons pe_int (pa_cons (pe_op op_add (pv 2) pe_int) pa_nil)))))) pss_nil)
      (C8.pss_cut (ps_if (PW.pt (pw_and (pt_cmpR op_in_seq (pv 0) (pe_tup (pa_cons pe_str (pa_cons pe_str pa_nil))) rfl) (pw_and1 (pt_cmpR op_eq (pv 3) pe_str (nomark _))))) (pss_one (ps_ret (pe_tup (pa_cons pe_str (pa_cons pe_int (pa_cons (pv 2) pa_nil)))))) pss_nil)
      (pss_one (ps_ret (pe_ifExp (PW.pt (pw_and (pt_cmpR op_in_seq (pv 0) (pe_tup (pa_cons pe_str (pa_cons pe_str (pa_cons pe_str pa_nil)))) rfl) (pw_and (pt_cmpR op_eq (pv 3) pe_str (nomark _)) (pw_and1 (pt_cmpR op_gt (pv 2) pe_int (nomark _)))))) (pe_tup (pa_cons pe_str (pa_cons pe_int (pa_cons (pe_op op_sub (pv 2) pe_int) pa_nil)))) pe_non)))))))))), ?_⟩
    refine ⟨(by show 2 ≤ sizeLine; decide), fun t0 ht0 => ⟨t0, _, rfl, .inl (.inl upd_same), rfl, _, _, rfl, _, [], rfl, rfl, ?_⟩⟩
    have S : Same H (upd H t0 (.tup [.str "abcdefghijklmnopqrstuvwxyz", .str "0123456789"])) := same_new ht0
    generalize upd H t0 (.tup [.str "abcdefghijklmnopqrstuvwxyz", .str "0123456789"]) = Hk at S ⊢
    unfold nxt at q
    have e33 : decide (c ∈ ("!@" : PySem.Str).cps.toList) = decide (c = 33 ∨ c = 64) := by
      have e : ("!@" : PySem.Str).cps.toList = [33, 64] := by decide +kernel
      rw [e]
      simp
    refine ⟨fun σ' H' => σ' = [some (.str (srt so)), some (.int size), some (.int deep), some (.str ⟨#[c]⟩), some (.str "abcdefghijklmnopqrstuvwxyz"), some (.str "0123456789")] ∧ Same H H' ∧ ¬ ((so = 0 ∨ so = 1) ∧ (c = 33 ∨ c = 64)), ?_, ?_⟩
    · refine ⟨_, rfl, (by show 2 ≤ sizeLine; decide), fun t ht => ⟨t, _, rfl, .inr (SqT.of upd_same), rfl, rfl, _, rfl, ?_⟩⟩
      rw [if_neg Bool.false_ne_true, show inV (.str (srt so)) [.str "begin", .str "open"] = decide (so = 0 ∨ so = 1) from sn2 0 1 (by decide) (by decide) so hs]
      replace S : Same H (upd Hk t (.tup [.str "begin", .str "open"])) := S.trans (same_new ht)
      generalize upd Hk t (.tup [.str "begin", .str "open"]) = Hk at S ⊢
      refine ite2 (fun g1 => ?_) (fun g1 => ?_)
      · refine ⟨_, rfl, c, _, rfl, rfl, _, rfl, ?_⟩
        rw [e33]
        refine ite2 (fun g2 => ?_) (fun g2 => ?_)
        · rw [if_pos ⟨of_decide_eq_true g1, of_decide_eq_true g2⟩] at q
          exact ⟨_, rfl, (by show 3 ≤ sizeLine; decide), fun t2 ht2 => q _ (S.trans (same_new ht2)) t2 upd_same⟩
        · exact ⟨rfl, S, fun z => dec_of g2 z.2⟩
      · exact ⟨rfl, S, fun z => dec_of g1 z.1⟩
    rintro σ' Hk ⟨rfl, S, gg⟩
    rw [if_neg gg] at q
    refine ⟨fun σ' H' => σ' = [some (.str (srt so)), some (.int size), some (.int deep), some (.str ⟨#[c]⟩), some (.str "abcdefghijklmnopqrstuvwxyz"), some (.str "0123456789")] ∧ Same H H' ∧ ¬ ((so = 0 ∨ so = 1 ∨ so = 2) ∧ c ∈ smalls), ?_, ?_⟩
    · refine ⟨_, rfl, (by show 3 ≤ sizeLine; decide), fun t ht => ⟨t, _, rfl, .inr (SqT.of upd_same), rfl, rfl, _, rfl, ?_⟩⟩
      rw [if_neg Bool.false_ne_true, show inV (.str (srt so)) [.str "begin", .str "open", .str "mark"] = decide (so = 0 ∨ so = 1 ∨ so = 2) from sn3 0 1 2 (by decide) (by decide) (by decide) so hs]
      replace S : Same H (upd Hk t (.tup [.str "begin", .str "open", .str "mark"])) := S.trans (same_new ht)
      generalize upd Hk t (.tup [.str "begin", .str "open", .str "mark"]) = Hk at S ⊢
      refine ite2 (fun g1 => ?_) (fun g1 => ?_)
      · refine ⟨_, rfl, _, rfl, c, _, rfl, rfl, _, rfl, ?_⟩
        refine ite2 (fun g2 => ?_) (fun g2 => ?_)
        · rw [if_pos ⟨of_decide_eq_true g1, (of_decide_eq_true g2 : c ∈ smalls)⟩] at q
          exact ⟨_, rfl, (by show 3 ≤ sizeLine; decide), fun t2 ht2 => q _ (S.trans (same_new ht2)) t2 upd_same⟩
        · exact ⟨rfl, S, fun z => dec_of g2 (z.2 : c ∈ smalls)⟩
      · exact ⟨rfl, S, fun z => dec_of g1 z.1⟩
    rintro σ' Hk ⟨rfl, S, gg⟩
    rw [if_neg gg] at q
    refine ⟨fun σ' H' => σ' = [some (.str (srt so)), some (.int size), some (.int deep), some (.str ⟨#[c]⟩), some (.str "abcdefghijklmnopqrstuvwxyz"), some (.str "0123456789")] ∧ Same H H' ∧ ¬ ((so = 0 ∨ so = 1) ∧ c ∈ digs), ?_, ?_⟩
    · refine ⟨_, rfl, (by show 2 ≤ sizeLine; decide), fun t ht => ⟨t, _, rfl, .inr (SqT.of upd_same), rfl, rfl, _, rfl, ?_⟩⟩
      rw [if_neg Bool.false_ne_true, show inV (.str (srt so)) [.str "begin", .str "open"] = decide (so = 0 ∨ so = 1) from sn2 0 1 (by decide) (by decide) so hs]
      replace S : Same H (upd Hk t (.tup [.str "begin", .str "open"])) := S.trans (same_new ht)
      generalize upd Hk t (.tup [.str "begin", .str "open"]) = Hk at S ⊢
      refine ite2 (fun g1 => ?_) (fun g1 => ?_)
      · refine ⟨_, rfl, _, rfl, c, _, rfl, rfl, _, rfl, ?_⟩
        refine ite2 (fun g2 => ?_) (fun g2 => ?_)
        · rw [if_pos ⟨of_decide_eq_true g1, (of_decide_eq_true g2 : c ∈ digs)⟩] at q
          refine ⟨_, rfl, rfl, _, rfl, ?_⟩
          rw [sgn1 c 48 "0" (by decide +kernel)]
          refine ite2 (fun g3 => ?_) (fun g3 => ?_)
          · rw [if_pos (of_decide_eq_true g3)] at q
            exact ⟨_, rfl, (by show 3 ≤ sizeLine; decide), fun t2 ht2 => q _ (S.trans (same_new ht2)) t2 upd_same⟩
          · rw [if_neg (dec_of g3)] at q
            exact ⟨_, rfl, (by show 3 ≤ sizeLine; decide), fun t2 ht2 => q _ (S.trans (same_new ht2)) t2 upd_same⟩
        · exact ⟨rfl, S, fun z => dec_of g2 (z.2 : c ∈ digs)⟩
      · exact ⟨rfl, S, fun z => dec_of g1 z.1⟩
    rintro σ' Hk ⟨rfl, S, gg⟩
    rw [if_neg gg] at q
    refine ⟨fun σ' H' => σ' = [some (.str (srt so)), some (.int size), some (.int deep), some (.str ⟨#[c]⟩), some (.str "abcdefghijklmnopqrstuvwxyz"), some (.str "0123456789")] ∧ Same H H' ∧ ¬ (so = 3 ∧ c ∈ smalls ∧ size < 8), ?_, ?_⟩
    · refine ⟨_, rfl, rfl, _, rfl, ?_⟩
      rw [show decide (V.str (srt so) = V.str "word") = decide (so = 3) from si1 3 (by decide) so hs]
      refine ite2 (fun g1 => ?_) (fun g1 => ?_)
      · refine ⟨_, rfl, _, rfl, c, _, rfl, rfl, _, rfl, ?_⟩
        refine ite2 (fun g2 => ?_) (fun g2 => ?_)
        · refine ⟨_, rfl, _, _, rfl, rfl, _, rfl, ite2 (fun g3 => ?_) (fun g3 => ?_)⟩
          · rw [if_pos ⟨of_decide_eq_true g1, (of_decide_eq_true g2 : c ∈ smalls), of_decide_eq_true g3⟩] at q
            exact ⟨_, rfl, _, _, rfl, rfl, _, rfl, (by show 3 ≤ sizeLine; decide), fun t2 ht2 => q _ (S.trans (same_new ht2)) t2 upd_same⟩
          · exact ⟨rfl, S, fun z => dec_of g3 z.2.2⟩
        · exact ⟨rfl, S, fun z => dec_of g2 (z.2.1 : c ∈ smalls)⟩
      · exact ⟨rfl, S, fun z => dec_of g1 z.1⟩
    rintro σ' Hk ⟨rfl, S, gg⟩
    rw [if_neg gg] at q
    refine ⟨fun σ' H' => σ' = [some (.str (srt so)), some (.int size), some (.int deep), some (.str ⟨#[c]⟩), some (.str "abcdefghijklmnopqrstuvwxyz"), some (.str "0123456789")] ∧ Same H H' ∧ ¬ (so = 5 ∧ c ∈ digs ∧ size < 10), ?_, ?_⟩
    · refine ⟨_, rfl, rfl, _, rfl, ?_⟩
      rw [show decide (V.str (srt so) = V.str "number") = decide (so = 5) from si1 5 (by decide) so hs]
      refine ite2 (fun g1 => ?_) (fun g1 => ?_)
      · refine ⟨_, rfl, _, rfl, c, _, rfl, rfl, _, rfl, ?_⟩
        refine ite2 (fun g2 => ?_) (fun g2 => ?_)
        · refine ⟨_, rfl, _, _, rfl, rfl, _, rfl, ite2 (fun g3 => ?_) (fun g3 => ?_)⟩
          · rw [if_pos ⟨of_decide_eq_true g1, (of_decide_eq_true g2 : c ∈ digs), of_decide_eq_true g3⟩] at q
            exact ⟨_, rfl, _, _, rfl, rfl, _, rfl, (by show 3 ≤ sizeLine; decide), fun t2 ht2 => q _ (S.trans (same_new ht2)) t2 upd_same⟩
          · exact ⟨rfl, S, fun z => dec_of g3 z.2.2⟩
        · exact ⟨rfl, S, fun z => dec_of g2 (z.2.1 : c ∈ digs)⟩
      · exact ⟨rfl, S, fun z => dec_of g1 z.1⟩
    rintro σ' Hk ⟨rfl, S, gg⟩
    rw [if_neg gg] at q
    refine ⟨fun σ' H' => σ' = [some (.str (srt so)), some (.int size), some (.int deep), some (.str ⟨#[c]⟩), some (.str "abcdefghijklmnopqrstuvwxyz"), some (.str "0123456789")] ∧ Same H H' ∧ ¬ ((so = 5 ∨ so = 4) ∧ c = 40), ?_, ?_⟩
    · refine ⟨_, rfl, (by show 2 ≤ sizeLine; decide), fun t ht => ⟨t, _, rfl, .inr (SqT.of upd_same), rfl, rfl, _, rfl, ?_⟩⟩
      rw [if_neg Bool.false_ne_true, show inV (.str (srt so)) [.str "number", .str "zero"] = decide (so = 5 ∨ so = 4) from sn2 5 4 (by decide) (by decide) so hs]
      replace S : Same H (upd Hk t (.tup [.str "number", .str "zero"])) := S.trans (same_new ht)
      generalize upd Hk t (.tup [.str "number", .str "zero"]) = Hk at S ⊢
      refine ite2 (fun g1 => ?_) (fun g1 => ?_)
      · refine ⟨_, rfl, rfl, _, rfl, ?_⟩
        rw [sgn1 c 40 "(" tl_open]
        refine ite2 (fun g2 => ?_) (fun g2 => ?_)
        · rw [if_pos ⟨of_decide_eq_true g1, of_decide_eq_true g2⟩] at q
          exact ⟨_, rfl, _, _, rfl, rfl, (by show 3 ≤ sizeLine; decide), fun t2 ht2 => q _ (S.trans (same_new ht2)) t2 upd_same⟩
        · exact ⟨rfl, S, fun z => dec_of g2 z.2⟩
      · exact ⟨rfl, S, fun z => dec_of g1 z.1⟩
    rintro σ' Hk ⟨rfl, S, gg⟩
    rw [if_neg gg] at q
    refine ⟨fun σ' H' => σ' = [some (.str (srt so)), some (.int size), some (.int deep), some (.str ⟨#[c]⟩), some (.str "abcdefghijklmnopqrstuvwxyz"), some (.str "0123456789")] ∧ Same H H' ∧ ¬ ((so = 3 ∨ so = 6) ∧ c = 32), ?_, ?_⟩
    · refine ⟨_, rfl, (by show 2 ≤ sizeLine; decide), fun t ht => ⟨t, _, rfl, .inr (SqT.of upd_same), rfl, rfl, _, rfl, ?_⟩⟩
      rw [if_neg Bool.false_ne_true, show inV (.str (srt so)) [.str "word", .str "done"] = decide (so = 3 ∨ so = 6) from sn2 3 6 (by decide) (by decide) so hs]
      replace S : Same H (upd Hk t (.tup [.str "word", .str "done"])) := S.trans (same_new ht)
      generalize upd Hk t (.tup [.str "word", .str "done"]) = Hk at S ⊢
      refine ite2 (fun g1 => ?_) (fun g1 => ?_)
      · refine ⟨_, rfl, rfl, _, rfl, ?_⟩
        rw [sgn1 c 32 " " tl_sp]
        refine ite2 (fun g2 => ?_) (fun g2 => ?_)
        · rw [if_pos ⟨of_decide_eq_true g1, of_decide_eq_true g2⟩] at q
          exact ⟨_, rfl, (by show 3 ≤ sizeLine; decide), fun t2 ht2 => q _ (S.trans (same_new ht2)) t2 upd_same⟩
        · exact ⟨rfl, S, fun z => dec_of g2 z.2⟩
      · exact ⟨rfl, S, fun z => dec_of g1 z.1⟩
    rintro σ' Hk ⟨rfl, S, gg⟩
    rw [if_neg gg] at q
    refine ⟨_, rfl, (by show 3 ≤ sizeLine; decide), fun t ht => ⟨t, _, rfl, .inr (SqT.of upd_same), rfl, rfl, _, rfl, ?_⟩⟩
    rw [if_neg Bool.false_ne_true, show inV (.str (srt so)) [.str "word", .str "done", .str "open"] = decide (so = 3 ∨ so = 6 ∨ so = 1) from sn3 3 6 1 (by decide) (by decide) (by decide) so hs]
    replace S : Same H (upd Hk t (.tup [.str "word", .str "done", .str "open"])) := S.trans (same_new ht)
    generalize upd Hk t (.tup [.str "word", .str "done", .str "open"]) = Hk at S ⊢
    refine ite2 (fun g1 => ?_) (fun g1 => ?_)
    · refine ⟨_, rfl, rfl, _, rfl, ?_⟩
      rw [sgn1 c 41 ")" tl_close]
      refine ite2 (fun g2 => ?_) (fun g2 => ?_)
      · refine ⟨_, rfl, _, _, rfl, rfl, _, rfl, ite2 (fun g3 => ?_) (fun g3 => ?_)⟩
        · rw [if_pos ⟨of_decide_eq_true g1, of_decide_eq_true g2, of_decide_eq_true g3⟩] at q
          exact ⟨_, rfl, _, _, rfl, rfl, (by show 3 ≤ sizeLine; decide), fun t2 ht2 => q _ (S.trans (same_new ht2)) t2 upd_same⟩
        · rw [if_neg (fun z => dec_of g3 z.2.2)] at q
          exact q _ S
      · rw [if_neg (fun z => dec_of g2 z.2.1)] at q
        exact q _ S
    · rw [if_neg (fun z => dec_of g1 z.1)] at q
      exact q _ S
end
end KP
end

section
set_option Elab.async false
set_option linter.all false
set_option maxRecDepth 100000
set_option maxHeartbeats 4000000
namespace KP
open PySem PySem.Spec PyProof.Rows L2 Pn TL StX
theorem wrong_end {st : Sta} {x : Nat × Int × Int} (h : Rl st x) (g : ¬ (st.l = 0 ∧ st.depth = 0)) (n : Nat) : (if 0 < st.depth ∨ st.l = 1 ∨ st.l = 2 ∨ st.l = 4 then some n else none) = if (x.1 = 3 ∨ x.1 = 6) ∧ x.2.2 = 0 then none else some n := by
  obtain ⟨h1, h2, h3⟩ := h
  by_cases q : 0 < st.depth ∨ st.l = 1 ∨ st.l = 2 ∨ st.l = 4
  · rw [if_pos q, if_neg]
    omega
  · rw [if_neg q, if_pos]
    omega
theorem rl_lt {st : Sta} {x : Nat × Int × Int} (h : Rl st x) : x.1 < 7 := by
  obtain ⟨h1, h2, h3⟩ := h
  omega
section
variable {P : Program} {w : World} {K : PySem.W.Frag} {mg : Str → Option Value} {base : Heap}
theorem scWrong : FnScope ["_law_text_here", "_law_here", "_law_k"] ["_law_text_here"] (defScope sWrong) := ⟨rfl, rfl, rfl, by decide +kernel, rfl, by decide +kernel, by decide +kernel⟩
theorem ok_wrong {f fN : Addr} {fd fdN : FuncData} (F : Fun K "_law_wrong" "_law_wrong" sWrong f fd) (T1 : Blt mg) (FN : Fun K "_law_next" "_law_next" sNext fN fdN) (bN : Binds K fdN ["_law_sort", "_law_size", "_law_deep", "_law_sign"] []) (gN : Fn K mg "_law_next" fN) :
    FnOk P w K mg base CX0 2 f fd ["_law_text_here"] spFault := by
  have GN : FnOk P w K mg base CX0 1 fN fdN ["_law_sort", "_law_size", "_law_deep", "_law_sign"] spNext := ok_next FN
  refine F.ok scWrong (fun vs H Q E h => ?_) (fun cdv A outer s H vs Q E hr h => ?_)
  · obtain ⟨z, rfl, _⟩ := h
    rfl
  · obtain ⟨z, rfl, hz, q⟩ := h
    have hr1 : Room 1 _ := hr
    refine ⟨_, pss_cons (ps_set (i := 1) scWrong.nd rfl (Or.inl rfl) (pe_tup (pa_cons pe_str (pa_cons pe_int (pa_cons pe_int pa_nil)))))
      (pss_cons (ps_for PassesOwn.never rfl (pi_range1 (by rfl) T1.range (pa_cons (pe_callB call_len_str (by rfl) T1.len PySem.boot_len (pa_cons (pv 0) pa_nil)) pa_nil)) (pg_name (i := 2) scWrong.nd rfl (Or.inl rfl))
        (pss_cons (ps_set (i := 1) scWrong.nd rfl (Or.inl rfl) (pe_call GN hr1 rfl gN.g gN.k bN .nil pass0 (pa_cons (pe_ix (r := rIxT K) ix_tup (pv 1) pe_int (fun _ _ => rfl)) (pa_cons (pe_ix (r := rIxT K) ix_tup (pv 1) pe_int (fun _ _ => rfl)) (pa_cons (pe_ix (r := rIxT K) ix_tup (pv 1) pe_int (fun _ _ => rfl)) (pa_cons (pe_ix ix_str (pv 0) (pv 2) (fun _ _ => rfl)) pa_nil))))))
        (pss_one (ps_if (pt_cmpR op_isN (pv 1) pe_non (nomark _)) (pss_one (ps_ret (pv 2))) pss_nil))))
      (pss_one (ps_ret (pe_ifExp (PW.pt (pw_or (pt_cmpR op_eq (pv 0) pe_str (nomark _)) (pw_or1 (PW.pt (pw_and (pt_cmpR op_in_seq (pe_ix (r := rIxT K) ix_tup (pv 1) pe_int (fun _ _ => rfl)) (pe_tup (pa_cons pe_str (pa_cons pe_str pa_nil))) rfl) (pw_and1 (pt_cmpR op_eq (pe_ix (r := rIxT K) ix_tup (pv 1) pe_int (fun _ _ => rfl)) pe_int (nomark _)))))))) pe_non (pe_callB call_len_str (by rfl) T1.len PySem.boot_len (pa_cons (pv 0) pa_nil)))))), ?_⟩
    have m8 : sizeLine = 16777216 := rfl
    refine ⟨(by show 3 ≤ sizeLine; decide), fun t0 ht0 => ?_⟩
    refine ⟨_, rfl, z, rfl, hz, _, rfl, ?lo, ?hi, for_range (lo := 0) (n := z.length) (fun i σ Hk => ∃ (y2 : Option V) (T : Addr) (x : Nat × Int × Int) (st : Sta), σ = [some (.str z), some (.ref T), y2] ∧ Same H Hk ∧ Hk T = some (.tup (trip x)) ∧ Rl st x ∧ faultF i st ((tl z).drop i) = faultF 0 ⟨0, 0, 0⟩ (tl z) ∧ (i = 0 → st = ⟨0, 0, 0⟩) ∧ (i ≠ 0 → ¬ (st.l = 0 ∧ st.depth = 0)))
      ⟨none, t0, (0, 0, 0), ⟨0, 0, 0⟩, rfl, same_new ht0, upd_same, ⟨rfl, Int.le_refl _, .inl ⟨rfl, .inr ⟨rfl, rfl⟩⟩⟩, rfl, fun _ => rfl, fun h => absurd rfl h⟩ ?hs ?hd⟩
    case lo => omega
    case hi => omega
    case hs =>
      rintro i σ Hk hi ⟨y2, T, x, st, rfl, S, hT, hR, e, h0, hn⟩
      rw [show (0 : Int) + ((i : Nat) : Int) = ((i : Nat) : Int) from Int.zero_add _]
      have hx7 := rl_lt hR
      have il : i < (tl z).length := by rw [← len_tl]; exact hi
      have ec : (tl z)[i]? = some ((tl z)[i]) := List.getElem?_eq_getElem il
      have ed : (tl z).drop i = (tl z)[i] :: (tl z).drop (i + 1) := List.drop_eq_getElem_cons il
      rw [ed, faultF_cons] at e
      refine ⟨_, rfl, _, _, 0, _, rfl, rfl, SqT.of hT, atI_nat rfl, _, rfl, _, _, 1, _, rfl, rfl, SqT.of hT, atI_nat rfl, _, rfl, _, _, 2, _, rfl, rfl, SqT.of hT, atI_nat rfl, _, rfl, _, rfl, _, _, _, rfl, rfl, hz, atI_nat ec, x.1, (tl z)[i], x.2.1, x.2.2, rfl, hx7, fun H' S' => ?_⟩
      have SS := S.trans S'
      rcases rl_step hR ((tl z)[i]) with ⟨ea, eb⟩ | ⟨t, y, ea, eb, hR2, nn⟩
      · rw [eb]
        rw [ea] at e
        refine ⟨_, rfl, rfl, _, rfl, iteT ⟨_, rfl, ?_⟩⟩
        have := q _ SS
        rw [← e] at this
        exact this
      · rw [eb]
        rw [ea] at e
        intro T2 hT2
        refine ⟨_, rfl, rfl, _, rfl, iteF ?_⟩
        exact ⟨_, T2, y, t, rfl, SS, hT2, hR2, e, fun h => absurd h (by omega), fun _ => nn⟩
    case hd =>
      rintro σ Hk ⟨y2, T, x, st, rfl, S, hT, hR, e, h0, hn⟩
      have hx7 := rl_lt hR
      rw [List.drop_eq_nil_of_le (by rw [← len_tl]; exact Nat.le_refl _)] at e
      have e' : (if 0 < st.depth ∨ st.l = 1 ∨ st.l = 2 ∨ st.l = 4 then some z.length else none) = faultF 0 ⟨0, 0, 0⟩ (tl z) := e
      refine ⟨_, rfl, rfl, _, rfl, ite2 (fun g => ?_) (fun g => ?_)⟩
      · have ez : z = "" := by
          have := of_decide_eq_true g
          injection this
        have l0 : z.length = 0 := by rw [ez]; decide +kernel
        have es := h0 l0
        rw [es, if_neg (by decide)] at e'
        rw [← e'] at q
        exact q _ S
      · have nz : z.length ≠ 0 := fun y => dec_of g (by
          have : z = "" := ext_tl (by
            have h1 : tl z = [] := List.eq_nil_of_length_eq_zero (by rw [← len_tl]; exact y)
            rw [h1]
            have : tl "" = [] := by decide +kernel
            exact this.symm)
          rw [this])
        rw [wrong_end hR (hn nz)] at e'
        refine ⟨_, rfl, _, _, 0, _, rfl, rfl, SqT.of hT, atI_nat rfl, (by show 2 ≤ sizeLine; decide), fun t ht => ⟨t, _, rfl, .inr (SqT.of upd_same), rfl, rfl, _, rfl, ?_⟩⟩
        rw [if_neg Bool.false_ne_true, show inV (.str (srt x.1)) [.str "word", .str "done"] = decide (x.1 = 3 ∨ x.1 = 6) from sn2 3 6 (by decide) (by decide) x.1 hx7]
        have hT2 : upd Hk t (.tup [.str "word", .str "done"]) T = some (.tup (trip x)) := by rw [upd_ne (ne_of_none hT ht)]; exact hT
        refine ite2 (fun g1 => ?_) (fun g1 => ?_)
        · refine ⟨_, rfl, _, _, 2, _, rfl, rfl, SqT.of hT2, atI_nat rfl, rfl, _, rfl, ?_⟩
          rw [show decide (V.int x.2.2 = V.int 0) = decide (x.2.2 = 0) from by simp]
          refine ite2 (fun g2 => ?_) (fun g2 => ?_)
          · rw [if_pos ⟨of_decide_eq_true g1, of_decide_eq_true g2⟩] at e'
            rw [← e'] at q
            exact q _ (S.trans (same_new ht))
          · rw [if_neg (fun y => dec_of g2 y.2)] at e'
            rw [← e'] at q
            exact ⟨_, rfl, z, rfl, hz, q _ (S.trans (same_new ht))⟩
        · rw [if_neg (fun y => dec_of g1 y.1)] at e'
          rw [← e'] at q
          exact ⟨_, rfl, z, rfl, hz, q _ (S.trans (same_new ht))⟩
end
end KP
end

section
set_option Elab.async false
set_option linter.all false
set_option maxRecDepth 100000
set_option maxHeartbeats 4000000
namespace KP
open PySem PySem.Spec PyProof.Rows L2 Pn TL StX
abbrev sParsed : Stmt := top 55
mutual
theorem Rp.fresh {B : Addr → Prop} {H : Hp} {p : Addr} (hp : H p = none) : ∀ {i : Itm} {v : V}, Rp B H v i → Rp (fun a => B a ∨ a = p) H v i
  | _, _, .say n h => .say (fun z => z.elim n (fun e => by rw [e, hp] at h; cases h)) h
  | _, _, .press n h => .press (fun z => z.elim n (fun e => by rw [e, hp] at h; cases h)) h
  | _, _, .go n h => .go (fun z => z.elim n (fun e => by rw [e, hp] at h; cases h)) h
  | _, _, .times n m h g r => .times (fun z => z.elim n (fun e => by rw [e, hp] at h; cases h)) (fun z => z.elim m (fun e => by rw [e, hp] at g; cases g)) h g (Rps.fresh hp r)
theorem Rps.fresh {B : Addr → Prop} {H : Hp} {p : Addr} (hp : H p = none) : ∀ {is : List Itm} {vs : List V}, Rps B H vs is → Rps (fun a => B a ∨ a = p) H vs is
  | _, _, .nil => .nil
  | _, _, .cons a b => .cons (Rp.fresh hp a) (Rps.fresh hp b)
end
/-- the law's pile, the last one first -/
inductive Pfr (B : Addr → Prop) (H : Hp) : List V → List (Int × List Itm) → Prop
  | nil : Pfr B H [] []
  | cons {t b : Addr} {ws : List V} {n : Int} {bf : List Itm} {fr : List V} {st : List (Int × List Itm)} : ¬ B t → H t = some (.tup [.int n, .ref b]) → ¬ B b → H b = some (.lst ws) → Rps B H ws bf → Pfr B H fr st → Pfr B H (.ref t :: fr) ((n, bf) :: st)
theorem Pfr.mono {B B' : Addr → Prop} {H H' : Hp} (b : ∀ a, B' a → B a) (e : ∀ a o, ¬B a → H a = some o → H' a = some o) : ∀ {fr : List V} {st : List (Int × List Itm)}, Pfr B H fr st → Pfr B' H' fr st
  | _, _, .nil => .nil
  | _, _, .cons n1 h1 n2 h2 r q => .cons (fun z => n1 (b _ z)) (e _ _ n1 h1) (fun z => n2 (b _ z)) (e _ _ n2 h2) (Rps.mono b e _ _ r) (Pfr.mono b e q)
theorem Pfr.fresh {B : Addr → Prop} {H : Hp} {p : Addr} (hp : H p = none) : ∀ {fr : List V} {st : List (Int × List Itm)}, Pfr B H fr st → Pfr (fun a => B a ∨ a = p) H fr st
  | _, _, .nil => .nil
  | _, _, .cons n1 h1 n2 h2 r q => .cons (fun z => z.elim n1 (fun e => by rw [e, hp] at h1; cases h1)) h1 (fun z => z.elim n2 (fun e => by rw [e, hp] at h2; cases h2)) h2 (Rps.fresh hp r) (Pfr.fresh hp q)
theorem Pfr.len {B : Addr → Prop} {H : Hp} : ∀ {fr : List V} {st : List (Int × List Itm)}, Pfr B H fr st → fr.length = st.length
  | _, _, .nil => rfl
  | _, _, .cons _ _ _ _ _ h => by rw [List.length_cons, List.length_cons, h.len]
def Bd (H : Hp) (p q : Addr) : Addr → Prop := fun a => a = p ∨ a = q ∨ H a ≠ none
theorem add_mk (w : List Nat) (c : Nat) : (⟨w.toArray⟩ : PySem.Str) ++ ⟨#[c]⟩ = ⟨(w ++ [c]).toArray⟩ := ext_tl (by rw [tl_append])
def spParsed : Sp := fun vs H Q _ => ∃ its : List Itm, vs = [.str (txB its)] ∧ IXs its ∧ (txB its).length ≤ 1000 ∧ ∀ p xs H', Same H H' → H p = none → H' p = some (.lst xs) → Rps (fun a => H a ≠ none) H' xs its → Q (.ref p) H'
theorem rp_new {H Hk : Hp} {p q1 t : Addr} (S : Same H Hk) (ht : Hk t = none) (hp : Hk p ≠ none) (hq : Hk q1 ≠ none) : ¬ Bd H p q1 t := by
  rintro (z | z | z)
  · rw [z] at ht; exact hp ht
  · rw [z] at ht; exact hq ht
  · cases e : H t with
    | none => exact z e
    | some o => rw [S _ _ e] at ht; cases ht
def kGet : List (Key × V) := [(Sum.inr "!", .str "say"), (Sum.inr "@", .str "go")]
theorem merge_get : mergeK [] kGet = kGet := by rfl
theorem vget (c : Nat) : valV (mergeK [] kGet) (Sum.inr (⟨#[c]⟩ : PySem.Str)) = if c = 33 then some (V.str "say") else if c = 64 then some (V.str "go") else none := by
  rw [merge_get]
  unfold kGet
  have e1 : ("!" : PySem.Str) = ⟨#[33]⟩ := ext_tl (by rw [tl_bang])
  have e2 : ("@" : PySem.Str) = ⟨#[64]⟩ := ext_tl (by rw [tl_at])
  have ne : ∀ a b : Nat, a ≠ b → ¬ ((Sum.inr (⟨#[a]⟩ : PySem.Str) : Key) = Sum.inr ⟨#[b]⟩) := fun a b n z => by
    injection z with z
    injection z with z
    have := congrArg Array.toList z
    injection this with q _
    exact n q
  rw [e1, e2]
  by_cases a : c = 33
  · subst a
    rw [if_pos rfl, valV_pos rfl]
  · rw [if_neg a, valV_neg (ne 33 c (fun z => a z.symm))]
    by_cases b : c = 64
    · subst b
      rw [if_pos rfl, valV_pos rfl]
    · rw [if_neg b, valV_neg (ne 64 c (fun z => b z.symm))]
      rfl
section
variable {P : Program} {w : World} {K : PySem.W.Frag} {mg : Str → Option Value} {base : Heap}
theorem scParsed : FnScope ["_law_text_here", "_law_found", "_law_pile", "_law_word", "_law_sign", "_law_sort", "_law_size", "_law_outer"] ["_law_text_here"] (defScope sParsed) := ⟨rfl, rfl, rfl, by decide +kernel, rfl, by decide +kernel, by decide +kernel⟩
theorem ok_parsed {f : Addr} {fd : FuncData} (F : Fun K "_law_parsed" "_law_parsed" sParsed f fd) (T1 : Blt mg) : FnOk P w K mg base CX0 1 f fd ["_law_text_here"] spParsed := by
  refine F.ok scParsed (fun vs H Q E h => ?_) (fun cdv A outer s H vs Q E hr h => ?_)
  · obtain ⟨its, rfl, _⟩ := h
    rfl
  · obtain ⟨its, rfl, hx, hz, q⟩ := h
    have hu := hu_of hr
    refine ⟨_, pss_cons (ps_par3 (i := 1) (j := 2) (l := 3) (by rfl) scParsed.nd rfl rfl rfl (by decide) (by decide) (by decide) rfl rfl rfl (pa_cons (pe_lst pa_nil) (pa_cons (pe_lst pa_nil) (pa_cons pe_str pa_nil))) (by rfl))
      (pss_cons (ps_for PassesOwn.never rfl (pi_str (pe_op op_add_str (pv 0) pe_str)) (pg_name (i := 4) scParsed.nd rfl (Or.inl rfl))
        (pss_one (ps_if (pt_cmpR op_eq (pv 4) pe_str (nomark _))
          (pss_cons (ps_expr (pe_bm PySem.F.plainAttrs_list PySem.F.slot_list_append PySem.F.type_list_append mt_append (pv 2) (pa_cons (pe_tup (pa_cons (pe_callTy call_int_str (by rfl) T1.int (by decide +kernel) (pa_cons (pv 3) pa_nil)) (pa_cons (pv 1) pa_nil))) pa_nil)))
            (pss_one (ps_par (i := 1) (j := 3) (by rfl) scParsed.nd rfl rfl (by decide) rfl rfl (pa_cons (pe_lst pa_nil) (pa_cons pe_str pa_nil)) (by rfl))))
          (pss_one (ps_if (pt_cmpR op_in_sign (pv 4) pe_str rfl)
            (C8.pss_cut (ps_if (pt_cmpR op_ne (pv 3) pe_str (nomark _))
                (pss_cons (ps_set (i := 5) scParsed.nd rfl (Or.inl rfl) (pe_dget2 hu (pe_disp (pps_cons pe_str pe_str (pps_cons pe_str pe_str pps_nil)) (by rfl) (by rfl) (fun z => by cases z) (by decide)) (pe_ix ix_str (pv 3) pe_int (fun _ _ => rfl)) pe_str ⟨rfl, rfl, rfl, rfl⟩))
                (pss_one (ps_expr (pe_bm PySem.F.plainAttrs_list PySem.F.slot_list_append PySem.F.type_list_append mt_append (pv 1) (pa_cons (pe_tup (pa_cons (pv 5) (pa_cons (pe_ifExp (pt_cmpR op_in_sign (pe_ix ix_str (pv 3) pe_int (fun _ _ => rfl)) pe_str rfl) (pe_slice sl_str (pv 3) (po_some pe_int) po_none) (pv 3)) pa_nil))) pa_nil))))) pss_nil)
            (pss_cons (ps_set (i := 3) scParsed.nd rfl (Or.inl rfl) pe_str)
            (pss_one (ps_if (pt_cmpR op_eq (pv 4) pe_str (nomark _))
              (pss_cons (ps_asg (pe_bm0 PySem.F.plainAttrs_list PySem.F.slot_list_pop PySem.F.type_list_pop mt_pop (pv 2)) (pg_tup (by rfl) (pgs_cons (pg_name (i := 6) scParsed.nd rfl (Or.inl rfl)) (pgs_cons (pg_name (i := 7) scParsed.nd rfl (Or.inl rfl)) pgs_nil))))
              (pss_one (ps_set (i := 1) scParsed.nd rfl (Or.inl rfl) (pe_op op_cat (pv 7) (pe_lst (pa_cons (pe_tup (pa_cons pe_str (pa_cons (pv 6) (pa_cons (pv 1) pa_nil)))) pa_nil)))))) pss_nil))))
            (pss_one (ps_set (i := 3) scParsed.nd rfl (Or.inl rfl) (pe_op op_add_str (pv 3) (pv 4)))))))))
      (pss_one (ps_ret (pv 1)))), ?_⟩
    have m8 : sizeLine = 16777216 := rfl
    have l1 : ((" " : PySem.Str)).length = 1 := by decide +kernel
    refine ⟨(by show 0 ≤ sizeLine; decide), fun p0 hp0 => ⟨(by show 0 ≤ sizeLine; decide), fun q0 hq0 => ?_⟩⟩
    refine ⟨_, _, _, rfl, ?_⟩
    have qp : q0 ≠ p0 := fun z => by rw [z, upd_same] at hq0; cases hq0
    have hq1 : H q0 = none := by rw [upd_ne qp] at hq0; exact hq0
    have S0 := (same_new (o := .lst []) hp0).trans (same_new (o := .lst []) hq0)
    have L1 : tl (txB its ++ " ") = tl (txB its) ++ [32] := by rw [tl_append, tl_sp]
    refine ⟨_, rfl, _, _, rfl, rfl, by omega, _, rfl, for_it walk_str (fun i σ Hk => ∃ (p q1 : Addr) (vs fr : List V) (cur : List Itm) (st : List (Int × List Itm)) (ww : List Nat) (y4 y5 y6 y7 : Option V),
        σ = [some (.str (txB its)), some (.ref p), some (.ref q1), some (.str ⟨ww.toArray⟩), y4, y5, y6, y7] ∧ Same H Hk ∧ H p = none ∧ H q1 = none ∧ p ≠ q1 ∧ Hk p = some (.lst vs) ∧ Hk q1 = some (.lst fr.reverse) ∧ Rps (Bd H p q1) Hk vs cur ∧ Pfr (Bd H p q1) Hk fr st ∧
        PRun cur st ww ((tl (txB its) ++ [32]).drop i) its ∧ vs.length ≤ i ∧ (∀ f ∈ st, f.2.length ≤ i) ∧ st.length ≤ i ∧ ww.length ≤ i) ?_ (fun i σ Hk _ h => trivial) ?_ ?_⟩
    · refine ⟨p0, q0, [], [], [], [], [], none, none, none, none, rfl, S0, hp0, hq1, fun z => qp z.symm, ?_, ?_, .nil, .nil, prun_all hx, Nat.le_refl _, (fun f m => by cases m), Nat.le_refl _, Nat.le_refl _⟩
      · rw [upd_ne (fun z => qp z.symm), upd_same]
      · exact upd_same
    · rintro i x σ Hk Hk' hi ⟨p, q1, vs, fr, cur, st, ww, y4, y5, y6, y7, rfl, S, np, nq, npq, hpk, hqk, hR, hF, hM, g1, g2, g3, g4⟩ ⟨eH, c, hc, rfl⟩
      cases eH
      have hc' : (tl (txB its) ++ [32])[i]? = some c := by
        rw [← L1, ← hc]
        simp [tl]
      have il : i < (tl (txB its) ++ [32]).length := (List.getElem?_eq_some_iff.mp hc').1
      have i1 : i ≤ 1000 := by rw [List.length_append, ← len_tl] at il; simp at il; omega
      have ed : (tl (txB its) ++ [32]).drop i = c :: (tl (txB its) ++ [32]).drop (i + 1) := by
        obtain ⟨h1, h2⟩ := List.getElem?_eq_some_iff.mp hc'
        rw [List.drop_eq_getElem_cons h1, h2]
      rw [ed] at hM
      have hfl := hF.len
      refine ⟨_, rfl, rfl, _, rfl, ?_⟩
      rw [sgn1 c 40 "(" tl_open]
      rcases hM with ⟨rfl, n, n0, n1, rfl, hM⟩ | ⟨hc2, cur', hcur, hM⟩ | ⟨c40, c32, c41, hM⟩
      · have nl : (numL n.toNat).length ≤ 10 := numL_len (by decide) (by omega)
        have ew : (⟨(numL n.toNat).toArray⟩ : PySem.Str) = PySem.Str.ofString (toString n) := by
          obtain ⟨m, rfl⟩ := Int.eq_ofNat_of_zero_le n0
          exact ext_tl (tl_num m).symm
        refine iteT ⟨_, rfl, .inl ⟨rfl, _, SqL.of hqk⟩, _, rfl, _, n, rfl, (by rw [ew]; exact PySem.W.KIN.num_reads n0 (by omega)), (show (numL n.toNat).length ≤ 640 by omega), _, rfl, (by show 2 ≤ sizeLine; decide), fun t ht => ?_⟩
        have tq : q1 ≠ t := fun z => by rw [z, ht] at hqk; cases hqk
        have tp : p ≠ t := fun z => by rw [z, ht] at hpk; cases hpk
        have hq2 : upd Hk t (.tup [.int n, .ref p]) q1 = some (.lst fr.reverse) := by rw [upd_ne tq]; exact hqk
        refine ⟨q1, fr.reverse, .ref t, rfl, rfl, hq2, by rw [List.length_reverse]; omega, (by show 0 ≤ sizeLine; decide), fun p2 hp2 => ?_⟩
        have h2q : p2 ≠ q1 := fun z => by rw [z, upd_same] at hp2; cases hp2
        have hp3 : upd Hk t (.tup [.int n, .ref p]) p2 = none := by rw [upd_ne h2q] at hp2; exact hp2
        have h2t : p2 ≠ t := fun z => by rw [z, upd_same] at hp3; cases hp3
        have hp4 : Hk p2 = none := by rw [upd_ne h2t] at hp3; exact hp3
        have h2p : p2 ≠ p := fun z => by rw [z, hpk] at hp4; cases hp4
        have fresh : ∀ {a : Addr}, Hk a = none → H a = none := fun {a} e => by
          cases e2 : H a with
          | none => rfl
          | some o => rw [S _ _ e2] at e; cases e
        have old : ∀ a o, ¬ (Bd H p q1 a ∨ a = p2) → Hk a = some o → upd (upd (upd Hk t (.tup [.int n, .ref p])) q1 (.lst (fr.reverse ++ [.ref t]))) p2 (.lst []) a = some o := fun a o nb e => by
          rw [upd_ne (fun z => nb (.inr z)), upd_ne (fun z => nb (.inl (.inr (.inl z)))), upd_ne (ne_of_none e ht)]
          exact e
        have weak : ∀ a, Bd H p2 q1 a → Bd H p q1 a ∨ a = p2 := fun a h => by
          rcases h with h | h | h
          · exact .inr h
          · exact .inl (.inr (.inl h))
          · exact .inl (.inr (.inr h))
        refine ⟨_, _, rfl, p2, q1, [], .ref t :: fr, [], (n, cur) :: st, [], _, y5, y6, y7, rfl, ?_, fresh hp4, nq, h2q, upd_same, ?_, .nil, ?_, hM, Nat.zero_le _, ?_, ?_, Nat.zero_le _⟩
        · exact (same_mod (S.trans (same_new ht)) nq).trans (same_new hp2)
        · rw [upd_ne (fun z => h2q z.symm), upd_same, List.reverse_cons]
        · refine .cons (b := p) ?_ ?_ ?_ ?_ (Rps.mono weak old _ _ (Rps.fresh hp4 hR)) (Pfr.mono weak old (Pfr.fresh hp4 hF))
          · rintro (z | z | z)
            · exact h2t z.symm
            · exact tq z.symm
            · exact z (fresh ht)
          · rw [upd_ne (fun z => h2t z.symm), upd_ne (fun z => tq z.symm), upd_same]
          · rintro (z | z | z)
            · exact h2p z.symm
            · exact npq z
            · exact z np
          · rw [upd_ne (fun z => h2p z.symm), upd_ne npq, upd_ne tp]
            exact hpk
        · intro f m
          have hl := hR.len
          rcases List.mem_cons.mp m with rfl | m
          · show cur.length ≤ _; omega
          · have := g2 f m; omega
        · rw [List.length_cons]; omega
      · have n40 : c ≠ 40 := by omega
        have e32 : (" )" : PySem.Str).cps.toList = [32, 41] := by decide +kernel
        rw [decide_eq_false n40]
        refine iteF ⟨_, rfl, c, _, rfl, rfl, _, rfl, ?_⟩
        rw [show decide (c ∈ (" )" : PySem.Str).cps.toList) = true from decide_eq_true (by rw [e32]; simp; exact hc2)]
        refine iteT ⟨fun σ' H' => ∃ (vs' : List V) (y5' : Option V), σ' = [some (.str (txB its)), some (.ref p), some (.ref q1), some (.str ⟨ww.toArray⟩), some (.str ⟨#[c]⟩), y5', y6, y7] ∧ Same H H' ∧ H' p = some (.lst vs') ∧ H' q1 = some (.lst fr.reverse) ∧ Rps (Bd H p q1) H' vs' cur' ∧ Pfr (Bd H p q1) H' fr st ∧ vs'.length ≤ i + 1, ?_, ?_⟩
        · refine ⟨_, rfl, rfl, _, rfl, ?_⟩
          rcases hcur with ⟨rfl, rfl⟩ | ⟨it, hp, hw0, rfl, rfl⟩
          · rw [show decide (V.str ⟨([] : List Nat).toArray⟩ = V.str "") = true from by decide +kernel]
            exact iteF ⟨vs, y5, rfl, S, hpk, hqk, hR, hF, by omega⟩
          · obtain ⟨ne, _⟩ := plain_signs hp hw0
            rw [show decide (V.str ⟨(lI it).toArray⟩ = V.str "") = false from decide_eq_false (fun z => by
              injection z with z
              have := congrArg tl z
              rw [show tl "" = [] by decide +kernel] at this
              exact ne this)]
            refine iteT ?_
            have fin : ∀ (i2 : Itm) (H3 : Hp) (t : Addr), Same Hk H3 → H3 p = some (.lst vs) → H3 q1 = some (.lst fr.reverse) → Rp (Bd H p q1) H3 (.ref t) i2 → t ≠ p → Same H (upd H3 p (.lst (vs ++ [.ref t]))) ∧ upd H3 p (.lst (vs ++ [.ref t])) p = some (.lst (vs ++ [.ref t])) ∧ upd H3 p (.lst (vs ++ [.ref t])) q1 = some (.lst fr.reverse) ∧ Rps (Bd H p q1) (upd H3 p (.lst (vs ++ [.ref t]))) (vs ++ [.ref t]) (cur ++ [i2]) ∧ Pfr (Bd H p q1) (upd H3 p (.lst (vs ++ [.ref t]))) fr st ∧ (vs ++ [V.ref t]).length ≤ i + 1 := fun i2 H3 t S3 h1 h2 h3 h4 => by
              have up : ∀ a o, ¬ Bd H p q1 a → H3 a = some o → upd H3 p (.lst (vs ++ [.ref t])) a = some o := fun a o nb e => by
                rw [upd_ne (fun z => nb (.inl z))]; exact e
              refine ⟨same_mod (S.trans S3) np, upd_same, by rw [upd_ne (fun z => npq z.symm)]; exact h2, ?_, Pfr.mono (fun a h => h) up (Pfr.mono (fun a h => h) (fun a o _ e => S3 _ _ e) hF), by rw [List.length_append]; show _ + 1 ≤ _; omega⟩
              exact Rps.app (Rps.mono (fun a h => h) up _ _ (Rps.mono (fun a h => h) (fun a o _ e => S3 _ _ e) _ _ hR)) (.cons (Rp.mono (fun a h => h) up _ _ h3) .nil)
            cases hw0 with
            | @say _ z hz =>
              have eL : lI (.say z) = 33 :: tl z := by rw [lI]
              have zl := wd_len hz
              rw [len_tl] at zl
              have eh : atI (tl (⟨(lI (.say z)).toArray⟩ : PySem.Str)) 0 = some 33 := by
                show atI (lI (.say z)) 0 = _
                rw [eL]; exact atI_nat rfl
              have hl : (⟨(lI (.say z)).toArray⟩ : PySem.Str).length ≤ sizeLine := by
                show (lI (.say z)).length ≤ _
                rw [eL]; rw [List.length_cons]
                omega
              intro d hd
              have hD : ∀ {a : Addr} {o : HO}, Hk a = some o → upd (upd Hk d (.dK [])) d (.dK (mergeK [] kGet)) a = some o := fun {a o} e => by
                rw [upd_ne (ne_of_none e hd), upd_ne (ne_of_none e hd)]; exact e
              have hp2 := hD hpk
              have hq2 := hD hqk
              have S2 : Same Hk (upd (upd Hk d (.dK [])) d (.dK (mergeK [] kGet))) := fun a o e => hD e
              have gd : DGet (upd (upd Hk d (.dK [])) d (.dK (mergeK [] kGet))) d (.str ⟨#[33]⟩) (some (.str "say")) := by
                have := DGet.k (k := .inr (⟨#[33]⟩ : PySem.Str)) (H := upd (upd Hk d (.dK [])) d (.dK (mergeK [] kGet))) (a := d) upd_same
                rw [vget] at this
                rw [if_pos rfl] at this
                exact this
              refine ⟨upd_same, kGet, rfl, by decide, d, rfl, .inl ⟨_, .inl upd_same⟩, _, rfl, _, 0, 33, rfl, rfl, hl, eh, _, gd, ?_⟩
              generalize upd (upd Hk d (.dK [])) d (.dK (mergeK [] kGet)) = H2 at hp2 hq2 S2 gd ⊢
              refine ⟨_, rfl, .inl ⟨rfl, _, SqL.of hp2⟩, _, rfl, _, rfl, _, 0, 33, rfl, rfl, hl, eh, 33, _, rfl, rfl, _, rfl, ?_⟩
              rw [show decide (33 ∈ ("!@" : PySem.Str).cps.toList) = true from by decide +kernel]
              refine iteT ⟨_, rfl, _, rfl, _, rfl, hl, ?_⟩
              rw [cut_first (show tl (⟨(lI (.say z)).toArray⟩ : PySem.Str) = 33 :: tl z from eL)]
              refine ⟨(by show 2 ≤ sizeLine; decide), fun t ht => ?_⟩
              have S3 := S2.trans (same_new (o := .tup [.str "say", .str z]) ht)
              have hp3 := (same_new (o := .tup [.str "say", .str z]) ht) _ _ hp2
              have ht3 : upd H2 t (.tup [.str "say", .str z]) t = some (.tup [.str "say", .str z]) := upd_same
              have nt : ¬ Bd H p q1 t := rp_new (S.trans S2) ht (by rw [hp2]; exact Option.some_ne_none _) (by rw [hq2]; exact Option.some_ne_none _)
              have hq3 := (same_new (o := .tup [.str "say", .str z]) ht) _ _ hq2
              refine ⟨p, vs, .ref t, rfl, rfl, hp3, by omega, vs ++ [.ref t], _, rfl, ?_⟩
              exact fin (.say z) _ t S3 hp3 hq3 (.say nt ht3) (fun z => nt (.inl z))
            | @press _ z hz =>
              have eL : lI (.press z) = tl z := by rw [lI]
              have zl := wd_len hz
              rw [len_tl] at zl
              obtain ⟨a0, r0, er⟩ : ∃ a r, tl z = a :: r := by
                cases e2 : tl z with
                | nil => exact absurd e2 (wd_ne hz)
                | cons a r => exact ⟨a, r, rfl⟩
              have ra := hz.2.2 a0 (by rw [show z.cps.toList = tl z from rfl, er]; exact List.mem_cons_self ..)
              have eh : atI (tl (⟨(lI (.press z)).toArray⟩ : PySem.Str)) 0 = some a0 := by
                show atI (lI (.press z)) 0 = _
                rw [eL, er]; exact atI_nat rfl
              have hl : (⟨(lI (.press z)).toArray⟩ : PySem.Str).length ≤ sizeLine := by
                show (lI (.press z)).length ≤ _
                rw [eL]
                omega
              intro d hd
              have hD : ∀ {a : Addr} {o : HO}, Hk a = some o → upd (upd Hk d (.dK [])) d (.dK (mergeK [] kGet)) a = some o := fun {a o} e => by
                rw [upd_ne (ne_of_none e hd), upd_ne (ne_of_none e hd)]; exact e
              have hp2 := hD hpk
              have hq2 := hD hqk
              have S2 : Same Hk (upd (upd Hk d (.dK [])) d (.dK (mergeK [] kGet))) := fun a o e => hD e
              have gd : DGet (upd (upd Hk d (.dK [])) d (.dK (mergeK [] kGet))) d (.str ⟨#[a0]⟩) none := by
                have := DGet.k (k := .inr (⟨#[a0]⟩ : PySem.Str)) (H := upd (upd Hk d (.dK [])) d (.dK (mergeK [] kGet))) (a := d) upd_same
                rw [vget] at this
                rw [if_neg (by omega), if_neg (by omega)] at this
                exact this
              refine ⟨upd_same, kGet, rfl, by decide, d, rfl, .inl ⟨_, .inl upd_same⟩, _, rfl, _, 0, a0, rfl, rfl, hl, eh, _, gd, ?_⟩
              generalize upd (upd Hk d (.dK [])) d (.dK (mergeK [] kGet)) = H2 at hp2 hq2 S2 gd ⊢
              refine ⟨_, rfl, .inl ⟨rfl, _, SqL.of hp2⟩, _, rfl, _, rfl, _, 0, a0, rfl, rfl, hl, eh, a0, _, rfl, rfl, _, rfl, ?_⟩
              rw [show decide (a0 ∈ ("!@" : PySem.Str).cps.toList) = false from decide_eq_false (by have e : ("!@" : PySem.Str).cps.toList = [33, 64] := (by decide +kernel); rw [e]; simp; omega)]
              refine iteF ⟨_, rfl, ?_⟩
              have ez : (⟨(lI (.press z)).toArray⟩ : PySem.Str) = z := ext_tl (by show lI (.press z) = tl z; exact eL)
              rw [ez]
              refine ⟨(by show 2 ≤ sizeLine; decide), fun t ht => ?_⟩
              have S3 := S2.trans (same_new (o := .tup [.str "press", .str z]) ht)
              have hp3 := (same_new (o := .tup [.str "press", .str z]) ht) _ _ hp2
              have ht3 : upd H2 t (.tup [.str "press", .str z]) t = some (.tup [.str "press", .str z]) := upd_same
              have nt : ¬ Bd H p q1 t := rp_new (S.trans S2) ht (by rw [hp2]; exact Option.some_ne_none _) (by rw [hq2]; exact Option.some_ne_none _)
              have hq3 := (same_new (o := .tup [.str "press", .str z]) ht) _ _ hq2
              refine ⟨p, vs, .ref t, rfl, rfl, hp3, by omega, vs ++ [.ref t], _, rfl, ?_⟩
              exact fin (.press z) _ t S3 hp3 hq3 (.press nt ht3) (fun z => nt (.inl z))
            | @go _ z hz =>
              have eL : lI (.go z) = 64 :: tl z := by rw [lI]
              have zl := wd_len hz
              rw [len_tl] at zl
              have eh : atI (tl (⟨(lI (.go z)).toArray⟩ : PySem.Str)) 0 = some 64 := by
                show atI (lI (.go z)) 0 = _
                rw [eL]; exact atI_nat rfl
              have hl : (⟨(lI (.go z)).toArray⟩ : PySem.Str).length ≤ sizeLine := by
                show (lI (.go z)).length ≤ _
                rw [eL]; rw [List.length_cons]
                omega
              intro d hd
              have hD : ∀ {a : Addr} {o : HO}, Hk a = some o → upd (upd Hk d (.dK [])) d (.dK (mergeK [] kGet)) a = some o := fun {a o} e => by
                rw [upd_ne (ne_of_none e hd), upd_ne (ne_of_none e hd)]; exact e
              have hp2 := hD hpk
              have hq2 := hD hqk
              have S2 : Same Hk (upd (upd Hk d (.dK [])) d (.dK (mergeK [] kGet))) := fun a o e => hD e
              have gd : DGet (upd (upd Hk d (.dK [])) d (.dK (mergeK [] kGet))) d (.str ⟨#[64]⟩) (some (.str "go")) := by
                have := DGet.k (k := .inr (⟨#[64]⟩ : PySem.Str)) (H := upd (upd Hk d (.dK [])) d (.dK (mergeK [] kGet))) (a := d) upd_same
                rw [vget] at this
                rw [if_neg (by decide), if_pos rfl] at this
                exact this
              refine ⟨upd_same, kGet, rfl, by decide, d, rfl, .inl ⟨_, .inl upd_same⟩, _, rfl, _, 0, 64, rfl, rfl, hl, eh, _, gd, ?_⟩
              generalize upd (upd Hk d (.dK [])) d (.dK (mergeK [] kGet)) = H2 at hp2 hq2 S2 gd ⊢
              refine ⟨_, rfl, .inl ⟨rfl, _, SqL.of hp2⟩, _, rfl, _, rfl, _, 0, 64, rfl, rfl, hl, eh, 64, _, rfl, rfl, _, rfl, ?_⟩
              rw [show decide (64 ∈ ("!@" : PySem.Str).cps.toList) = true from by decide +kernel]
              refine iteT ⟨_, rfl, _, rfl, _, rfl, hl, ?_⟩
              rw [cut_first (show tl (⟨(lI (.go z)).toArray⟩ : PySem.Str) = 64 :: tl z from eL)]
              refine ⟨(by show 2 ≤ sizeLine; decide), fun t ht => ?_⟩
              have S3 := S2.trans (same_new (o := .tup [.str "go", .str z]) ht)
              have hp3 := (same_new (o := .tup [.str "go", .str z]) ht) _ _ hp2
              have ht3 : upd H2 t (.tup [.str "go", .str z]) t = some (.tup [.str "go", .str z]) := upd_same
              have nt : ¬ Bd H p q1 t := rp_new (S.trans S2) ht (by rw [hp2]; exact Option.some_ne_none _) (by rw [hq2]; exact Option.some_ne_none _)
              have hq3 := (same_new (o := .tup [.str "go", .str z]) ht) _ _ hq2
              refine ⟨p, vs, .ref t, rfl, rfl, hp3, by omega, vs ++ [.ref t], _, rfl, ?_⟩
              exact fin (.go z) _ t S3 hp3 hq3 (.go nt ht3) (fun z => nt (.inl z))
        · rintro σ' H1 ⟨vs', y5', rfl, S1, hpk, hqk, hR, hF, g1⟩
          refine ⟨_, rfl, rfl, _, rfl, ?_⟩
          rw [sgn1 c 41 ")" tl_close]
          rcases hM with ⟨rfl, hM⟩ | ⟨rfl, n, b, st', rfl, hM⟩
          · refine iteF ⟨p, q1, vs', fr, cur', st, [], _, y5', y6, y7, rfl, S1, np, nq, npq, hpk, hqk, hR, hF, hM, g1, (fun f m => by have := g2 f m; omega), by omega, Nat.zero_le _⟩
          · refine iteT ?_
            cases hF with
            | @cons t b2 ws _ _ fr _ n1 h1 n2 h2 hW hF =>
              have hqr : H1 q1 = some (.lst (fr.reverse ++ [.ref t])) := by rw [hqk, List.reverse_cons]
              refine ⟨_, rfl, .inl ⟨rfl, _, SqL.of hqr⟩, q1, fr.reverse ++ [.ref t], .ref t, rfl, rfl, hqr, (by simp), ?_⟩
              rw [List.dropLast_concat]
              have o2 : ∀ {a : Addr} {o : HO}, H1 a = some o → a ≠ q1 → upd H1 q1 (.lst fr.reverse) a = some o := fun {a o} e ne => by rw [upd_ne ne]; exact e
              have h1b := o2 h1 (fun z => n1 (.inr (.inl z)))
              refine ⟨t, [.int n, .ref b2], rfl, .inl (.inl h1b), rfl, _, [.ref b2], rfl, _, [], rfl, rfl, ?_⟩
              have h2b := o2 h2 (fun z => n2 (.inr (.inl z)))
              have hp2 := o2 hpk npq
              have up : ∀ a o, ¬ Bd H p q1 a → H1 a = some o → upd H1 q1 (.lst fr.reverse) a = some o := fun a o nb e => o2 e (fun z => nb (.inr (.inl z)))
              have hR2 := Rps.mono (fun a h => h) up _ _ hR
              have hW2 := Rps.mono (fun a h => h) up _ _ hW
              have hF2 := Pfr.mono (fun a h => h) up hF
              have S2 : Same H (upd H1 q1 (.lst fr.reverse)) := same_mod S1 nq
              have hq2 : upd H1 q1 (.lst fr.reverse) q1 = some (.lst fr.reverse) := upd_same
              generalize upd H1 q1 (.lst fr.reverse) = H2 at h1b h2b hp2 hR2 hW2 hF2 S2 hq2 ⊢
              have wl := hW2.len
              have bl : b.length ≤ i := g2 (n, b) (List.mem_cons_self ..)
              refine ⟨_, rfl, _, rfl, _, rfl, (by show 3 ≤ sizeLine; decide), fun t2 ht2 => ⟨(by show 1 ≤ sizeLine; decide), fun l2 hl2 => ?_⟩⟩
              have St := same_new (o := .tup [.str "times", .int n, .ref p]) ht2
              have Sl := same_new (o := .lst [.ref t2]) hl2
              refine ⟨b2, l2, ws, [.ref t2], rfl, rfl, Sl _ _ (St _ _ h2b), upd_same, (by show ws.length + 1 ≤ sizeLine; omega), fun p3 hp3 => ?_⟩
              have Sp := same_new (o := .lst (ws ++ [.ref t2])) hp3
              have S23 := (St.trans Sl).trans Sp
              have hp3q : p3 ≠ q1 := fun z => by rw [z, Sl _ _ (St _ _ hq2)] at hp3; cases hp3
              have hp3p : p3 ≠ p := fun z => by rw [z, Sl _ _ (St _ _ hp2)] at hp3; cases hp3
              have hp3t : p3 ≠ t2 := fun z => by rw [z, Sl _ _ upd_same] at hp3; cases hp3
              have hp3n : H2 p3 = none := by
                cases e : H2 p3 with
                | none => rfl
                | some o => rw [Sl _ _ (St _ _ e)] at hp3; cases hp3
              have fresh : ∀ {a : Addr}, H2 a = none → H a = none := fun {a} e => by
                cases e2 : H a with
                | none => rfl
                | some o => rw [S2 _ _ e2] at e; cases e
              have weak : ∀ a, Bd H p3 q1 a → Bd H p q1 a ∨ a = p3 := fun a h => by
                rcases h with h | h | h
                · exact .inr h
                · exact .inl (.inr (.inl h))
                · exact .inl (.inr (.inr h))
              have ht2q : t2 ≠ q1 := fun z => by rw [z, hq2] at ht2; cases ht2
              have ht2p : t2 ≠ p := fun z => by rw [z, hp2] at ht2; cases ht2
              refine ⟨p3, q1, ws ++ [.ref t2], fr, b ++ [.times n cur'], st', [], _, y5', _, _, rfl, S2.trans S23, fresh hp3n, nq, hp3q, upd_same, S23 _ _ hq2, ?_, ?_, hM, ?_, ?_, ?_, Nat.zero_le _⟩
              · refine Rps.app (Rps.mono weak (fun a o _ e => S23 _ _ e) _ _ (Rps.fresh hp3n hW2)) (.cons (.times (l := p) (vs := vs') ?_ ?_ ?_ ?_ ?_) .nil)
                · rintro (z | z | z)
                  · exact hp3t z.symm
                  · exact ht2q z
                  · exact z (fresh ht2)
                · rintro (z | z | z)
                  · exact hp3p z.symm
                  · exact npq z
                  · exact z np
                · exact Sp _ _ (Sl _ _ upd_same)
                · exact S23 _ _ hp2
                · exact Rps.mono weak (fun a o _ e => S23 _ _ e) _ _ (Rps.fresh hp3n hR2)
              · exact Pfr.mono weak (fun a o _ e => S23 _ _ e) (Pfr.fresh hp3n hF2)
              · rw [List.length_append]; show _ + 1 ≤ _; omega
              · intro f m; have := g2 f (List.mem_cons_of_mem _ m); omega
              · rw [List.length_cons] at g3; omega
      · rw [decide_eq_false c40]
        refine iteF ⟨_, rfl, c, _, rfl, rfl, _, rfl, ?_⟩
        rw [show decide (c ∈ (" )" : PySem.Str).cps.toList) = false from decide_eq_false (by
          have e : (" )" : PySem.Str).cps.toList = [32, 41] := by decide +kernel
          rw [e]
          simp [c32, c41])]
        refine iteF ⟨_, rfl, _, rfl, _, _, rfl, rfl, (show ww.length + 1 ≤ sizeLine by omega), ?_⟩
        rw [add_mk]
        exact ⟨p, q1, vs, fr, cur, st, ww ++ [c], _, y5, y6, y7, rfl, S, np, nq, npq, hpk, hqk, hR, hF, hM, by omega, (fun f m => by have := g2 f m; omega), by omega, by rw [List.length_append]; show _ + 1 ≤ _; omega⟩
    · rintro σ Hk ⟨p, q1, vs, fr, cur, st, ww, y4, y5, y6, y7, rfl, S, np, nq, npq, hpk, hqk, hR, hF, hM, g1, g2, g3, g4⟩
      have dz : (tl (txB its) ++ [32]).drop (txB its ++ " ").cps.size = [] := List.drop_eq_nil_of_le (by rw [← L1]; simp [tl])
      rw [dz] at hM
      obtain ⟨rfl, rfl⟩ := hM
      exact ⟨_, rfl, q p vs Hk S np hpk (Rps.mono (fun a h => .inr (.inr h)) (fun a o _ h => h) _ _ hR)⟩
end
end KP
end

section
set_option Elab.async false
set_option linter.all false
set_option maxRecDepth 100000
set_option maxHeartbeats 4000000
namespace KP
open PySem PySem.Spec PyProof.Rows L2 Pn TL StX
abbrev sDepth : Stmt := top 51
abbrev sFaults : Stmt := top 56
theorem tk_pos (i : Itm) : 1 ≤ (tkI i).length := by cases i <;> (rw [tkI]; simp)
theorem tks_ge : ∀ is : List Itm, is.length ≤ (tkIs is).length
  | [] => by simp
  | i :: is => by
    have := tk_pos i
    have := tks_ge is
    rw [tkIs, List.length_append, List.length_cons]
    omega
theorem tk_mem : ∀ {is : List Itm} {k : Nat} {it : Itm}, is[k]? = some it → (tkI it).length ≤ (tkIs is).length
  | [], k, it, e => by cases e
  | i :: is, 0, it, e => by cases e; rw [tkIs, List.length_append]; omega
  | i :: is, k + 1, it, e => by
    have := tk_mem (is := is) (k := k) e
    rw [tkIs, List.length_append]; omega
theorem dI_mem : ∀ {is : List Itm} {k : Nat} {it : Itm}, is[k]? = some it → dI it ≤ dIs is
  | [], k, it, e => by cases e
  | i :: is, 0, it, e => by cases e; rw [dIs]; omega
  | i :: is, k + 1, it, e => by
    have := dI_mem (is := is) (k := k) e
    rw [dIs]; omega
theorem tks_app : ∀ is js : List Itm, fks (is ++ js) = fks is ++ fks js
  | [], js => by rw [fks]; rfl
  | i :: is, js => by rw [List.cons_append, fks, fks, tks_app is js, List.append_assoc]
theorem own_len (n : Int) (its : List Itm) : (fkOwn n its).length ≤ 3 := by
  unfold fkOwn
  repeat' split
  all_goals simp
mutual
theorem fk_len : ∀ i : Itm, (fkI i).length ≤ 3 * (tkI i).length
  | .say z => by rw [fkI]; simp
  | .press z => by rw [fkI]; simp
  | .go z => by rw [fkI]; simp
  | .times n its => by
    have h1 := fks_len its
    have h2 := own_len n its
    rw [fkI, tkI, List.length_append, List.length_cons, List.length_append]
    simp only [List.length_cons, List.length_nil]
    omega
theorem fks_len : ∀ is : List Itm, (fks is).length ≤ 3 * (tkIs is).length
  | [] => by rw [fks]; simp
  | i :: is => by
    have h1 := fk_len i
    have h2 := fks_len is
    rw [fks, tkIs, List.length_append, List.length_append]
    omega
end
def fkD : Fk → List V
  | .item => [.str "item", .str "number"]
  | .many => [.str "many", .int 6]
  | .deep => [.str "deep", .int 2]
inductive FkL (H : Hp) : List V → List Fk → Prop
  | nil : FkL H [] []
  | cons {t : Addr} {f : Fk} {vs : List V} {fs : List Fk} : H t = some (.tup (fkD f)) → FkL H vs fs → FkL H (.ref t :: vs) (f :: fs)
theorem FkL.same {H H' : Hp} (S : Same H H') : ∀ {vs : List V} {fs : List Fk}, FkL H vs fs → FkL H' vs fs
  | _, _, .nil => .nil
  | _, _, .cons h r => .cons (S _ _ h) (FkL.same S r)
theorem FkL.app {H : Hp} : ∀ {vs ws : List V} {fs gs : List Fk}, FkL H vs fs → FkL H ws gs → FkL H (vs ++ ws) (fs ++ gs)
  | _, _, _, _, .nil, g => g
  | _, _, _, _, .cons h r, g => .cons h (FkL.app r g)
theorem FkL.len {H : Hp} : ∀ {vs : List V} {fs : List Fk}, FkL H vs fs → vs.length = fs.length
  | _, _, .nil => rfl
  | _, _, .cons _ r => by rw [List.length_cons, List.length_cons, r.len]
theorem fk_add {Hx : Hp} {ws : List V} {fs : List Fk} {f : Fk} {t2 l2 G2 : Addr} (hF : FkL Hx ws fs) (ht2 : Hx t2 = none) (hl2 : upd Hx t2 (.tup (fkD f)) l2 = none) (hG2 : upd (upd Hx t2 (.tup (fkD f))) l2 (.lst [.ref t2]) G2 = none) :
    Same Hx (upd (upd (upd Hx t2 (.tup (fkD f))) l2 (.lst [.ref t2])) G2 (.lst (ws ++ [.ref t2]))) ∧ FkL (upd (upd (upd Hx t2 (.tup (fkD f))) l2 (.lst [.ref t2])) G2 (.lst (ws ++ [.ref t2]))) (ws ++ [.ref t2]) (fs ++ [f]) := by
  have S := ((same_new (o := .tup (fkD f)) ht2).trans (same_new (o := .lst [.ref t2]) hl2)).trans (same_new (o := .lst (ws ++ [.ref t2])) hG2)
  refine ⟨S, (hF.same S).app (.cons ?_ .nil)⟩
  exact (same_new (o := .lst (ws ++ [.ref t2])) hG2) _ _ ((same_new (o := .lst [.ref t2]) hl2) _ _ upd_same)
theorem fk_non {Hx : Hp} {ws : List V} {fs : List Fk} {l2 G2 : Addr} (hF : FkL Hx ws fs) (hl2 : Hx l2 = none) (hG2 : upd Hx l2 (.lst []) G2 = none) :
    Same Hx (upd (upd Hx l2 (.lst [])) G2 (.lst (ws ++ []))) ∧ FkL (upd (upd Hx l2 (.lst [])) G2 (.lst (ws ++ []))) ws (fs ++ []) := by
  have S := (same_new (o := .lst []) hl2).trans (same_new (o := .lst (ws ++ [])) hG2)
  exact ⟨S, by rw [List.append_nil fs]; exact hF.same S⟩
def spDepX (D : Nat) : Sp := fun vs H Q _ => ∃ (l : Addr) (xs : List V) (is : List Itm) (B : Addr → Prop), vs = [.ref l] ∧ H l = some (.lst xs) ∧ Rps B H xs is ∧ dIs is ≤ D ∧ (tkIs is).length ≤ 1000 ∧ ∀ H', Same H H' → Q (.int ((dIs is : Nat) : Int)) H'
def spDepXP : Nat → Sp
  | 0 => spNo
  | d + 1 => spDepX d
def spFks (D : Nat) : Sp := fun vs H Q _ => ∃ (l : Addr) (xs : List V) (is : List Itm) (B : Addr → Prop), vs = [.ref l] ∧ H l = some (.lst xs) ∧ Rps B H xs is ∧ dIs is ≤ D ∧ (tkIs is).length ≤ 1000 ∧ ∀ p ws H', Same H H' → H' p = some (.lst ws) → FkL H' ws (fks is) → Q (.ref p) H'
def spFksP : Nat → Sp
  | 0 => spNo
  | d + 1 => spFks d
section
variable {P : Program} {w : World} {K : PySem.W.Frag} {mg : Str → Option Value} {base : Heap}
theorem scDepth : FnScope ["_law_items_here", "_law_one"] ["_law_items_here"] (defScope sDepth) := ⟨rfl, rfl, rfl, by decide +kernel, rfl, by decide +kernel, by decide +kernel⟩
theorem ok_depX1 (D : Nat) {f fZ : Addr} {fd fdZ : FuncData} (F : Fun K "_law_depth" "_law_depth" sDepth f fd) (T : Blt mg) (U : Blt2 mg) (GZ : FnOk P w K mg base CX0 (1 + D) fZ fdZ ["_law_items_here"] (spDepXP D)) (bZ : Binds K fdZ ["_law_items_here"] []) (gZ : Fn K mg "_law_depth" fZ) :
    FnOk P w K mg base CX0 (2 + D) f fd ["_law_items_here"] (spDepX D) := by
  rw [show 2 + D = (1 + D) + 1 by omega]
  refine F.ok scDepth (fun vs H Q E h => ?_) (fun cdv A outer s H vs Q E hr h => ?_)
  · obtain ⟨l, xs, is, B, rfl, _⟩ := h
    rfl
  · obtain ⟨l, xs, is, B, rfl, hL, hR, hDp, htk0, k⟩ := h
    have hi := tks_ge is
    have hrZ : Room (1 + D) _ := hr
    refine ⟨_, (pss_one (ps_ret (pe_callB (cr_max rfl) (by rfl) U.max (by decide +kernel) (pa_cons (pe_op op_cat (pe_lst (pa_cons pe_int pa_nil)) (pe_lc (own := [("_law_one", 1)]) (g := gName 1) (tt := _) rfl scDepth.nd (pi_list (pv 0)) (blkOk_by (N := ["_law_items_here", "_law_one"]) (sc := defScope sDepth) (by decide +kernel)) (fun _ _ _ _ _ => pg_name (i := 1) scDepth.nd rfl (Or.inl rfl)) (fun _ _ _ _ _ => (pts_one (pt_cmpR op_eq (pe_ix (r := rIxT K) ix_tup (pv 1) pe_int (fun _ _ => rfl)) pe_str (nomark _)))) (fun _ _ _ _ _ => (pe_op op_add pe_int (pe_callTy call_int1 (by rfl) T.int (by decide +kernel) (pa_cons (pe_call GZ hrZ rfl gZ.g gZ.k bZ .nil pass0 (pa_cons (pe_ix (r := rIxT K) ix_tup (pv 1) pe_int (fun _ _ => rfl)) pa_nil)) pa_nil)))))) pa_nil)))), ?_⟩
    refine ⟨(by show 1 ≤ sizeLine; decide), fun a ha => ?_⟩
    have Sa : Same H (upd H a (.lst [.int 0])) := same_new ha
    have ha1 : upd H a (.lst [.int 0]) a = some (.lst [.int 0]) := upd_same
    have hR1 := hR.same Sa
    have hL1 := Sa _ _ hL
    generalize upd H a (.lst [.int 0]) = H1 at Sa ha1 hR1 hL1 ⊢
    refine ⟨_, rfl, l, rfl, ⟨_, SqL.of hL1⟩, fun L hLn => ?_⟩
    have hx := hR.len
    refine lc_list (xs := xs) (fun i Hk => Same H1 Hk ∧ Hk L = some (.lst ((ms (is.take i)).map V.int)) ∧ (ms (is.take i)).length ≤ i) ⟨same_new hLn, upd_same, Nat.le_refl _⟩ (fun i Hk _ h => SqL.of (h.1 _ _ hL1)) ?_ ?_
    · rintro i x Hk hxi ⟨hS, hLk, hlen⟩
      have hRk := hR1.same hS
      obtain ⟨it, hit, hr0⟩ := hRk.get hxi
      have hd0 := dI_mem hit
      have htk1 := tk_mem hit
      have tk : is.take (i + 1) = is.take i ++ [it] := by
        rw [List.take_add_one, hit]; rfl
      have il : i < xs.length := (List.getElem?_eq_some_iff.mp hxi).1
      refine ⟨rfl, ?_⟩
      have skip : tm it = [] → Same H1 Hk ∧ Hk L = some (.lst ((ms (is.take (i + 1))).map V.int)) ∧ (ms (is.take (i + 1))).length ≤ i + 1 := fun e => by
        have e2 : ms (is.take (i + 1)) = ms (is.take i) := by
          rw [tk, ms_app]
          show ms (is.take i) ++ (tm it ++ []) = _
          rw [e]; simp
        rw [e2]
        exact ⟨hS, hLk, by omega⟩
      cases hr0 with
      | say _ h => exact ⟨_, rfl, _, _, 0, _, rfl, rfl, SqT.of h, atI_nat rfl, rfl, _, rfl, iteF (skip rfl)⟩
      | press _ h => exact ⟨_, rfl, _, _, 0, _, rfl, rfl, SqT.of h, atI_nat rfl, rfl, _, rfl, iteF (skip rfl)⟩
      | go _ h => exact ⟨_, rfl, _, _, 0, _, rfl, rfl, SqT.of h, atI_nat rfl, rfl, _, rfl, iteF (skip rfl)⟩
      | @times t0 l0 n0 vs0 js0 _ _ h g r =>
        cases D with
        | zero => rw [dI] at hd0; omega
        | succ d =>
          rw [dI] at hd0
          rw [tkI] at htk1
          simp only [List.length_cons, List.length_append, List.length_nil] at htk1
          refine ⟨_, rfl, _, _, 0, _, rfl, rfl, SqT.of h, atI_nat rfl, rfl, _, rfl, iteT ?_⟩
          refine ⟨_, rfl, _, _, 2, _, rfl, rfl, SqT.of h, atI_nat rfl, _, _, _, _, rfl, g, r, (show dIs js0 ≤ d by omega), (show (tkIs js0).length ≤ 1000 by omega), fun H' hS' => ?_⟩
          refine .inl ⟨_, rfl, _, _, rfl, rfl, _, hS' _ _ hLk, by rw [List.length_map]; show _ < 16777216; omega, fun b o e => ?_, ?_, ?_⟩
          · rw [upd_ne (ne_of_none e hLn)]
            exact hS' _ _ (hS _ _ e)
          · rw [upd_same, tk, ms_app, List.map_append]
            rfl
          · rw [tk, ms_app, List.length_append]
            show _ + 1 ≤ _
            omega
    · rintro Hk ⟨hS, hLk, hlen⟩
      have tl : is.take xs.length = is := List.take_of_length_le (by omega)
      rw [tl] at hLk hlen
      have m8 : sizeLine = 16777216 := rfl
      have e0 : ([V.int 0] : List V) ++ (ms is).map V.int = ((0 : Int) :: ms is).map V.int := rfl
      refine ⟨a, L, _, _, rfl, rfl, hS _ _ ha1, hLk, by rw [List.length_map]; show 1 + _ ≤ _; omega, fun r hr' => ?_⟩
      rw [e0]
      refine ⟨r, _, rfl, SqL.of upd_same, by simp, fun m hm hle => ?_⟩
      have q1 := hle _ (ms_mem is)
      have q2 : m ≤ ((dIs is : Nat) : Int) := by
        rcases List.mem_cons.mp hm with rfl | hm
        · omega
        · exact ms_le is m hm
      rw [show m = ((dIs is : Nat) : Int) by omega]
      exact k _ ((Sa.trans hS).trans (same_new hr'))
theorem ok_depX {f : Addr} {fd : FuncData} (F : Fun K "_law_depth" "_law_depth" sDepth f fd) (T : Blt mg) (U : Blt2 mg) (bZ : Binds K fd ["_law_items_here"] []) (gZ : Fn K mg "_law_depth" f) :
    ∀ D : Nat, FnOk P w K mg base CX0 (2 + D) f fd ["_law_items_here"] (spDepX D)
  | 0 => ok_depX1 0 F T U (fdZ := fd) ok_no bZ gZ
  | D + 1 => ok_depX1 (D + 1) F T U (fdZ := fd) (by rw [show 1 + (D + 1) = 2 + D by omega]; exact ok_depX F T U bZ gZ D) bZ gZ
theorem scFaults : FnScope ["_law_items_here", "_law_found", "_law_one"] ["_law_items_here"] (defScope sFaults) := ⟨rfl, rfl, rfl, by decide +kernel, rfl, by decide +kernel, by decide +kernel⟩
theorem ok_faults1 (D : Nat) {f fZ fY : Addr} {fd fdZ fdY : FuncData} (F : Fun K "_law_faults" "_law_faults" sFaults f fd) (T : Blt mg) (U : Blt2 mg) (FY : Fun K "_law_depth" "_law_depth" sDepth fY fdY) (bY : Binds K fdY ["_law_items_here"] []) (gY : Fn K mg "_law_depth" fY)
    (GZ : FnOk P w K mg base CX0 (2 + D) fZ fdZ ["_law_items_here"] (spFksP D)) (bZ : Binds K fdZ ["_law_items_here"] []) (gZ : Fn K mg "_law_faults" fZ) : FnOk P w K mg base CX0 (3 + D) f fd ["_law_items_here"] (spFks D) := by
  have GY : FnOk P w K mg base CX0 (2 + D) fY fdY ["_law_items_here"] (spDepX D) := ok_depX FY T U bY gY D
  rw [show 3 + D = (2 + D) + 1 by omega]
  refine F.ok scFaults (fun vs H Q E h => ?_) (fun cdv A outer s H vs Q E hr h => ?_)
  · obtain ⟨l, xs, is, B, rfl, _⟩ := h
    rfl
  · obtain ⟨l, xs, is, B, rfl, hL, hR, hD, ht, q⟩ := h
    have hrZ : Room (2 + D) _ := hr
    refine ⟨_, pss_cons (ps_set (i := 1) scFaults.nd rfl (Or.inl rfl) (pe_lst pa_nil))
      (pss_cons (ps_for PassesOwn.never rfl (pi_list (pv 0)) (pg_name (i := 2) scFaults.nd rfl (Or.inl rfl))
        (pss_one (ps_if (pt_cmpR op_eq (pe_ix (r := rIxT K) ix_tup (pv 2) pe_int (fun _ _ => rfl)) pe_str (nomark _))
          (pss_cons (ps_set (i := 1) scFaults.nd rfl (Or.inl rfl) (pe_op op_cat (pv 1) (pe_call GZ hrZ rfl gZ.g gZ.k bZ .nil pass0 (pa_cons (pe_ix (r := rIxT K) ix_tup (pv 2) pe_int (fun _ _ => rfl)) pa_nil))))
          (C8.pss_cut (ps_set (i := 1) scFaults.nd rfl (Or.inl rfl) (pe_op op_cat (pv 1) (pe_ifExp (pt_cmpR op_gt (pe_ix (r := rIxT K) ix_tup (pv 2) pe_int (fun _ _ => rfl)) (pe_op op_pow pe_int pe_int) (nomark _)) (pe_lst (pa_cons (pe_tup (pa_cons pe_str (pa_cons pe_str pa_nil))) pa_nil)) (pe_lst pa_nil))))
          (C8.pss_cut (ps_set (i := 1) scFaults.nd rfl (Or.inl rfl) (pe_op op_cat (pv 1) (pe_ifExp (pt_cmpR op_gt (pe_callB call_len_seq (by rfl) T.len PySem.boot_len (pa_cons (pe_ix (r := rIxT K) ix_tup (pv 2) pe_int (fun _ _ => rfl)) pa_nil)) pe_int (nomark _)) (pe_lst (pa_cons (pe_tup (pa_cons pe_str (pa_cons pe_int pa_nil))) pa_nil)) (pe_lst pa_nil))))
          (pss_one (ps_set (i := 1) scFaults.nd rfl (Or.inl rfl) (pe_op op_cat (pv 1) (pe_ifExp (pt_cmpR op_gt (pe_call GY hrZ rfl gY.g gY.k bY .nil pass0 (pa_cons (pe_ix (r := rIxT K) ix_tup (pv 2) pe_int (fun _ _ => rfl)) pa_nil)) pe_int (nomark _)) (pe_lst (pa_cons (pe_tup (pa_cons pe_str (pa_cons pe_int pa_nil))) pa_nil)) (pe_lst pa_nil))))))))
          pss_nil)))
      (pss_one (ps_ret (pv 1)))), ?_⟩
    refine ⟨(by show 0 ≤ sizeLine; decide), fun F0 hF0 => ?_⟩
    have m8 : sizeLine = 16777216 := rfl
    have hx := hR.len
    refine ⟨_, rfl, l, rfl, ⟨_, SqL.of ((same_new hF0) _ _ hL)⟩, for_list (xs := xs) (fun i σ Hk => ∃ (y2 : Option V) (G : Addr) (ws : List V), σ = [some (.ref l), some (.ref G), y2] ∧ Same H Hk ∧ Hk G = some (.lst ws) ∧ FkL Hk ws (fks (is.take i))) ⟨none, F0, [], rfl, same_new hF0, upd_same, by rw [List.take_zero, fks]; exact .nil⟩ (fun i σ Hk _ h => let ⟨_, _, _, _, S, _⟩ := h; SqL.of (S _ _ hL)) ?_ ?_⟩
    · rintro i x σ Hk hxi ⟨y2, G, ws, rfl, S, hG, hFk⟩
      obtain ⟨it, hit, hr0⟩ := (hR.same S).get hxi
      have il : i < xs.length := (List.getElem?_eq_some_iff.mp hxi).1
      have tk : fks (is.take (i + 1)) = fks (is.take i) ++ fkI it := by
        rw [List.take_add_one, hit, tks_app]
        show _ ++ fks [it] = _
        rw [fks, fks, List.append_nil]
      have skip : fkI it = [] → ∃ (y2 : Option V) (G' : Addr) (ws : List V), [some (.ref l), some (V.ref G), some x] = [some (.ref l), some (.ref G'), y2] ∧ Same H Hk ∧ Hk G' = some (.lst ws) ∧ FkL Hk ws (fks (is.take (i + 1))) := fun e => ⟨_, G, ws, rfl, S, hG, by rw [tk, e, List.append_nil]; exact hFk⟩
      cases hr0 with
      | say _ h => exact ⟨_, rfl, _, _, 0, _, rfl, rfl, SqT.of h, atI_nat rfl, rfl, _, rfl, iteF (skip (by rw [fkI]))⟩
      | press _ h => exact ⟨_, rfl, _, _, 0, _, rfl, rfl, SqT.of h, atI_nat rfl, rfl, _, rfl, iteF (skip (by rw [fkI]))⟩
      | go _ h => exact ⟨_, rfl, _, _, 0, _, rfl, rfl, SqT.of h, atI_nat rfl, rfl, _, rfl, iteF (skip (by rw [fkI]))⟩
      | @times t lj n zs js _ _ h g r =>
        have hd := dI_mem hit
        rw [dI] at hd
        have htk := tk_mem hit
        rw [tkI] at htk
        simp only [List.length_cons, List.length_append, List.length_nil] at htk
        cases D with
        | zero => omega
        | succ d =>
          have wl := hFk.len
          have fl := fks_len (is.take (i + 1))
          have tl1 : (tkIs (is.take (i + 1))).length ≤ 1000 := by
            have all : ∀ (js : List Itm) (k : Nat), (tkIs (js.take k)).length ≤ (tkIs js).length := by
              intro js
              induction js with
              | nil => intro k; simp
              | cons a js ih =>
                intro k
                cases k with
                | zero => rw [List.take_zero, tkIs]; exact Nat.zero_le _
                | succ k => rw [List.take_succ_cons, tkIs, tkIs, List.length_append, List.length_append]; have := ih k; omega
            exact Nat.le_trans (all is (i + 1)) ht
          rw [tk, List.length_append] at fl
          refine ⟨_, rfl, _, _, 0, _, rfl, rfl, SqT.of h, atI_nat rfl, rfl, _, rfl, iteT ?_⟩
          refine ⟨_, rfl, _, rfl, _, _, 2, _, rfl, rfl, SqT.of h, atI_nat rfl, lj, zs, js, _, rfl, g, r, by omega, by omega, fun p1 us H1 S1 hp1 hU => ?_⟩
          have ul := hU.len
          have fkl : (fkI (.times n js)).length = (fks js).length + (fkOwn n js).length := by rw [fkI, List.length_append]
          refine ⟨G, p1, ws, us, rfl, rfl, S1 _ _ hG, hp1, by omega, fun G1 hG1 => ?_⟩
          have Sk : Same Hk (upd H1 G1 (.lst (ws ++ us))) := S1.trans (same_new hG1)
          have hGx : upd H1 G1 (.lst (ws ++ us)) G1 = some (.lst (ws ++ us)) := upd_same
          have hFx : FkL (upd H1 G1 (.lst (ws ++ us))) (ws ++ us) (fks (is.take i) ++ fks js) := ((hFk.same S1).app hU).same (same_new hG1)
          have hwl : (ws ++ us).length ≤ 3000 := by rw [List.length_append]; omega
          generalize upd H1 G1 (.lst (ws ++ us)) = H2 at Sk hGx hFx ⊢
          generalize ws ++ us = w2 at hGx hFx hwl ⊢
          refine ⟨fun σ' H' => ∃ (G' : Addr) (w' : List V), σ' = [some (.ref l), some (.ref G'), some (.ref t)] ∧ Same Hk H' ∧ H' G' = some (.lst w') ∧ FkL H' w' (fks (is.take i) ++ fks js ++ (if 1000000000 < n then [.item] else [])) ∧ w'.length ≤ 3001, ?_, ?_⟩
          · refine ⟨_, rfl, _, rfl, _, _, 1, _, rfl, rfl, SqT.of (Sk _ _ h), atI_nat rfl, _, _, rfl, rfl, ⟨by decide, by decide, by decide⟩, _, _, rfl, rfl, _, rfl, ?_⟩
            rw [show decide ((10 : Int) ^ (9 : Int).toNat < n) = decide (1000000000 < n) from by rw [show (10 : Int) ^ (9 : Int).toNat = 1000000000 by decide]]
            refine ite2 (fun g0 => ?_) (fun g0 => ?_)
            · rw [if_pos (of_decide_eq_true g0)]
              refine ⟨(by show 2 ≤ sizeLine; decide), fun t2 ht2 => ⟨(by show 1 ≤ sizeLine; decide), fun l2 hl2 => ?_⟩⟩
              refine ⟨_, l2, _, [.ref t2], rfl, rfl, (same_new hl2) _ _ ((same_new ht2) _ _ hGx), upd_same, (by show _ + 1 ≤ sizeLine; omega), fun G2 hG2 => ?_⟩
              obtain ⟨Sx, hFx2⟩ := fk_add (f := .item) hFx ht2 hl2 hG2
              exact ⟨G2, _, rfl, Sk.trans Sx, upd_same, hFx2, (by rw [List.length_append]; show _ + 1 ≤ _; omega)⟩
            · rw [if_neg (dec_of g0)]
              refine ⟨(by show 0 ≤ sizeLine; decide), fun l2 hl2 => ?_⟩
              refine ⟨_, l2, _, [], rfl, rfl, (same_new hl2) _ _ hGx, upd_same, (by show _ + 0 ≤ sizeLine; omega), fun G2 hG2 => ?_⟩
              obtain ⟨Sx, hFx2⟩ := fk_non hFx hl2 hG2
              exact ⟨G2, _, rfl, Sk.trans Sx, by rw [upd_same, List.append_nil], hFx2, by omega⟩
          clear hGx hFx hwl Sk
          rintro σ' H2 ⟨G1, w2, rfl, Sk, hGx, hFx, hwl⟩
          refine ⟨fun σ' H' => ∃ (G' : Addr) (w' : List V), σ' = [some (.ref l), some (.ref G'), some (.ref t)] ∧ Same Hk H' ∧ H' G' = some (.lst w') ∧ FkL H' w' (fks (is.take i) ++ fks js ++ (if 1000000000 < n then [.item] else []) ++ (if 6 < js.length then [.many] else [])) ∧ w'.length ≤ 3002, ?_, ?_⟩
          · refine ⟨_, rfl, _, rfl, _, _, 2, _, rfl, rfl, SqT.of (Sk _ _ h), atI_nat rfl, lj, zs, rfl, .inl (SqL.of (Sk _ _ g)), _, _, rfl, rfl, _, rfl, ?_⟩
            have zl := r.len
            rw [show decide ((6 : Int) < ((zs.length : Nat) : Int)) = decide (6 < js.length) from by rw [zl, decide_eq_decide]; omega]
            refine ite2 (fun g0 => ?_) (fun g0 => ?_)
            · rw [if_pos (of_decide_eq_true g0)]
              refine ⟨(by show 2 ≤ sizeLine; decide), fun t2 ht2 => ⟨(by show 1 ≤ sizeLine; decide), fun l2 hl2 => ?_⟩⟩
              refine ⟨_, l2, _, [.ref t2], rfl, rfl, (same_new hl2) _ _ ((same_new ht2) _ _ hGx), upd_same, (by show _ + 1 ≤ sizeLine; omega), fun G2 hG2 => ?_⟩
              obtain ⟨Sx, hFx2⟩ := fk_add (f := .many) hFx ht2 hl2 hG2
              exact ⟨G2, _, rfl, Sk.trans Sx, upd_same, hFx2, (by rw [List.length_append]; show _ + 1 ≤ _; omega)⟩
            · rw [if_neg (dec_of g0)]
              refine ⟨(by show 0 ≤ sizeLine; decide), fun l2 hl2 => ?_⟩
              refine ⟨_, l2, _, [], rfl, rfl, (same_new hl2) _ _ hGx, upd_same, (by show _ + 0 ≤ sizeLine; omega), fun G2 hG2 => ?_⟩
              obtain ⟨Sx, hFx2⟩ := fk_non hFx hl2 hG2
              exact ⟨G2, _, rfl, Sk.trans Sx, by rw [upd_same, List.append_nil], hFx2, by omega⟩
          clear hGx hFx hwl Sk
          rintro σ' H2 ⟨G1, w2, rfl, Sk, hGx, hFx, hwl⟩
          refine ⟨_, rfl, _, rfl, _, _, 2, _, rfl, rfl, SqT.of (Sk _ _ h), atI_nat rfl, lj, zs, js, _, rfl, Sk _ _ g, r.same Sk, by omega, by omega, fun H3 S3 => ?_⟩
          refine ⟨_, _, rfl, rfl, _, rfl, ?_⟩
          rw [show decide ((1 : Int) < ((dIs js : Nat) : Int)) = decide (1 < dIs js) from by rw [decide_eq_decide]; omega]
          replace Sk := Sk.trans S3
          replace hGx := S3 _ _ hGx
          replace hFx := hFx.same S3
          have e9 : fks (is.take (i + 1)) = fks (is.take i) ++ fks js ++ (if 1000000000 < n then [.item] else []) ++ (if 6 < js.length then [.many] else []) ++ (if 1 < dIs js then [.deep] else []) := by
            rw [tk, fkI]
            unfold fkOwn
            simp only [List.append_assoc]
          rw [e9]
          refine ite2 (fun g0 => ?_) (fun g0 => ?_)
          · rw [if_pos (of_decide_eq_true g0)]
            refine ⟨(by show 2 ≤ sizeLine; decide), fun t2 ht2 => ⟨(by show 1 ≤ sizeLine; decide), fun l2 hl2 => ?_⟩⟩
            refine ⟨_, l2, _, [.ref t2], rfl, rfl, (same_new hl2) _ _ ((same_new ht2) _ _ hGx), upd_same, (by show _ + 1 ≤ sizeLine; omega), fun G2 hG2 => ?_⟩
            obtain ⟨Sx, hFx2⟩ := fk_add (f := .deep) hFx ht2 hl2 hG2
            exact ⟨_, G2, _, rfl, (S.trans Sk).trans Sx, upd_same, hFx2⟩
          · rw [if_neg (dec_of g0)]
            refine ⟨(by show 0 ≤ sizeLine; decide), fun l2 hl2 => ?_⟩
            refine ⟨_, l2, _, [], rfl, rfl, (same_new hl2) _ _ hGx, upd_same, (by show _ + 0 ≤ sizeLine; omega), fun G2 hG2 => ?_⟩
            obtain ⟨Sx, hFx2⟩ := fk_non hFx hl2 hG2
            exact ⟨_, G2, _, rfl, (S.trans Sk).trans Sx, by rw [upd_same, List.append_nil], hFx2⟩
    · rintro σ Hk ⟨y2, G, ws, rfl, S, hG, hFk⟩
      rw [List.take_of_length_le (by omega)] at hFk
      exact ⟨_, rfl, q G ws Hk S hG hFk⟩
theorem ok_faults {f fY : Addr} {fd fdY : FuncData} (F : Fun K "_law_faults" "_law_faults" sFaults f fd) (T : Blt mg) (U : Blt2 mg) (FY : Fun K "_law_depth" "_law_depth" sDepth fY fdY) (bY : Binds K fdY ["_law_items_here"] []) (gY : Fn K mg "_law_depth" fY) (bZ : Binds K fd ["_law_items_here"] []) (gZ : Fn K mg "_law_faults" f) :
    ∀ D : Nat, FnOk P w K mg base CX0 (3 + D) f fd ["_law_items_here"] (spFks D)
  | 0 => ok_faults1 0 F T U FY bY gY (fdZ := fd) ok_no bZ gZ
  | D + 1 => ok_faults1 (D + 1) F T U FY bY gY (fdZ := fd) (by rw [show 2 + (D + 1) = 3 + D by omega]; exact ok_faults F T U FY bY gY bZ gZ D) bZ gZ
end
end KP
end

section
set_option Elab.async false
set_option linter.all false
set_option maxRecDepth 100000
set_option maxHeartbeats 4000000
namespace KP
open PySem PySem.Spec PyProof.Rows L2 Pn TL StX
abbrev sBent : Stmt := top 58
def cnt (z : PySem.Str) : Nat := (tl z).count 40
theorem cnt_app (x y : PySem.Str) : cnt (x ++ y) = cnt x + cnt y := by
  unfold cnt
  rw [tl_append, List.count_append]
theorem cut_to {z : PySem.Str} {a : Int} (h0 : 0 ≤ a) : tl (cutS z none (some a)) = (tl z).take a.toNat := by
  obtain ⟨n, rfl⟩ := Int.eq_ofNat_of_zero_le h0
  unfold cutS
  rw [HT.sIx_none]
  show ((tl z).drop 0).take (HT.sIx z.length z.length (some ((n : Nat) : Int)) - 0) = _
  rw [HT.sIx_nat, List.drop_zero, Nat.sub_zero, Int.toNat_natCast]
  have e : z.length = (tl z).length := len_tl z
  by_cases h : n ≤ z.length
  · rw [Nat.min_eq_left h]
  · rw [Nat.min_eq_right (by omega), List.take_of_length_le (by omega), List.take_of_length_le (by omega)]
theorem cut_from {z : PySem.Str} {a : Int} (h0 : 0 ≤ a) : tl (cutS z (some a) none) = (tl z).drop a.toNat := by
  obtain ⟨n, rfl⟩ := Int.eq_ofNat_of_zero_le h0
  unfold cutS
  rw [HT.sIx_none, HT.sIx_nat, Int.toNat_natCast]
  show ((tl z).drop (min n z.length)).take (z.length - min n z.length) = _
  have e : z.length = (tl z).length := len_tl z
  by_cases h : n ≤ z.length
  · rw [Nat.min_eq_left h, List.take_of_length_le (by rw [List.length_drop]; omega)]
  · rw [Nat.min_eq_right (by omega), List.drop_eq_nil_of_le (show (tl z).length ≤ z.length by omega), List.drop_eq_nil_of_le (show (tl z).length ≤ n by omega)]
    simp
theorem two_cuts {z : PySem.Str} {a b : Int} (h0 : 0 ≤ a) (h1 : a ≤ b) : (cutS z none (some a)).length + (cutS z (some b) none).length ≤ z.length ∧ cnt (cutS z none (some a)) + cnt (cutS z (some b) none) ≤ cnt z := by
  have e1 := cut_to (z := z) h0
  have e2 := cut_from (z := z) (show 0 ≤ b by omega)
  have e3 : (tl z).take a.toNat ++ (tl z).drop a.toNat = tl z := List.take_append_drop ..
  have e4 : (tl z).drop b.toNat = ((tl z).drop a.toNat).drop (b.toNat - a.toNat) := by rw [List.drop_drop]; congr 1; omega
  refine ⟨?_, ?_⟩
  · rw [len_tl, len_tl, len_tl, e1, e2, List.length_take, List.length_drop]; omega
  · unfold cnt
    rw [e1, e2, e4]
    have c1 : (((tl z).drop a.toNat).drop (b.toNat - a.toNat)).count 40 ≤ ((tl z).drop a.toNat).count 40 := (List.drop_sublist _ _).count_le 40
    have c2 : (tl z).count 40 = ((tl z).take a.toNat).count 40 + ((tl z).drop a.toNat).count 40 := by rw [← List.count_append, e3]
    omega
theorem cnt_le (z : PySem.Str) : cnt z ≤ z.length := by
  rw [len_tl]
  exact List.count_le_length
def BentOk (z y : PySem.Str) : Prop := (y.length ≤ z.length + 13 ∧ cnt y ≤ cnt z + 1) ∨ y.length ≤ 241
def bents : List V := [.str " ", .str "(", .str ")", .str "!", .str "@", .str "a", .str "A", .str "0", .str "7", .str "2(a)", .str "3()", .str " b", .str "zzzzzzzz", .str "10000000000", .str "9999999999()"]
theorem bents_ok : ∀ x ∈ bents, ∃ y : PySem.Str, x = .str y ∧ y.length ≤ 12 ∧ cnt y ≤ 1 := by
  intro x m
  unfold bents at m
  simp only [List.mem_cons, List.not_mem_nil, or_false] at m
  rcases m with rfl | rfl | rfl | rfl | rfl | rfl | rfl | rfl | rfl | rfl | rfl | rfl | rfl | rfl | rfl <;> exact ⟨_, rfl, by decide +kernel, by decide +kernel⟩
def spBent : Sp := fun vs H Q _ => ∃ (p c : Addr) (ns : List Int) (n : Nat) (z : PySem.Str), vs = [.ref p, .str z] ∧ PenAt H p c ns n ∧ n ≤ 999999000 ∧ ns.length ≤ 63 ∧ z.length ≤ 1000 ∧
  ∀ (y : PySem.Str) (H' : Hp), BentOk z y → But p H H' → PenAt H' p c ns (n + 3) → Q (.str y) H'
section
variable {P : Program} {w : World} {K : PySem.W.Frag} {mg : Str → Option Value} {base : Heap}
theorem scBent : FnScope ["_law_pen_here", "_law_text_here", "_law_at", "_law_way", "_law_some"] ["_law_pen_here", "_law_text_here"] (defScope sBent) := ⟨rfl, rfl, rfl, by decide +kernel, rfl, by decide +kernel, by decide +kernel⟩
theorem ok_bent {f fP fD : Addr} {fd fdP fdD : FuncData} (F : Fun K "_law_bent" "_law_bent" sBent f fd) (T : Blt mg) (FD : Fun K "_law_draw" "_law_draw" sDraw fD fdD) (bD : Binds K fdD ["_law_pen_here", "_law_size"] []) (gD : Fn K mg "_law_draw" fD)
    (FP : Fun K "_law_pick" "_law_pick" sPick fP fdP) (bP : Binds K fdP ["_law_pen_here", "_law_items_here"] []) (gP : Fn K mg "_law_pick" fP) : FnOk P w K mg base CX0 3 f fd ["_law_pen_here", "_law_text_here"] spBent := by
  have GD : FnOk P w K mg base CX0 1 fD fdD ["_law_pen_here", "_law_size"] spDraw := ok_draw FD T
  have GP : FnOk P w K mg base CX0 2 fP fdP ["_law_pen_here", "_law_items_here"] (spPick2 K) := ok_pick FP T FD bD gD
  refine F.ok scBent (fun vs H Q E h => ?_) (fun cdv A outer s H vs Q E hr h => ?_)
  · obtain ⟨p, c, ns, n, z, rfl, _⟩ := h
    rfl
  · obtain ⟨p, c, ns, n, z, rfl, hP, hn, hl, hz, q⟩ := h
    have hr2 : Room 2 _ := hr
    have hr1 : Room 1 _ := hr.mono (by decide)
    refine ⟨_, pss_cons (ps_par (i := 2) (j := 3) (by rfl) scBent.nd rfl rfl (by decide) rfl rfl (pa_cons (pe_call GD hr1 rfl gD.g gD.k bD .nil pass0 (pa_cons (pv 0) (pa_cons (pe_op op_add (pe_callB call_len_str (by rfl) T.len PySem.boot_len (pa_cons (pv 1) pa_nil)) pe_int) pa_nil))) (pa_cons (pe_call GD hr1 rfl gD.g gD.k bD .nil pass0 (pa_cons (pv 0) (pa_cons pe_int pa_nil))) pa_nil)) (by rfl))
      (pss_cons (ps_set (i := 4) scBent.nd rfl (Or.inl rfl) (pe_lst (pa_cons pe_str (pa_cons pe_str (pa_cons pe_str (pa_cons pe_str (pa_cons pe_str (pa_cons pe_str (pa_cons pe_str (pa_cons pe_str (pa_cons pe_str (pa_cons pe_str (pa_cons pe_str (pa_cons pe_str (pa_cons pe_str (pa_cons pe_str (pa_cons pe_str pa_nil)))))))))))))))))
      (pss_cons (ps_if (pt_cmpR op_eq (pv 3) pe_int (nomark _)) (pss_one (ps_ret (pe_op op_add_str (pe_slice sl_str (pv 1) po_none (po_some (pv 2))) (pe_slice sl_str (pv 1) (po_some (pe_op op_add (pv 2) pe_int)) po_none)))) pss_nil)
      (pss_cons (ps_if (pt_cmpR op_eq (pv 3) pe_int (nomark _)) (pss_one (ps_ret (pe_slice sl_str (pv 1) po_none (po_some (pv 2))))) pss_nil)
      (pss_cons (ps_if (pt_cmpR op_eq (pv 3) pe_int (nomark _)) (pss_one (ps_ret (pe_op op_add_str (pe_op op_add_str pe_str (pv 1)) pe_str))) pss_nil)
      (pss_cons (ps_if (pt_cmpR op_eq (pv 3) pe_int (nomark _)) (pss_one (ps_ret (pe_ifExp (pt_cmpR op_lt (pe_callB call_len_str (by rfl) T.len PySem.boot_len (pa_cons (pv 1) pa_nil)) pe_int (nomark _)) (pe_op op_add_str (pe_op op_add_str (pv 1) pe_str) (pv 1)) (pv 1)))) pss_nil)
      (pss_one (ps_ret (pe_op op_add_str (pe_op op_add_str (pe_slice sl_str (pv 1) po_none (po_some (pv 2))) (pe_call GP hr2 rfl gP.g gP.k bP .nil pass0 (pa_cons (pv 0) (pa_cons (pv 4) pa_nil)))) (pe_slice sl_str (pv 1) (po_some (pe_op op_add (pv 2) (pe_callTy call_int1 (by rfl) T.int (by decide +kernel) (pa_cons (pe_cmpR op_eq (pv 3) pe_int (nomark _)) pa_nil)))) po_none))))))))), ?_⟩
    have m8 : sizeLine = 16777216 := rfl
    have cl := cnt_le z
    refine ⟨_, rfl, _, rfl, z, rfl, by omega, _, _, rfl, rfl, p, c, ns, n, _, rfl, hP, by omega, hl, by omega, by omega, fun d1 H1 a1 b1 hB1 hP1 => ?_⟩
    refine ⟨_, rfl, p, c, ns, _, _, rfl, hP1, by omega, hl, by decide, by decide, fun d2 H2 a2 b2 hB2 hP2 => ?_⟩
    refine ⟨_, _, rfl, (by show 15 ≤ sizeLine; decide), fun l hl2 => ?_⟩
    have hL3 : upd H2 l (.lst bents) l = some (.lst bents) := upd_same
    have hP3 : PenAt (upd H2 l (.lst bents)) p c ns (n + 1 + 1) := hP2.same (same_new hl2)
    have hB3 : But p H (upd H2 l (.lst bents)) := (hB1.trans hB2).trans (Same.but p (same_new hl2))
    have z8 : z.length ≤ sizeLine := by omega
    have fin : ∀ (y : PySem.Str) (H4 : Hp), BentOk z y → But p (upd H2 l (.lst bents)) H4 → PenAt H4 p c ns (n + 1 + 1 + 1) → Q (.str y) H4 := fun y H4 a b g => q y H4 a (hB3.trans b) g
    have fin0 : ∀ (y : PySem.Str), BentOk z y → Q (.str y) (upd H2 l (.lst bents)) := fun y a => fin y _ a (But.refl p _) (hP3.mono (by omega))
    have dd : ∀ (m : Int), 0 ≤ m → d1 ≤ d1 + m := fun m h => by omega
    refine ⟨_, rfl, rfl, _, rfl, ite2 (fun g => ?_) (fun _ => ?_)⟩
    · obtain ⟨e1, e2⟩ := two_cuts (z := z) a1 (dd 1 (by decide))
      exact ⟨_, rfl, _, rfl, _, rfl, _, rfl, z8, _, rfl, _, rfl, _, _, rfl, rfl, _, rfl, _, rfl, z8, _, _, rfl, rfl, by omega, fin0 _ (.inl ⟨(by rw [Str.length_append]; omega), (by rw [cnt_app]; omega)⟩)⟩
    refine ⟨_, rfl, rfl, _, rfl, ite2 (fun g => ?_) (fun _ => ?_)⟩
    · obtain ⟨e1, e2⟩ := two_cuts (z := z) a1 (Int.le_refl d1)
      exact ⟨_, rfl, _, rfl, _, rfl, _, rfl, z8, fin0 _ (.inl ⟨(by omega), (by omega)⟩)⟩
    refine ⟨_, rfl, rfl, _, rfl, ite2 (fun g => ?_) (fun _ => ?_)⟩
    · have l2 : (("2(" : PySem.Str)).length = 2 := by decide +kernel
      have l1 : ((")" : PySem.Str)).length = 1 := by decide +kernel
      have n2 : cnt "2(" = 1 := by decide +kernel
      have n1 : cnt ")" = 0 := by decide +kernel
      exact ⟨_, rfl, _, _, rfl, rfl, by omega, _, _, rfl, rfl, by rw [Str.length_append]; omega, fin0 _ (.inl ⟨(by rw [Str.length_append, Str.length_append]; omega), (by rw [cnt_app, cnt_app]; omega)⟩)⟩
    refine ⟨_, rfl, rfl, _, rfl, ite2 (fun g => ?_) (fun _ => ?_)⟩
    · refine ⟨_, rfl, z, rfl, z8, _, _, rfl, rfl, _, rfl, ite2 (fun g2 => ?_) (fun g2 => ?_)⟩
      · have gl : ((z.length : Nat) : Int) < 120 := of_decide_eq_true g2
        have l1 : ((" " : PySem.Str)).length = 1 := by decide +kernel
        have n1 : cnt " " = 0 := by decide +kernel
        exact ⟨_, rfl, _, _, rfl, rfl, by omega, _, rfl, _, _, rfl, rfl, by rw [Str.length_append]; omega, fin0 _ (.inr (by rw [Str.length_append, Str.length_append]; omega))⟩
      · exact ⟨_, rfl, fin0 _ (.inl ⟨(by omega), (by omega)⟩)⟩
    refine ⟨_, rfl, _, rfl, _, rfl, _, rfl, z8, _, rfl, _, rfl, p, c, .ref l, ns, _, bents, rfl, hP3, by omega, hl, .inl ⟨l, rfl, SqL.of hL3⟩, (by decide), (by decide), fun x H4 hx hB4 hP4 => ?_⟩
    obtain ⟨y, rfl, y1, y2⟩ := bents_ok x hx
    have fin2 : ∀ (m : Int), 0 ≤ m → BentOk z (cutS z none (some d1) ++ y ++ cutS z (some (d1 + m)) none) ∧ (cutS z none (some d1)).length + y.length + (cutS z (some (d1 + m)) none).length ≤ 2000 := fun m hm => by
      obtain ⟨e1, e2⟩ := two_cuts (z := z) a1 (dd m hm)
      exact ⟨(.inl ⟨(by rw [Str.length_append, Str.length_append]; omega), (by rw [cnt_app, cnt_app]; omega)⟩), by omega⟩
    obtain ⟨c1, c2⟩ := two_cuts (z := z) a1 (Int.le_refl d1)
    refine ⟨_, _, rfl, rfl, by omega, _, rfl, _, rfl, _, rfl, rfl, .inr ⟨_, rfl, ?_⟩⟩
    have hm : (0 : Int) ≤ (if decide (V.int d2 = V.int 6) then 1 else 0) := by split <;> decide
    obtain ⟨f1, f2⟩ := fin2 _ hm
    exact ⟨_, _, rfl, rfl, _, rfl, _, rfl, z8, _, _, rfl, rfl, by rw [Str.length_append]; omega, fin _ _ f1 hB4 hP4⟩
end
end KP
end

section
set_option Elab.async false
set_option linter.all false
set_option maxRecDepth 100000
set_option maxHeartbeats 4000000
/-! What repr says of plain items tells them. -/
namespace Pn
open PySem PySem.Spec PyProof.Rows L2
theorem isPr_low : ∀ c : Nat, 97 ≤ c → c ≤ 122 → Unicode.isPrintable c = true := by
  intro c h1 h2
  have : c ∈ (List.range 26).map (· + 97) := List.mem_map.mpr ⟨c - 97, List.mem_range.mpr (by omega), by omega⟩
  have all : ((List.range 26).map (· + 97)).all Unicode.isPrintable = true := by decide +kernel
  exact List.all_eq_true.mp all c this
theorem reprC_low {c : Nat} (h1 : 97 ≤ c) (h2 : c ≤ 122) : Builtin.Str.reprChar 39 c = [c] := by
  unfold Builtin.Str.reprChar
  have e1 : (c == 39 || c == 92) = false := by simp; omega
  have e2 : (c == 10) = false := by simp; omega
  have e3 : (c == 13) = false := by simp; omega
  have e4 : (c == 9) = false := by simp; omega
  simp only [e1, e2, e3, e4, isPr_low c h1 h2]
  rfl
theorem fold_low : ∀ (l : List Nat) (acc : Array Nat), Low l → (l.foldl (fun out c => out ++ (Builtin.Str.reprChar 39 c).toArray) acc).toList = acc.toList ++ l
  | [], acc, _ => by simp
  | c :: l, acc, h => by
    have hc := h c (List.mem_cons_self ..)
    rw [List.foldl_cons, fold_low l _ (fun d m => h d (List.mem_cons_of_mem _ m)), reprC_low hc.1 hc.2]
    simp
theorem repr_low {z : PySem.Str} (h : Low z.cps.toList) : (reprText z).cps.toList = 39 :: (z.cps.toList ++ [39]) := by
  have q : reprQuote z = 39 := by
    unfold reprQuote
    have : z.cps.contains 39 = false := by
      cases e : z.cps.contains 39 with
      | false => rfl
      | true =>
        have m : (39 : Nat) ∈ z.cps := by simpa using e
        have := h 39 (Array.mem_toList_iff.mpr m)
        omega
    rw [this]
    rfl
  unfold reprText
  rw [q]
  rw [← Array.foldl_toList]
  simp only [Array.toList_push]
  rw [fold_low _ _ h]
  simp
end Pn
namespace Pn
open PySem PySem.Spec PyProof.Rows L2
theorem nat_text_inj {m n : Int} (hm : 0 ≤ m) (hn : 0 ≤ n) (e : (PySem.Str.ofString (toString m)).cps.toList = (PySem.Str.ofString (toString n)).cps.toList) : m = n := by
  obtain ⟨a, rfl⟩ := Int.eq_ofNat_of_zero_le hm
  obtain ⟨b, rfl⟩ := Int.eq_ofNat_of_zero_le hn
  rw [signs_ofString, signs_ofString] at e
  have e1 : (toString (a : Int)).toList = (toString (b : Int)).toList := by
    have inj : ∀ l l' : List Char, l.map Char.toNat = l'.map Char.toNat → l = l' := by
      intro l
      induction l with
      | nil => intro l' h; cases l' with
        | nil => rfl
        | cons c l' => cases h
      | cons c l ih => intro l' h; cases l' with
        | nil => cases h
        | cons c' l' =>
          rw [List.map_cons, List.map_cons] at h
          injection h with h1 h2
          rw [ih l' h2]
          have : c = c' := Char.ext (UInt32.toNat_inj.mp h1)
          rw [this]
    exact inj _ _ e
  have t : ∀ k : Nat, (toString (k : Int)).toList = Nat.toDigits 10 k := fun k => by
    show (Nat.repr k).toList = _
    unfold Nat.repr
    simp
  rw [t, t] at e1
  have := congrArg (fun l => Nat.ofDigitChars 10 l 0) e1
  simp only [Nat.ofDigitChars_toDigits (b := 10) (by decide) (by decide)] at this
  rw [this]
/-- a stretch without one sign, up to that sign -/
theorem cut_at {k : Nat} : ∀ {a b r r' : List Nat}, k ∉ a → k ∉ b → a ++ k :: r = b ++ k :: r' → a = b ∧ r = r'
  | [], [], r, r', _, _, e => by
    injection e with _ e
    exact ⟨rfl, e⟩
  | [], c :: b, r, r', _, hb, e => by
    injection e with e1 _
    exact absurd (by rw [e1]; exact List.mem_cons_self ..) hb
  | c :: a, [], r, r', ha, _, e => by
    injection e with e1 _
    exact absurd (by rw [← e1]; exact List.mem_cons_self ..) ha
  | c :: a, d :: b, r, r', ha, hb, e => by
    injection e with e1 e2
    obtain ⟨x, y⟩ := cut_at (fun m => ha (List.mem_cons_of_mem _ m)) (fun m => hb (List.mem_cons_of_mem _ m)) e2
    exact ⟨by rw [e1, x], y⟩
theorem low_no {l : List Nat} (h : Low l) : (39 : Nat) ∉ l := fun m => by have := h 39 m; omega
mutual
def cI : Itm → List Nat
  | .say z => [40, 39, 115, 97, 121, 39, 44, 32, 39] ++ (z.cps.toList ++ [39, 41])
  | .press z => [40, 39, 112, 114, 101, 115, 115, 39, 44, 32, 39] ++ (z.cps.toList ++ [39, 41])
  | .go z => [40, 39, 103, 111, 39, 44, 32, 39] ++ (z.cps.toList ++ [39, 41])
  | .times n its => [40, 39, 116, 105, 109, 101, 115, 39, 44, 32] ++ ((PySem.Str.ofString (toString n)).cps.toList ++ ([44, 32, 91] ++ (cL its ++ [93, 41])))
def cL : List Itm → List Nat
  | [] => []
  | i :: is => cI i ++ cT is
def cT : List Itm → List Nat
  | [] => []
  | i :: is => 44 :: 32 :: (cI i ++ cT is)
end
mutual
theorem cI_inj : ∀ (i j : Itm) (d d' : Nat) (r r' : List Nat), ItOk d i → ItOk d' j → cI i ++ r = cI j ++ r' → i = j ∧ r = r'
  | .say z, .say y, d, d', r, r', h, g, e => by
    cases h with
    | say h => cases g with
      | say g =>
        simp only [cI, List.append_assoc, List.cons_append, List.nil_append, List.cons.injEq, true_and] at e
        obtain ⟨e1, e2⟩ := cut_at (low_no h.2.2) (low_no g.2.2) e
        simp only [List.cons.injEq, true_and] at e2
        exact ⟨by rw [show z = y from by cases z; cases y; simp only at e1; rw [Array.toList_inj.mp e1]], e2⟩
  | .press z, .press y, d, d', r, r', h, g, e => by
    cases h with
    | press h => cases g with
      | press g =>
        simp only [cI, List.append_assoc, List.cons_append, List.nil_append, List.cons.injEq, true_and] at e
        obtain ⟨e1, e2⟩ := cut_at (low_no h.2.2) (low_no g.2.2) e
        simp only [List.cons.injEq, true_and] at e2
        exact ⟨by rw [show z = y from by cases z; cases y; simp only at e1; rw [Array.toList_inj.mp e1]], e2⟩
  | .go z, .go y, d, d', r, r', h, g, e => by
    cases h with
    | go h => cases g with
      | go g =>
        simp only [cI, List.append_assoc, List.cons_append, List.nil_append, List.cons.injEq, true_and] at e
        obtain ⟨e1, e2⟩ := cut_at (low_no h.2.2) (low_no g.2.2) e
        simp only [List.cons.injEq, true_and] at e2
        exact ⟨by rw [show z = y from by cases z; cases y; simp only at e1; rw [Array.toList_inj.mp e1]], e2⟩
  | .times n its, .times m jts, d, d', r, r', h, g, e => by
    cases h with
    | times h1 h2 h3 h4 => cases g with
      | times g1 g2 g3 g4 =>
        simp only [cI, List.append_assoc, List.cons_append, List.nil_append, List.cons.injEq, true_and] at e
        have n44 : ∀ k : Int, (44 : Nat) ∉ (PySem.Str.ofString (toString k)).cps.toList := fun k => (intText_free_44 k).mp
        obtain ⟨e1, e2⟩ := cut_at (n44 n) (n44 m) e
        have en := nat_text_inj h1 g1 e1
        simp only [List.cons.injEq, true_and] at e2
        obtain ⟨e3, e4⟩ := cL_inj its jts _ _ _ _ h4 g4 e2
        simp only [List.cons.injEq, true_and] at e4
        exact ⟨by rw [en, e3], e4⟩
  | .say _, .press _, _, _, _, _, _, _, e => by simp [cI] at e
  | .say _, .go _, _, _, _, _, _, _, e => by simp [cI] at e
  | .say _, .times _ _, _, _, _, _, _, _, e => by simp [cI] at e
  | .press _, .say _, _, _, _, _, _, _, e => by simp [cI] at e
  | .press _, .go _, _, _, _, _, _, _, e => by simp [cI] at e
  | .press _, .times _ _, _, _, _, _, _, _, e => by simp [cI] at e
  | .go _, .say _, _, _, _, _, _, _, e => by simp [cI] at e
  | .go _, .press _, _, _, _, _, _, _, e => by simp [cI] at e
  | .go _, .times _ _, _, _, _, _, _, _, e => by simp [cI] at e
  | .times _ _, .say _, _, _, _, _, _, _, e => by simp [cI] at e
  | .times _ _, .press _, _, _, _, _, _, _, e => by simp [cI] at e
  | .times _ _, .go _, _, _, _, _, _, _, e => by simp [cI] at e
theorem cL_inj : ∀ (is js : List Itm) (d d' : Nat) (r r' : List Nat), ItsOk d is → ItsOk d' js → cL is ++ 93 :: r = cL js ++ 93 :: r' → is = js ∧ r = r'
  | [], [], _, _, r, r', _, _, e => by simp [cL] at e; exact ⟨rfl, e⟩
  | [], j :: js, _, _, r, r', _, _, e => by cases j <;> simp [cL, cI] at e
  | i :: is, [], _, _, r, r', _, _, e => by cases i <;> simp [cL, cI] at e
  | i :: is, j :: js, d, d', r, r', h, g, e => by
    cases h with
    | cons h1 h2 => cases g with
      | cons g1 g2 =>
        simp only [cL, List.append_assoc] at e
        obtain ⟨e1, e2⟩ := cI_inj i j _ _ _ _ h1 g1 e
        obtain ⟨e3, e4⟩ := cT_inj is js _ _ _ _ h2 g2 e2
        exact ⟨by rw [e1, e3], e4⟩
theorem cT_inj : ∀ (is js : List Itm) (d d' : Nat) (r r' : List Nat), ItsOk d is → ItsOk d' js → cT is ++ 93 :: r = cT js ++ 93 :: r' → is = js ∧ r = r'
  | [], [], _, _, r, r', _, _, e => by simp [cT] at e; exact ⟨rfl, e⟩
  | [], j :: js, _, _, r, r', _, _, e => by simp [cT] at e
  | i :: is, [], _, _, r, r', _, _, e => by simp [cT] at e
  | i :: is, j :: js, d, d', r, r', h, g, e => by
    cases h with
    | cons h1 h2 => cases g with
      | cons g1 g2 =>
        simp only [cT, List.append_assoc, List.cons_append, List.cons.injEq, true_and] at e
        obtain ⟨e1, e2⟩ := cI_inj i j _ _ _ _ h1 g1 e
        obtain ⟨e3, e4⟩ := cT_inj is js _ _ _ _ h2 g2 e2
        exact ⟨by rw [e1, e3], e4⟩
end
end Pn
namespace Pn
open PySem PySem.Spec PyProof.Rows L2
theorem textFrom_succ : ∀ (ts : List PySem.Str) (k : Nat) (acc : PySem.Str), (textFrom (k + 1) acc ts).cps.toList = acc.cps.toList ++ (ts.map fun t => 44 :: 32 :: t.cps.toList).flatten
  | [], k, acc => by simp [textFrom]
  | t :: ts, k, acc => by
    rw [textFrom, textFrom_succ ts (k + 1), if_pos (Nat.succ_pos k), cps_app, cps_app, List.map_cons, List.flatten_cons]
    have e : ((PySem.Str.ofString ", ")).cps.toList = [44, 32] := by decide +kernel
    rw [show ((", " : String) : PySem.Str).cps.toList = [44, 32] from e]
    simp
theorem listText_cons (t : PySem.Str) (ts : List PySem.Str) : (listText (t :: ts)).cps.toList = 91 :: (t.cps.toList ++ ((ts.map fun t => 44 :: 32 :: t.cps.toList).flatten ++ [93])) := by
  unfold listText
  rw [cps_app, textFrom, textFrom_succ, cps_app, cps_app]
  have e1 : (("[" : PySem.Str)).cps.toList = [91] := by decide +kernel
  have e2 : (("]" : PySem.Str)).cps.toList = [93] := by decide +kernel
  have e3 : ((if 0 > 0 then ", " else "" : String) : PySem.Str).cps.toList = [] := by decide +kernel
  rw [e1, e2, e3]
  simp
theorem listText_nil : (listText []).cps.toList = [91, 93] := by decide +kernel
theorem tup2 (a b : PySem.Str) : (tupleText [a, b]).cps.toList = 40 :: (a.cps.toList ++ (44 :: 32 :: (b.cps.toList ++ [41]))) := by
  unfold tupleText
  rw [cps_app, cps_app]
  show _ ++ (a ++ (PySem.Str.ofString ", ") ++ b).cps.toList ++ _ = _
  rw [cps_app, cps_app]
  have e1 : (("(" : PySem.Str)).cps.toList = [40] := by decide +kernel
  have e2 : ((PySem.Str.ofString ", ")).cps.toList = [44, 32] := by decide +kernel
  have e3 : ((if [a, b].length == 1 then ",)" else ")" : String) : PySem.Str).cps.toList = [41] := by
    show ((if false = true then ",)" else ")" : String) : PySem.Str).cps.toList = [41]
    decide +kernel
  rw [e1, e2, e3]
  simp
theorem tup3 (a b c : PySem.Str) : (tupleText [a, b, c]).cps.toList = 40 :: (a.cps.toList ++ (44 :: 32 :: (b.cps.toList ++ (44 :: 32 :: (c.cps.toList ++ [41]))))) := by
  unfold tupleText
  rw [cps_app, cps_app]
  show _ ++ (a ++ (PySem.Str.ofString ", ") ++ (b ++ (PySem.Str.ofString ", ") ++ c)).cps.toList ++ _ = _
  rw [cps_app, cps_app, cps_app, cps_app]
  have e1 : (("(" : PySem.Str)).cps.toList = [40] := by decide +kernel
  have e2 : ((PySem.Str.ofString ", ")).cps.toList = [44, 32] := by decide +kernel
  have e3 : ((if [a, b, c].length == 1 then ",)" else ")" : String) : PySem.Str).cps.toList = [41] := by
    show ((if false = true then ",)" else ")" : String) : PySem.Str).cps.toList = [41]
    decide +kernel
  rw [e1, e2, e3]
  simp
theorem low_say : Low ("say" : PySem.Str).cps.toList := by
  have : ("say" : PySem.Str).cps.toList.all (fun c => decide (97 ≤ c) && decide (c ≤ 122)) = true := by decide +kernel
  intro c m
  have := List.all_eq_true.mp this c m
  simpa using this
theorem low_press : Low ("press" : PySem.Str).cps.toList := by
  have : ("press" : PySem.Str).cps.toList.all (fun c => decide (97 ≤ c) && decide (c ≤ 122)) = true := by decide +kernel
  intro c m
  have := List.all_eq_true.mp this c m
  simpa using this
theorem low_go : Low ("go" : PySem.Str).cps.toList := by
  have : ("go" : PySem.Str).cps.toList.all (fun c => decide (97 ≤ c) && decide (c ≤ 122)) = true := by decide +kernel
  intro c m
  have := List.all_eq_true.mp this c m
  simpa using this
theorem low_times : Low ("times" : PySem.Str).cps.toList := by
  have : ("times" : PySem.Str).cps.toList.all (fun c => decide (97 ≤ c) && decide (c ≤ 122)) = true := by decide +kernel
  intro c m
  have := List.all_eq_true.mp this c m
  simpa using this
theorem c_say : ("say" : PySem.Str).cps.toList = [115, 97, 121] := by decide +kernel
theorem c_press : ("press" : PySem.Str).cps.toList = [112, 114, 101, 115, 115] := by decide +kernel
theorem c_go : ("go" : PySem.Str).cps.toList = [103, 111] := by decide +kernel
theorem c_times : ("times" : PySem.Str).cps.toList = [116, 105, 109, 101, 115] := by decide +kernel
mutual
theorem shown_cI : ∀ (i : Itm) (d : Nat), ItOk d i → (PyData.shown (itD i)).cps.toList = cI i
  | .say z, _, .say h => by
    rw [itD, cI]
    simp only [PyData.shown, PyData.shownAll]
    rw [tup2, repr_low low_say, repr_low h.2.2, c_say]
    simp
  | .press z, _, .press h => by
    rw [itD, cI]
    simp only [PyData.shown, PyData.shownAll]
    rw [tup2, repr_low low_press, repr_low h.2.2, c_press]
    simp
  | .go z, _, .go h => by
    rw [itD, cI]
    simp only [PyData.shown, PyData.shownAll]
    rw [tup2, repr_low low_go, repr_low h.2.2, c_go]
    simp
  | .times n its, _, .times _ _ _ h => by
    rw [itD, cI]
    simp only [PyData.shown, PyData.shownAll]
    rw [tup3, repr_low low_times, c_times, shown_cL its _ h]
    simp
theorem shown_cL : ∀ (is : List Itm) (d : Nat), ItsOk d is → (listText (PyData.shownAll (itsD is))).cps.toList = 91 :: (cL is ++ [93])
  | [], _, _ => by
    rw [itsD, cL]
    simp only [PyData.shownAll]
    exact listText_nil
  | i :: is, d, .cons h1 h2 => by
    rw [itsD, cL]
    simp only [PyData.shownAll]
    rw [listText_cons, shown_cI i d h1, shown_cT is d h2]
    simp
theorem shown_cT : ∀ (is : List Itm) (d : Nat), ItsOk d is → ((PyData.shownAll (itsD is)).map fun t => 44 :: 32 :: t.cps.toList).flatten = cT is
  | [], _, _ => by rw [itsD, cT]; simp [PyData.shownAll]
  | i :: is, d, .cons h1 h2 => by
    rw [itsD, cT]
    simp only [PyData.shownAll, List.map_cons, List.flatten_cons]
    rw [shown_cI i d h1, shown_cT is d h2]
    simp
end
/-- what repr says of lists of items tells them -/
theorem shown_inj {is js : List Itm} {d d' : Nat} (h : ItsOk d is) (g : ItsOk d' js) (e : PyData.shown (.list (itsD is)) = PyData.shown (.list (itsD js))) : is = js := by
  have e1 := congrArg (fun z : PySem.Str => z.cps.toList) e
  simp only [PyData.shown] at e1
  rw [shown_cL is d h, shown_cL js d' g] at e1
  injection e1 with _ e2
  exact (cL_inj is js d d' [] [] h g e2).1
end Pn
end

section
set_option Elab.async false
set_option linter.all false
set_option maxRecDepth 100000
set_option maxHeartbeats 2000000
/-! x[i] by an own __getitem__; repr of longer data. -/
namespace L2
open PySem PySem.Spec PyProof.Rows
/-- the class comes by a def for x[i] -/
structure IxC (K : PySem.W.Frag) (C f : Addr) : Prop where
  at_ : PySem.W.findIn K (.ref C) "__getitem__" = some (some (.ref f))
  fn : PySem.W.fnIn K f = true
  ty : PySem.W.isFn K (.ref f) = true
def PlainIxO (b : Expr) : Prop := ∀ (x : Addr) i, subscripted b true (.ref x) i = runValue (.builtin "lifetime.subscript" ⟨[.ref x, i], []⟩)
def rIxO (C : Addr) (sp : Sp) (E : XK) : R2 := fun x y H Q => ∃ a dx fs, x = .ref a ∧ H a = some (.ins C dx fs) ∧ sp [.ref a, y] H Q E
theorem pe_ixO {X : Cx} {CX : CXT} {k : Nat} {C f : Addr} {fd : FuncData} {ps : List Str} {sp : Sp} {E : XK} {a b : Expr} {ta tb : TE} {pos : Pos} (c : IxC X.K C f) (F : FnOk X.prog X.w X.K X.mg X.base CX k f fd ps sp) (hr : Room (k + 1) X.A) (hbd : Binds X.K fd ps []) (hx : Passes CX X E)
    (ha : PE X a ta) (hb : PE X b tb) (hs : PlainIxO b) : PE X (.Subscript a b pos) (tOp (rIxO C sp E) ta tb) := by
  refine ⟨fun pins s σ H Q I h => ?_⟩
  refine Subscript_ (binT ha hb I h fun v u s2 x y H2 I2 rx ry q => ?_)
  obtain ⟨a', dx, fs, rfl, he, hp⟩ := q
  obtain rfl : v = Value.ref a' := rx
  obtain ⟨m, hF⟩ := I2.fr
  obtain ⟨mA, O, _, _, _, _⟩ := ins_get I2.hok he
  obtain ⟨od, J, _⟩ := O.look
  refine PySem.W.sub_K hF I2.ok.mod.kin J c.at_ c.fn c.ty ?_ (hs _ _)
  have hl := F.len _ _ _ _ hp
  refine wpAny_call (codeAny_mono (F.run X.A.in1 X.stack s2 H2 ⟨[.ref a', u], []⟩ [.ref a', u] [.ref a', y] _ E hr.in1 I2.env0.in1 (by
    have := hbd s2 [.ref a', u] I2.kIn (by simpa using hl)
    simpa using this) (.cons rfl (.cons ry .nil)) hp) fun r s' hq => ?_)
  cases r with
  | error e => exact hx pins σ H2 s2 e s' I2 hq
  | ok fl =>
    cases fl with
    | ret w =>
      obtain ⟨z, H', I', rz, q⟩ := I2.after hq
      exact ⟨z, H', I', rz, q⟩
    | next => exact False.elim hq
    | brk => exact False.elim hq
    | cont => exact False.elim hq
section
variable {X : Cx}
/-- repr(v), v data -/
def rReprB (K : PySem.W.Frag) : List V → Hp → VK → Prop := fun xs H Q => ∃ (v : V) (d : PyData), xs = [v] ∧ Dq K H v d ∧ d.showable = true ∧ d.depth ≤ 30 ∧ d.shown.length ≤ 1000000 ∧ Q (.str d.shown) H
theorem call_reprB (hgd : X.A.guards = some []) (hu : X.A.units + 64 < cLine) : CallR X (.builtin "repr") (rReprB X.K) := by
  intro pins s σ H xs us Q I r h
  obtain ⟨v, d, rfl, hd, hs, hdep, hsz, q⟩ := h
  obtain ⟨u, rfl, ru⟩ := vals1 r
  obtain ⟨as, R, hsm⟩ := hd.reads I ru
  have hz : d.shown.length ≤ sizeLine := by rw [sizeLine_eq]; omega
  have fin : ∀ t, Inv X pins σ H { s with toks := t } → EP X pins σ Q (.str d.shown s.toks) { s with toks := t } := fun t J => ⟨.str d.shown, H, J, ⟨_, rfl⟩, q⟩
  cases R with
  | none => exact PySem.P.repr_of_none (fin _ (I.tok _))
  | bool b =>
    exact PySem.P.repr_of_bool (by have z := fin _ (I.tok (s.toks + 1)); simp only [PyData.shown] at z; exact z)
  | int i t => exact PySem.P.repr_of_int (by simpa [PyData.showable] using hs) (by have z := fin _ (I.tok (s.toks + 1)); simp only [PyData.shown] at z; exact z)
  | str x t => exact PySem.P.repr_of_str (by have z := fin _ (I.tok (s.toks + 1)); simp only [PyData.shown] at z; exact z) (by simpa [PyData.shown] using hz)
  | list a1 a2 a3 a4 => exact repr_of_reads' (Reads.list a1 a2 a3 a4) hs hsm hgd (by omega) (fun _ _ e => e) (fun h' u tk hk => ⟨.str _, H, I.kept hk, ⟨_, rfl⟩, q⟩) hz
  | tuple a1 a2 a3 a4 => exact repr_of_reads' (Reads.tuple a1 a2 a3 a4) hs hsm hgd (by omega) (fun _ _ e => e) (fun h' u tk hk => ⟨.str _, H, I.kept hk, ⟨_, rfl⟩, q⟩) hz
  | dict a1 a2 a3 a4 a5 => exact repr_of_reads' (Reads.dict a1 a2 a3 a4 a5) hs hsm hgd (by omega) (fun _ _ e => e) (fun h' u tk hk => ⟨.str _, H, I.kept hk, ⟨_, rfl⟩, q⟩) hz
end
end L2
end

section
set_option Elab.async false
set_option linter.all false
set_option maxRecDepth 100000
set_option maxHeartbeats 4000000
/-! entries, and items as plain data. -/
namespace KP
open PySem PySem.Spec PyProof.Rows L2 Pn StX
abbrev sBodyEn : Stmt := inClass (top 34) 3
abbrev sPlain : Stmt := top 50
def spEnt (c : Cs) : Sp := fun vs H Q _ => ∃ (a dx e : Addr) (d : Int) (t : PySem.Str), vs = [.ref a] ∧ H a = some (.ins c.body dx (fBody e d t)) ∧ Q (.ref e) H
def spPlain (c : Cs) (D : Nat) : Sp := fun vs H Q _ => ∃ (v : V) (it : Itm), vs = [v] ∧ Io c H v it ∧ ItW D it ∧ ∀ u H', Same H H' → Rp (fun b => H b ≠ none) H' u it → Q u H'
def spPlainP (c : Cs) : Nat → Sp
  | 0 => spNo
  | d + 1 => spPlain c d
section
variable {P : Program} {w : World} {K : PySem.W.Frag} {mg : Str → Option Value} {base : Heap} {c : Cs}
theorem scBodyEn : FnScope ["self"] ["self"] (defScope sBodyEn) := ⟨rfl, rfl, rfl, by decide +kernel, rfl, by decide +kernel, by decide +kernel⟩
theorem ok_ent {f : Addr} {fd : FuncData} (F : Fun K "entries" "Body.entries" sBodyEn f fd) (B : BodT K mg c) : FnOk P w K mg base CX0 1 f fd ["self"] (spEnt c) := by
  refine F.ok scBodyEn (fun vs H Q E h => ?_) (fun cdv A outer s H vs Q E hr h => ?_)
  · obtain ⟨a, dx, b, n, t, rfl, _⟩ := h
    rfl
  · obtain ⟨a, dx, b, n, t, rfl, ha, q⟩ := h
    refine ⟨_, pss_one (ps_ret (pe_fld (pv 0) rfl)), ?_⟩
    exact ⟨_, rfl, a, c.body, dx, _, _, rfl, ha, B.body.cl, B.nEnt, rfl, q⟩
theorem scPlain : FnScope ["_law_item_here", "_law_one"] ["_law_item_here"] (defScope sPlain) := ⟨rfl, rfl, rfl, by decide +kernel, rfl, by decide +kernel, by decide +kernel⟩
theorem ok_plain1 (D : Nat) {f fZ pE fE : Addr} {fd fdZ fdE : FuncData} (F : Fun K "_law_plain" "_law_plain" sPlain f fd) (T1 : Blt mg) (B : BodT K mg c) (A' : Ap K c) (FE : Fun K "entries" "Body.entries" sBodyEn fE fdE) (bE : Binds K fdE ["self"] []) (gE : PropOf K c.body "entries" pE fE)
    (GZ : FnOk P w K mg base CX0 (2 + D) fZ fdZ ["_law_item_here"] (spPlainP c D)) (bZ : Binds K fdZ ["_law_item_here"] []) (gZ : Fn K mg "_law_plain" fZ) :
    FnOk P w K mg base CX0 (3 + D) f fd ["_law_item_here"] (spPlain c D) := by
  have GE : FnOk P w K mg base CX0 1 fE fdE ["self"] (spEnt c) := ok_ent FE B
  rw [show 3 + D = (2 + D) + 1 by omega]
  refine F.ok scPlain (fun vs H Q E h => ?_) (fun cdv A outer s H vs Q E hr h => ?_)
  · obtain ⟨v, it, rfl, _⟩ := h
    rfl
  · obtain ⟨v, it, rfl, hio, hw, q⟩ := h
    have hrZ : Room (2 + D) _ := hr
    have hr2 : Room 2 _ := hr.mono (by omega)
    refine ⟨_, pss_cons (ps_if (pt_val (pe_callB call_isi (by rfl) T1.isi bIsi (pa_cons (pv 0) (pa_cons (pe_glob (v := .ref c.say) rfl B.gSay rfl) pa_nil)))) (pss_one (ps_ret (pe_tup (pa_cons pe_str (pa_cons (pe_fld (pv 0) rfl) pa_nil))))) pss_nil)
      (pss_cons (ps_if (pt_val (pe_callB call_isi (by rfl) T1.isi bIsi (pa_cons (pv 0) (pa_cons (pe_glob (v := .ref c.press) rfl B.gPress rfl) pa_nil)))) (pss_one (ps_ret (pe_tup (pa_cons pe_str (pa_cons (pe_fld (pv 0) rfl) pa_nil))))) pss_nil)
      (pss_cons (ps_if (pt_val (pe_callB call_isi (by rfl) T1.isi bIsi (pa_cons (pv 0) (pa_cons (pe_glob (v := .ref c.go) rfl B.gGo rfl) pa_nil)))) (pss_one (ps_ret (pe_tup (pa_cons pe_str (pa_cons (pe_fld (pv 0) rfl) pa_nil))))) pss_nil)
      (pss_one (ps_ret (pe_tup (pa_cons pe_str (pa_cons (pe_fld (pv 0) rfl) (pa_cons (pe_lc (own := [("_law_one", 1)]) (g := gName 1) (tt := tYes) rfl scPlain.nd (pi_tup (pe_prop (pe_fld (pv 0) rfl) B.body.cl gE GE hr2 bE .nil pass0 rfl)) (blkOk_by (N := ["_law_item_here", "_law_one"]) (sc := defScope sPlain) (by decide +kernel)) (fun _ _ _ _ _ => pg_name (i := 1) scPlain.nd rfl (Or.inl rfl)) (fun _ _ _ _ _ => pts_nil)
        (fun _ _ _ _ _ => pe_call GZ hrZ rfl gZ.g gZ.k bZ .nil pass0 (pa_cons (pv 1) pa_nil))) pa_nil)))))))), ?_⟩
    have hno : ∀ {q : Addr}, H q = none → ¬ (H q ≠ none) := fun e z => z e
    cases hio with
    | @say a dx z h =>
      refine ⟨_, rfl, _, .ref c.say, _, _, true, rfl, .own _, B.say.tyx h, (kit_is B (.inl rfl) (.inl rfl)).trans (congrArg some (decide_eq_true rfl)), _, rfl, iteT ?_⟩
      exact ⟨_, rfl, a, _, _, _, _, rfl, h, B.say.cl, B.nSay, rfl, (by show 2 ≤ sizeLine; decide), fun t ht => q _ _ (same_new ht) (.say (hno ht) upd_same)⟩
    | @press a dx z h =>
      refine ⟨_, rfl, _, .ref c.say, _, _, false, rfl, .own _, B.press.tyx h, (kit_is B (.inr (.inl rfl)) (.inl rfl)).trans (congrArg some (decide_eq_false (Ne.symm A'.sp))), _, rfl, iteF ?_⟩
      refine ⟨_, rfl, _, .ref c.press, _, _, true, rfl, .own _, B.press.tyx h, (kit_is B (.inr (.inl rfl)) (.inr (.inl rfl))).trans (congrArg some (decide_eq_true rfl)), _, rfl, iteT ?_⟩
      exact ⟨_, rfl, a, _, _, _, _, rfl, h, B.press.cl, B.nPress, rfl, (by show 2 ≤ sizeLine; decide), fun t ht => q _ _ (same_new ht) (.press (hno ht) upd_same)⟩
    | @go a dx z h =>
      refine ⟨_, rfl, _, .ref c.say, _, _, false, rfl, .own _, B.go.tyx h, (kit_is B (.inr (.inr (.inl rfl))) (.inl rfl)).trans (congrArg some (decide_eq_false (Ne.symm A'.sg))), _, rfl, iteF ?_⟩
      refine ⟨_, rfl, _, .ref c.press, _, _, false, rfl, .own _, B.go.tyx h, (kit_is B (.inr (.inr (.inl rfl))) (.inr (.inl rfl))).trans (congrArg some (decide_eq_false (Ne.symm A'.pg))), _, rfl, iteF ?_⟩
      refine ⟨_, rfl, _, .ref c.go, _, _, true, rfl, .own _, B.go.tyx h, (kit_is B (.inr (.inr (.inl rfl))) (.inr (.inr (.inl rfl)))).trans (congrArg some (decide_eq_true rfl)), _, rfl, iteT ?_⟩
      exact ⟨_, rfl, a, _, _, _, _, rfl, h, B.go.cl, B.nGo, rfl, (by show 2 ≤ sizeLine; decide), fun t ht => q _ _ (same_new ht) (.go (hno ht) upd_same)⟩
    | @times a dx b n its h hB =>
      cases hw with
      | @times d' _ _ n0 n1 l6 hw =>
        refine ⟨_, rfl, _, .ref c.say, _, _, false, rfl, .own _, B.times.tyx h, (kit_is B (.inr (.inr (.inr rfl))) (.inl rfl)).trans (congrArg some (decide_eq_false (Ne.symm B.ne1))), _, rfl, iteF ?_⟩
        refine ⟨_, rfl, _, .ref c.press, _, _, false, rfl, .own _, B.times.tyx h, (kit_is B (.inr (.inr (.inr rfl))) (.inr (.inl rfl))).trans (congrArg some (decide_eq_false (Ne.symm B.ne2))), _, rfl, iteF ?_⟩
        refine ⟨_, rfl, _, .ref c.go, _, _, false, rfl, .own _, B.times.tyx h, (kit_is B (.inr (.inr (.inr rfl))) (.inr (.inr (.inl rfl)))).trans (congrArg some (decide_eq_false (Ne.symm B.ne3))), _, rfl, iteF ?_⟩
        cases hB with
        | @mk _ dxb e vs _ h1 h2 h3 =>
          refine ⟨_, rfl, a, _, _, _, _, rfl, h, B.times.cl, B.nNum, rfl, _, rfl, a, _, _, _, _, rfl, h, B.times.cl, B.nBod, rfl, b, _, _, rfl, h1, b, _, _, _, _, rfl, h1, e, rfl, ⟨_, SqT.of h2⟩, fun L hL => ?_⟩
          have hx := h3.len
          refine lc_tup (xs := vs) (fun i Hk => Same H Hk ∧ ∃ us, Hk L = some (.lst us) ∧ Rps (fun b => b = L ∨ H b ≠ none) Hk us (its.take i)) ⟨same_new hL, [], upd_same, by rw [List.take_zero]; exact .nil⟩ (fun i Hk _ hk => SqT.of (hk.1 _ _ h2)) ?_ ?_
          · rintro i x Hk hxi ⟨hS, us, hLk, hR⟩
            obtain ⟨it2, hit, hio2⟩ := h3.get hxi
            have tk : its.take (i + 1) = its.take i ++ [it2] := by
              rw [List.take_add_one, hit]; rfl
            have il : i < vs.length := (List.getElem?_eq_some_iff.mp hxi).1
            have ul : us.length = i := by rw [hR.len, List.length_take]; omega
            refine ⟨rfl, _, rfl, x, it2, rfl, hio2.keep (.same hS), hw.get hit, fun u H' S' hr' => ?_⟩
            refine ⟨us, S' _ _ hLk, by rw [ul]; show i < 16777216; omega, fun b o e => ?_, us ++ [u], upd_same, ?_⟩
            · rw [upd_ne (ne_of_none e hL)]
              exact S' _ _ (hS _ _ e)
            · rw [tk]
              refine Rps.app (Rps.mono (fun b h => h) (fun b o nb h => ?_) _ us hR) (.cons (Rp.mono (fun b h => ?_) (fun b o nb h => ?_) it2 u hr') .nil)
              · have bL : b ≠ L := fun z => nb (.inl z)
                rw [upd_ne bL]
                exact S' _ _ h
              · rcases h with rfl | h
                · rw [hLk]; exact Option.some_ne_none _
                · intro z
                  cases e : H b with
                  | none => exact h e
                  | some o => rw [hS _ _ e] at z; cases z
              · have bL : b ≠ L := fun z => nb (by rw [z, hLk]; exact Option.some_ne_none _)
                rw [upd_ne bL]
                exact h
          · rintro Hk ⟨hS, us, hLk, hR⟩
            have tl : its.take vs.length = its := List.take_of_length_le (by omega)
            rw [tl] at hR
            refine ⟨(by show 3 ≤ sizeLine; decide), fun t ht => q _ _ (hS.trans (same_new ht)) (.times (fun z => ?_) (fun z => z hL) upd_same ((same_new ht) _ _ hLk) ?_)⟩
            · cases e : H t with
              | none => exact z e
              | some o => rw [hS _ _ e] at ht; cases ht
            · exact Rps.mono (fun b h => .inr h) (fun b o nb h => (same_new ht) _ _ h) its us hR
theorem ok_plain {f pE fE : Addr} {fd fdE : FuncData} (F : Fun K "_law_plain" "_law_plain" sPlain f fd) (T1 : Blt mg) (B : BodT K mg c) (A' : Ap K c) (FE : Fun K "entries" "Body.entries" sBodyEn fE fdE) (bE : Binds K fdE ["self"] []) (gE : PropOf K c.body "entries" pE fE) (bZ : Binds K fd ["_law_item_here"] []) (gZ : Fn K mg "_law_plain" f) :
    FnOk P w K mg base CX0 5 f fd ["_law_item_here"] (spPlain c 2) :=
  ok_plain1 2 F T1 B A' FE bE gE (ok_plain1 1 F T1 B A' FE bE gE (ok_plain1 0 F T1 B A' FE bE gE ok_no bZ gZ) bZ gZ) bZ gZ
end
end KP
end

section
set_option Elab.async false
set_option linter.all false
set_option maxRecDepth 100000
set_option maxHeartbeats 4000000
/-! Lists of plain items, as repr wants them. -/
namespace Pn
open PySem PySem.Spec PyProof.Rows L2
mutual
theorem itD_noDict : ∀ i : Itm, PyData.hasDict (itD i) = false
  | .say z => by rw [itD]; simp [PyData.hasDict, PyData.hasDictAll]
  | .press z => by rw [itD]; simp [PyData.hasDict, PyData.hasDictAll]
  | .go z => by rw [itD]; simp [PyData.hasDict, PyData.hasDictAll]
  | .times n its => by rw [itD]; simp [PyData.hasDict, PyData.hasDictAll, itsD_noDict its]
theorem itsD_noDict : ∀ is : List Itm, PyData.hasDictAll (itsD is) = false
  | [] => by rw [itsD]; simp [PyData.hasDictAll]
  | i :: is => by rw [itsD]; simp [PyData.hasDictAll, itD_noDict i, itsD_noDict is]
end
mutual
theorem itD_show : ∀ (i : Itm) (d : Nat), ItOk d i → PyData.showable (itD i) = true
  | .say z, _, _ => by rw [itD]; simp [PyData.showable, PyData.showableAll]
  | .press z, _, _ => by rw [itD]; simp [PyData.showable, PyData.showableAll]
  | .go z, _, _ => by rw [itD]; simp [PyData.showable, PyData.showableAll]
  | .times n its, _, .times a b _ h => by
    have : n.natAbs.log2 < 1920 := by
      have h1 : n.natAbs < 2 ^ 31 := by omega
      have h2 : n.natAbs.log2 < 31 := by
        rcases Nat.eq_zero_or_pos n.natAbs with e | e
        · rw [e]; decide
        · exact (Nat.log2_lt (by omega)).mpr h1
      omega
    rw [itD]
    simp [PyData.showable, PyData.showableAll, this, itsD_show its _ h]
theorem itsD_show : ∀ (is : List Itm) (d : Nat), ItsOk d is → PyData.showableAll (itsD is) = true
  | [], _, _ => by rw [itsD]; simp [PyData.showableAll]
  | i :: is, _, .cons a b => by rw [itsD]; simp [PyData.showableAll, itD_show i _ a, itsD_show is _ b]
end
def bC : Nat → Nat
  | 0 => 40
  | d + 1 => 40 + 20 * (bC d + 2)
mutual
theorem cI_len : ∀ (d : Nat) (i : Itm), ItOk d i → (cI i).length ≤ bC d
  | d, .say z, .say h => by
    have : 40 ≤ bC d := by cases d <;> unfold bC <;> omega
    have := h.2.1
    rw [cI]
    simp only [List.length_append, List.length_cons, List.length_nil]
    omega
  | d, .press z, .press h => by
    have : 40 ≤ bC d := by cases d <;> unfold bC <;> omega
    have := h.2.1
    rw [cI]
    simp only [List.length_append, List.length_cons, List.length_nil]
    omega
  | d, .go z, .go h => by
    have : 40 ≤ bC d := by cases d <;> unfold bC <;> omega
    have := h.2.1
    rw [cI]
    simp only [List.length_append, List.length_cons, List.length_nil]
    omega
  | d + 1, .times n its, .times a b l h => by
    have n1 : (PySem.Str.ofString (toString n)).length ≤ 10 := toString_length_le a (by decide) (by omega)
    have n2 : (PySem.Str.ofString (toString n)).cps.toList.length ≤ 10 := n1
    have := cL_len d its h
    have : its.length * (bC d + 2) ≤ 20 * (bC d + 2) := Nat.mul_le_mul_right _ (by omega)
    rw [cI]
    unfold bC
    simp only [List.length_append, List.length_cons, List.length_nil]
    omega
theorem cL_len : ∀ (d : Nat) (is : List Itm), ItsOk d is → (cL is).length ≤ is.length * (bC d + 2)
  | d, [], _ => by rw [cL]; simp
  | d, i :: is, .cons a b => by
    have := cI_len d i a
    have := cT_len d is b
    rw [cL, List.length_append, List.length_cons, Nat.succ_mul]
    omega
theorem cT_len : ∀ (d : Nat) (is : List Itm), ItsOk d is → (cT is).length ≤ is.length * (bC d + 2)
  | d, [], _ => by rw [cT]; simp
  | d, i :: is, .cons a b => by
    have := cI_len d i a
    have := cT_len d is b
    rw [cT, List.length_cons, List.length_cons, List.length_append, List.length_cons, Nat.succ_mul]
    omega
end
structure Shows (x : PyData) : Prop where
  s : x.showable = true
  d : x.depth ≤ 30
  l : x.shown.length ≤ 1000000
theorem shows_its {is : List Itm} (h : ItsOk 2 is) (l : is.length ≤ 20) : Shows (.list (itsD is)) := by
  refine ⟨?_, ?_, ?_⟩
  · have := itsD_show is 2 h
    simp [PyData.showable, this]
  · have := itsD_deep is 2 h
    simp [PyData.depth]
    omega
  · have e : (PyData.shown (.list (itsD is))).cps.toList = 91 :: (cL is ++ [93]) := by
      simp only [PyData.shown]
      exact shown_cL is 2 h
    have := cL_len 2 is h
    have b2 : bC 2 = 17680 := by decide
    have : is.length * (bC 2 + 2) ≤ 20 * (bC 2 + 2) := Nat.mul_le_mul_right _ l
    rw [lenL, e]
    simp only [List.length_cons, List.length_append, List.length_nil]
    omega
theorem dq_its {K : PySem.W.Frag} {B : Addr → Prop} {H : Hp} {l : Addr} {vs : List V} {is : List Itm} (hl : H l = some (.lst vs)) (hR : Rps B H vs is) (hO : ItsOk 2 is) : Dq K H (.ref l) (.list (itsD is)) := by
  refine .pl (.lst (SqL.of hl) (Rps.dp is vs hR)) ?_ (its_shaped hO (by decide)) (SeqAt.eqv_refl _ ?_)
  · simp [PyData.hasDict, itsD_noDict is]
  · simp [PyData.canLay0, itsD_lay is 2 hO]
end Pn
end

section
set_option Elab.async false
set_option linter.all false
set_option maxRecDepth 100000
set_option maxHeartbeats 4000000
/-! What a refused call is told as; tables of code objects beside the pen. -/
namespace Pn
open PySem PySem.Spec PyProof.Rows L2
inductive Oy where
  | s (z : PySem.Str)
  | i (n : Int)
def Oy.v : Oy → V
  | .s z => .str z
  | .i n => .int n
def Oy.d : Oy → PyData
  | .s z => .str z
  | .i n => .int n
abbrev Out := Option (Nat × Oy)
def tagO : Nat → PySem.Str
  | 0 => "item"
  | 1 => "none"
  | 2 => "many"
  | _ => "deep"
def dueD : Out → PyData
  | none => .none
  | some (j, y) => .tuple [.str (tagO j), y.d, .bool true]
def DueV (H : Hp) (v : V) : Out → Prop
  | none => v = .non
  | some (j, y) => ∃ q, v = .ref q ∧ H q = some (.tup [.str (tagO j), y.v, .bl true])
theorem Oy.dp {K : PySem.W.Frag} {H : Hp} : ∀ y : Oy, Dp K H y.v y.d
  | .s z => .str z
  | .i n => .int n
theorem DueV.dp {K : PySem.W.Frag} {H : Hp} {v : V} : ∀ {o : Out}, DueV H v o → Dp K H v (dueD o)
  | none, h => by cases (show v = .non from h); exact .non
  | some (j, y), h => by
    obtain ⟨q, rfl, e⟩ := h
    exact .tup (SqT.of e) (.cons (.str _) (.cons y.dp (.cons (.bl true) .nil)))
theorem DueV.keep {H H' : Hp} {v : V} (k : Kept H H') : ∀ {o : Out}, DueV H v o → DueV H' v o
  | none, h => h
  | some (j, y), h => let ⟨q, e, g⟩ := h; ⟨q, e, k.tup _ _ g⟩
def OutOk : Out → Prop
  | none => True
  | some (_, .s z) => PyData.strOk z = true
  | some (_, .i _) => True
theorem tag_ok (j : Nat) : PyData.strOk (tagO j) = true := by
  match j with
  | 0 => decide +kernel
  | 1 => decide +kernel
  | 2 => decide +kernel
  | n + 3 => exact (by decide +kernel : PyData.strOk "deep" = true)
theorem due_shaped : ∀ {o : Out}, OutOk o → SeqAt.shaped (dueD o) = true
  | none, _ => by decide +kernel
  | some (j, .s z), h => by
    have h' : PyData.strOk z = true := h
    unfold SeqAt.shaped dueD
    rw [Bool.and_eq_true]
    refine ⟨?_, decide_eq_true ?_⟩
    · simp [PyData.canLay0, PyData.canLayAll0, Oy.d, tag_ok j, h']
    · simp [PyData.depth, PyData.depthAll, Oy.d]
  | some (j, .i n), h => by
    unfold SeqAt.shaped dueD
    rw [Bool.and_eq_true]
    refine ⟨?_, decide_eq_true ?_⟩
    · simp [PyData.canLay0, PyData.canLayAll0, Oy.d, tag_ok j]
    · simp [PyData.depth, PyData.depthAll, Oy.d]
theorem due_refl : ∀ o : Out, PyData.eqv (dueD o) (dueD o) = true
  | none => by simp [dueD, PyData.eqv]
  | some (j, .s z) => by simp [dueD, PyData.eqv, PyData.eqvAll, Oy.d]
  | some (j, .i n) => by simp [dueD, PyData.eqv, PyData.eqvAll, Oy.d]
theorem Tabs.but {T : List (Addr × PySem.Str)} {H H' : Hp} {p : Addr} {kvs : List (Key × V)} (t : LamX.Tabs T H) (B : But p H H') (hp : H p = some (.dK kvs)) : LamX.Tabs T H' := by
  intro q hq
  obtain ⟨ps, h1, h2, h3⟩ := t q hq
  refine ⟨ps, B _ _ (ne_of h1 hp (by intro z; cases z)) h1, h2, fun pos cv hc => ?_⟩
  obtain ⟨c, e1, e2⟩ := h3 pos cv hc
  refine ⟨c, e1, B _ _ (ne_of e2 hp (fun z => ?_)) e2⟩
  unfold LamX.CodeO at z
  cases z
theorem PenAt.ext {H H' : Hp} {p c : Addr} {ns : List Int} {n : Nat} (h : PenAt H p c ns n) (e : LamX.ExtN H H') : PenAt H' p c ns n := by
  obtain ⟨hc, s, r, hp, a, b⟩ := h
  exact ⟨e _ _ hc (fun ps z => by cases z), s, r, e _ _ hp (fun ps z => by cases z), a, b⟩
theorem Kd.keepT {K : PySem.W.Frag} {H H' : Hp} {x : V} {d : PyData} (k : KeptT K H H') (h : Kd K H x d) : Kd K H' x d := ⟨k.ty _ _ h.ty, h.st, h.nu⟩
/-- data is no item -/
theorem Kd.noIt {K : PySem.W.Frag} {mg : PySem.Str → Option Value} {c : Cs} {H : Hp} {x : V} {d : PyData} (B : BodT K mg c) (h : Kd K H x d) : NoIt K c H x :=
  ⟨_, h.ty, B.kid _ (kindD_mem d) _ (.inl rfl), B.kid _ (kindD_mem d) _ (.inr (.inl rfl)), B.kid _ (kindD_mem d) _ (.inr (.inr (.inl rfl))), B.kid _ (kindD_mem d) _ (.inr (.inr (.inr rfl)))⟩
/-- a body is no item -/
theorem Bo.noIt {K : PySem.W.Frag} {mg : PySem.Str → Option Value} {c : Cs} {H : Hp} {b : Addr} {its : List Itm} (B : BodT K mg c) (h : Bo c H b its) : NoIt K c H (.ref b) := by
  cases h with
  | mk h _ _ =>
    have k := fun D hD => B.kit c.body (.inr (.inr (.inr (.inr rfl)))) D hD
    obtain ⟨n1, n2, n3, n4⟩ := B.neb
    refine ⟨_, B.body.tyx h, ?_, ?_, ?_, ?_⟩
    · rw [k _ (.inl rfl), decide_eq_false n1]
    · rw [k _ (.inr (.inl rfl)), decide_eq_false n2]
    · rw [k _ (.inr (.inr (.inl rfl))), decide_eq_false n3]
    · rw [k _ (.inr (.inr (.inr rfl))), decide_eq_false n4]
theorem cut_to {xs : List V} {a : Nat} (h : a ≤ xs.length) : cutV xs none (some (a : Int)) = xs.take a := by
  unfold cutV
  rw [HT.sIx_none, List.drop_zero, HT.sIx_nat, Nat.sub_zero, Nat.min_eq_left h]
theorem cut_from {xs : List V} {a : Nat} (h : a ≤ xs.length) : cutV xs (some (a : Int)) none = xs.drop a := by
  unfold cutV
  rw [HT.sIx_none, HT.sIx_nat, Nat.min_eq_left h, List.take_of_length_le]
  rw [List.length_drop]
  exact Nat.le_refl _
theorem take_len_lt {α : Type} {l : List α} {a : Nat} (h : a ≤ l.length) : (l.take a).length = a := by rw [List.length_take, Nat.min_eq_left h]
/-- one that is no item, put in among items -/
theorem firstBad_in {its : List Itm} {a : Nat} (h : a ≤ its.length) : firstBad ((its.map some).take a ++ [none] ++ (its.map some).drop a) = some a := by
  have e : ((its.map some).take a).length = a := take_len_lt (by rw [List.length_map]; exact h)
  refine firstBad_at ?_ (fun j hj => ?_)
  · rw [List.append_assoc, List.getElem?_append_right (by omega), e, Nat.sub_self]
    rfl
  · rw [List.append_assoc, List.getElem?_append_left (by omega), List.getElem?_take_of_lt hj, List.getElem?_map]
    have : j < its.length := by omega
    rw [List.getElem?_eq_getElem this]
    exact ⟨_, rfl⟩
end Pn
end

section
set_option Elab.async false
set_option linter.all false
set_option maxRecDepth 100000
set_option maxHeartbeats 4000000
/-! All places that hold no item. -/
namespace Pn
open PySem PySem.Spec PyProof.Rows L2
theorem firstBad_mem : ∀ {os : List (Option Itm)}, none ∈ os → ∃ k, firstBad os = some k
  | none :: r, _ => ⟨0, rfl⟩
  | some i :: r, h => by
    obtain ⟨k, e⟩ := firstBad_mem (os := r) (by simpa using h)
    exact ⟨k + 1, by unfold firstBad; rw [e]; rfl⟩
def isBad (os : List (Option Itm)) (k : Nat) : Bool := match os[k]? with
  | some none => true
  | _ => false
def badsTo (os : List (Option Itm)) (i : Nat) : List Nat := (List.range i).filter (isBad os)
theorem bads_yes {os : List (Option Itm)} {i : Nat} (h : isBad os i = true) : badsTo os (i + 1) = badsTo os i ++ [i] := by
  unfold badsTo
  rw [List.range_succ, List.filter_append]
  simp [h]
theorem bads_not {os : List (Option Itm)} {i : Nat} (h : isBad os i = false) : badsTo os (i + 1) = badsTo os i := by
  unfold badsTo
  rw [List.range_succ, List.filter_append]
  simp [h]
theorem bads_len (os : List (Option Itm)) (i : Nat) : (badsTo os i).length ≤ i := by
  have := List.length_filter_le (isBad os) (List.range i)
  rw [List.length_range] at this
  exact this
theorem bads_first (os : List (Option Itm)) : (badsTo os os.length).head? = firstBad os := by
  unfold badsTo
  rw [List.head?_filter]
  cases e : firstBad os with
  | none =>
    rw [List.find?_range_eq_none]
    intro i hi
    have : isBad os i = false := by
      unfold isBad
      cases q : os[i]? with
      | none => rfl
      | some o =>
        cases o with
        | some it => rfl
        | none =>
          obtain ⟨k, z⟩ := firstBad_mem (List.mem_of_getElem? q)
          rw [e] at z
          cases z
    rw [this]
    rfl
  | some k =>
    obtain ⟨a, b⟩ := firstBad_some e
    rw [List.find?_range_eq_some]
    refine ⟨by unfold isBad; rw [a], List.mem_range.mpr (List.getElem?_eq_some_iff.mp a).1, fun j hj => ?_⟩
    obtain ⟨it, q⟩ := b j hj
    unfold isBad
    rw [q]
    rfl
theorem Ents.dIs {K : PySem.W.Frag} {c : Cs} {H : Hp} : ∀ {os : List (Option Itm)} {vs : List V}, Ents K c H vs os → Pn.dIs (goods os) ≤ 2
  | [], _, h => by show Pn.dIs [] ≤ 2; rw [Pn.dIs]; exact Nat.zero_le _
  | none :: r, _, h => by cases h with | cons a b => exact b.dIs (os := r)
  | some i :: r, _, h => by
    cases h with
    | cons a b =>
      have := b.dIs (os := r)
      cases a with
      | item _ w =>
        have := w.dI
        show Pn.dIs (i :: goods r) ≤ 2
        rw [Pn.dIs]
        omega
theorem chk2 {K : PySem.W.Frag} {c : Cs} {H : Hp} {os : List (Option Itm)} {vs : List V} (h : Ents K c H vs os) : chk os 2 = match firstBad os with
    | some k => some (1, (k : Int))
    | none => if 6 < os.length then some (2, 6) else none := by
  have := h.dIs
  unfold chk
  cases firstBad os with
  | some k => rfl
  | none =>
    show (if 6 < os.length then some (2, (6 : Int)) else if (2 : Int) < ((Pn.dIs (goods os) : Nat) : Int) then some (3, (2 : Int)) else none) = if 6 < os.length then some (2, (6 : Int)) else none
    rw [if_neg (show ¬ (2 : Int) < ((Pn.dIs (goods os) : Nat) : Int) by omega)]
theorem chk2_j {K : PySem.W.Frag} {c : Cs} {H : Hp} {os : List (Option Itm)} {vs : List V} {j : Nat} {y : Int} (h : Ents K c H vs os) (e : chk os 2 = some (j, y)) : j = 1 ∨ j = 2 := by
  rw [chk2 h] at e
  cases q : firstBad os with
  | some k =>
    rw [q] at e
    cases e
    exact .inl rfl
  | none =>
    rw [q] at e
    have e' : (if 6 < os.length then some (2, (6 : Int)) else none) = some (j, y) := e
    by_cases l : 6 < os.length
    · rw [if_pos l] at e'
      cases e'
      exact .inr rfl
    · rw [if_neg l] at e'
      cases e'
theorem Ios.replicate {c : Cs} {H : Hp} {v : V} {i : Itm} (h : Io c H v i) : ∀ n : Nat, Ios c H (List.replicate n v) (List.replicate n i)
  | 0 => .nil
  | n + 1 => .cons h (Ios.replicate h n)
theorem ItsW.replicate {d : Nat} {i : Itm} (h : ItW d i) : ∀ n : Nat, ItsW d (List.replicate n i)
  | 0 => .nil
  | n + 1 => .cons h (ItsW.replicate h n)
theorem rep_one (n : Nat) (v : V) : (List.replicate n [v]).flatten = List.replicate n v := by
  induction n with
  | zero => rfl
  | succ n ih => rw [List.replicate_succ, List.flatten_cons, ih, List.replicate_succ]; rfl
end Pn
end

section
set_option Elab.async false
set_option linter.all false
set_option maxRecDepth 100000
set_option maxHeartbeats 4000000
namespace KP
open PySem PySem.Spec PyProof.Rows L2 Pn TL StX
abbrev sToldT : Stmt := top 57
/-- a class method read -/
structure ClsR (K : PySem.W.Frag) (C : Addr) (mc : Value) (p g : Addr) (fd : FuncData) (ps : List PySem.Str) : Prop where
  rd : ClX.CRead K C mc
  mt : ClX.CMet K C mc "read" p g
  b : Binds K fd ps []
/-- what the except clauses ask of the classes -/
structure TxT (K : PySem.W.Frag) (mg : Str → Option Value) (C : Nat → Addr) (CT : Addr) : Prop where
  g : ∀ j, j < 4 → mg (PySem.Str.ofString (tclass j)) = some (.ref (C j))
  ex : ∀ j, j < 4 → ∃ bmB newId, Exk K (C j) bmB newId
  no : ∀ j, j < 4 → PySem.W.findIn K (.ref (C j)) (tfield j) = some none
  em : ∀ i j, i < 4 → j < 4 → PySem.W.exmOne K (.ref (C i)) (.ref (C j)) = some (decide (i = j))
  gT : mg "InvalidText" = some (.ref CT)
  exT : ∃ bmB newId, Exk K CT bmB newId
  noT : PySem.W.findIn K (.ref CT) "index" = some none
  kitT : PySem.W.kitOne K (.ref CT) (.type "ValueError") = some true
  emT : PySem.W.exmOne K (.ref CT) (.ref CT) = some true
  emC : ∀ i, i < 4 → PySem.W.exmOne K (.ref (C i)) (.ref CT) = some false
  bV : mg "ValueError" = none
theorem TxT.xf {K : PySem.W.Frag} {mg : Str → Option Value} {C : Nat → Addr} {CT : Addr} (T : TxT K mg C CT) {j : Nat} (h : j < 4) : XfC K (C j) := by
  obtain ⟨bmB, newId, e⟩ := T.ex j h
  exact ⟨e.ga, e.gg, e.sub, e.sto.hd⟩
theorem TxT.xfT {K : PySem.W.Frag} {mg : Str → Option Value} {C : Nat → Addr} {CT : Addr} (T : TxT K mg C CT) : XfC K CT := by
  obtain ⟨bmB, newId, e⟩ := T.exT
  exact ⟨e.ga, e.gg, e.sub, e.sto.hd⟩
theorem rps_turn {H Hk H' : Hp} {L : Addr} {us : List V} {u : V} {is : List Itm} {it : Itm} (hL : H L = none) (hS : Same H Hk) (S' : Same Hk H') (hLk : Hk L = some (.lst us)) (hR : Rps (fun b => b = L ∨ H b ≠ none) Hk us is) (hr : Rp (fun b => Hk b ≠ none) H' u it) : Rps (fun b => b = L ∨ H b ≠ none) (upd H' L (.lst (us ++ [u]))) (us ++ [u]) (is ++ [it]) := by
  refine Rps.app (Rps.mono (fun b h => h) (fun b o nb h => ?_) _ us hR) (.cons (Rp.mono (fun b h => ?_) (fun b o nb h => ?_) it u hr) .nil)
  · have bL : b ≠ L := fun z => nb (.inl z)
    rw [upd_ne bL]
    exact S' _ _ h
  · rcases h with rfl | h
    · rw [hLk]; exact Option.some_ne_none _
    · intro z
      cases e : H b with
      | none => exact h e
      | some o => rw [hS _ _ e] at z; cases z
  · have bL : b ≠ L := fun z => nb (by rw [z, hLk]; exact Option.some_ne_none _)
    rw [upd_ne bL]
    exact h
def ToldD (H : Hp) (Q : VK) : Out1 → Prop
  | .bad i => ∀ t H', Same H H' → H' t = some (.tup [.str "text", .int (i : Nat)]) → Q (.ref t) H'
  | .fk f => ∀ t H', Same H H' → H' t = some (.tup (fkD f)) → Q (.ref t) H'
  | .ok its => (6 < its.length → ∀ t H', Same H H' → H' t = some (.tup (fkD .many)) → Q (.ref t) H') ∧ (its.length ≤ 6 → ∀ t L us H', Same H H' → H' t = some (.tup [.str "read", .ref L]) → H' L = some (.lst us) → Rps (fun b => H b ≠ none) H' us its → Q (.ref t) H')
def spTold (K : PySem.W.Frag) : Sp := fun vs H Q _ => ∃ (v : V) (d : PyData) (o : Out1), vs = [v] ∧ Kd K H v d ∧ (∀ z, d = .str z → z.length ≤ 1000) ∧ Tells d o ∧ ToldD H Q o

section
variable {P : Program} {w : World} {K : PySem.W.Frag} {mg : Str → Option Value} {base : Heap} {c : Cs} {C : Nat → Addr} {CT : Addr}
theorem scToldT : FnScope ["_law_text_here", "_law_one", "e"] ["_law_text_here"] (defScope sToldT) := ⟨rfl, rfl, rfl, by decide +kernel, rfl, by decide +kernel, by decide +kernel⟩
theorem ok_toldT {f fE pE fPl pR gR : Addr} {fd fdE fdPl fdR : FuncData} {mc : Value} (F : Fun K "_law_told" "_law_told" sToldT f fd) (T1 : Blt mg) (B : BodT K mg c) (X : TxT K mg C CT) (FE : Fun K "entries" "Body.entries" sBodyEn fE fdE) (bE : Binds K fdE ["self"] []) (gE : PropOf K c.body "entries" pE fE)
    (GPl : FnOk P w K mg base CX0 5 fPl fdPl ["_law_item_here"] (spPlain c 2)) (bPl : Binds K fdPl ["_law_item_here"] []) (gPl : Fn K mg "_law_plain" fPl) (CR : ClsR K c.body mc pR gR fdR ["cls", "text"]) (GR : FnOk P w K mg base (L2.CX P w) 10 gR fdR ["cls", "text"] (spReadX K c C CT)) :
    FnOk P w K mg base CX0 12 f fd ["_law_text_here"] (spTold K) := by
  have GE : FnOk P w K mg base CX0 1 fE fdE ["self"] (spEnt c) := ok_ent FE B
  have GRr : FnR P w K mg base (L2.CX P w) 10 gR (spReadX K c C CT) := FnR.imp (FnOk.raw GR CR.b .nil) (fun vs H Q E h => by rw [List.append_nil]; exact h)
  refine F.ok scToldT (fun vs H Q E h => ?_) (fun cdv A outer s H vs Q E hr h => ?_)
  · obtain ⟨v, d, o, rfl, _⟩ := h
    rfl
  · obtain ⟨v, d, o, rfl, hk, hz, hT, q⟩ := h
    have hr10 : Room 10 _ := hr.mono (by decide)
    have hr5 : Room 5 _ := hr.mono (by decide)
    have hr2 : Room 2 _ := hr.mono (by decide)
    have nd : (["_law_text_here", "_law_one", "e"] : List PySem.Str).Nodup := by decide +kernel
    refine' ⟨_, pss_one (ps_try_manyAs rfl rfl nd takes0 (fun W pn xe tk _ => ?body)
      (.cons (i := 2) ⟨rfl, by decide, .inl X.gT⟩ rfl rfl (fun a oe cls d pn hz hf => pss_one (ps_ret (pe_ifExp (pt_val (pe_callB (call_isS hz hf) (by rfl) T1.isi (by decide +kernel) (pa_cons (pv 2) (pa_cons (pe_bltn (v := .ty "ValueError") (by rfl) X.bV (by decide +kernel) rfl) pa_nil)))) (pe_tup (pa_cons pe_str (pa_cons (pe_xf X.xfT X.noT hz hf (pv 2)) pa_nil))) (pe_tup (pa_cons pe_str (pa_cons pe_int pa_nil))))))
      (.cons (i := 2) ⟨rfl, by decide, .inl (X.g 0 (by decide))⟩ rfl rfl (fun a oe cls d pn hz hf => pss_one (ps_ret (pe_tup (pa_cons pe_str (pa_cons (pe_xf (X.xf (j := 0) (by decide)) (X.no 0 (by decide)) hz hf (pv 2)) pa_nil)))))
      (.cons (i := 2) ⟨rfl, by decide, .inl (X.g 2 (by decide))⟩ rfl rfl (fun a oe cls d pn hz hf => pss_one (ps_ret (pe_tup (pa_cons pe_str (pa_cons (pe_xf (X.xf (j := 2) (by decide)) (X.no 2 (by decide)) hz hf (pv 2)) pa_nil)))))
      (.cons (i := 2) ⟨rfl, by decide, .inl (X.g 3 (by decide))⟩ rfl rfl (fun a oe cls d pn hz hf => pss_one (ps_ret (pe_tup (pa_cons pe_str (pa_cons (pe_xf (X.xf (j := 3) (by decide)) (X.no 3 (by decide)) hz hf (pv 2)) pa_nil))))) .nil))))), ?rest⟩
    case body =>
      refine' pss_one (ps_ret (pe_tup (pa_cons pe_str (pa_cons ?lc pa_nil))))
      case lc =>
        refine' pe_lc (own := [("_law_one", 1)]) (g := gName 1) (tt := tYes) rfl nd (show PI _ _ _ (iTup K (tProp c.body (spEnt c) [] E0 (ClX.tCMeth c.body (spReadX K c C CT) (fun cls d H => ∀ σ : L2.St, σ.length = 3 → W cls d σ H) (tC (.ref c.body)) (tCons (tVar 0) tNil)))) from pi_tup (pe_prop ?pr B.body.cl gE GE hr2 bE .nil pass0 rfl)) (blkOk_by (N := ["_law_text_here", "_law_one", "e"]) (sc := defScope sToldT) (by decide +kernel)) (fun _ _ _ _ _ => pg_name (i := 1) nd rfl (Or.inl rfl)) (fun _ _ _ _ _ => pts_nil) (fun _ _ _ _ _ => pe_call GPl hr5 rfl gPl.g gPl.k bPl .nil pass0 (pa_cons (pv 1) pa_nil))
        case pr =>
          exact ClX.pe_cmeth (pe_glob (v := .ref c.body) rfl B.gBody rfl) CR.rd CR.mt GRr hr10 (passes_call (takes_len tk) (E := fun cls d H => ∀ σ : L2.St, σ.length = 3 → W cls d σ H) (fun _ _ σ _ h => h σ)) (pa_cons (pv 0) pa_nil)
    have l1 : ∀ (f : PySem.Str) (y : V), List.lookup f [(f, y)] = some y := fun f y => by simp [List.lookup]
    have three : ∀ {σ : L2.St}, σ.length = 3 → ∃ u v z, σ = [u, v, z] := fun {σ} hσ => by
      match σ, hσ with
      | [u, v, z], _ => exact ⟨u, v, z, rfl⟩
    obtain ⟨bmT, nwT, ekT⟩ := X.exT
    obtain ⟨bm0, nw0, ek0⟩ := X.ex 0 (by decide)
    obtain ⟨bm2, nw2, ek2⟩ := X.ex 2 (by decide)
    obtain ⟨bm3, nw3, ek3⟩ := X.ex 3 (by decide)
    refine ⟨rfl, _, rfl, v, d, o, rfl, hk, hz, hT, ?_⟩
    cases hT with
    | no e =>
      intro H' dd S' hdd σ hσ
      obtain ⟨u, v, z, rfl⟩ := three hσ
      exact ⟨true, X.emT, fun _ a2 ha2 => ⟨_, rfl, CT, dd, _, bmT, nwT, _, _, true, rfl, rfl, ekT, rfl, upd_same, .ty _, X.kitT, _, rfl, iteT ⟨_, rfl, rfl, rfl, dd, _, _, rfl, upd_same, l1 _ _, (by show 2 ≤ sizeLine; decide), fun t ht => q t _ ((S'.trans (same_new hdd)).trans (same_new ht)) upd_same⟩⟩, fun z => absurd z (by decide)⟩
    | @bad z i e =>
      intro H' dd S' hdd σ hσ
      obtain ⟨u, v, z, rfl⟩ := three hσ
      exact ⟨true, X.emT, fun _ a2 ha2 => ⟨_, rfl, CT, dd, _, bmT, nwT, _, _, true, rfl, rfl, ekT, rfl, upd_same, .ty _, X.kitT, _, rfl, iteT ⟨_, rfl, rfl, rfl, dd, _, _, rfl, upd_same, l1 _ _, (by show 2 ≤ sizeLine; decide), fun t ht => q t _ ((S'.trans (same_new hdd)).trans (same_new ht)) upd_same⟩⟩, fun z => absurd z (by decide)⟩
    | @fk z its f e ez hx he =>
      intro H' dd S' hdd σ hσ
      obtain ⟨u, v, z, rfl⟩ := three hσ
      cases f with
      | item => exact ⟨false, X.emC 0 (by decide), fun z => absurd z (by decide), fun _ => ⟨_, X.em 0 0 (by decide) (by decide), fun _ a2 ha2 => ⟨_, rfl, rfl, rfl, dd, _, _, rfl, upd_same, l1 _ _, (by show 2 ≤ sizeLine; decide), fun t ht => q t _ ((S'.trans (same_new hdd)).trans (same_new ht)) upd_same⟩, fun z => absurd z (by decide)⟩⟩
      | many => exact ⟨false, X.emC 2 (by decide), fun z => absurd z (by decide), fun _ => ⟨_, X.em 2 0 (by decide) (by decide), fun z => absurd z (by decide), fun _ => ⟨_, X.em 2 2 (by decide) (by decide), fun _ a2 ha2 => ⟨_, rfl, rfl, rfl, dd, _, _, rfl, upd_same, l1 _ _, (by show 2 ≤ sizeLine; decide), fun t ht => q t _ ((S'.trans (same_new hdd)).trans (same_new ht)) upd_same⟩, fun z => absurd z (by decide)⟩⟩⟩
      | deep => exact ⟨false, X.emC 3 (by decide), fun z => absurd z (by decide), fun _ => ⟨_, X.em 3 0 (by decide) (by decide), fun z => absurd z (by decide), fun _ => ⟨_, X.em 3 2 (by decide) (by decide), fun z => absurd z (by decide), fun _ => ⟨_, X.em 3 3 (by decide) (by decide), fun _ a2 ha2 => ⟨_, rfl, rfl, rfl, dd, _, _, rfl, upd_same, l1 _ _, (by show 2 ≤ sizeLine; decide), fun t ht => q t _ ((S'.trans (same_new hdd)).trans (same_new ht)) upd_same⟩, fun z => absurd z (by decide)⟩⟩⟩⟩
    | @ok z its e ez hx he =>
      have hw := fks_w2 hx he
      refine ⟨fun h6 H' dd S' hdd σ hσ => ?_, fun l6 b H18 S18 nb hB => ?_⟩
      · obtain ⟨u, v, z, rfl⟩ := three hσ
        exact ⟨false, X.emC 2 (by decide), fun z => absurd z (by decide), fun _ => ⟨_, X.em 2 0 (by decide) (by decide), fun z => absurd z (by decide), fun _ => ⟨_, X.em 2 2 (by decide) (by decide), fun _ a2 ha2 => ⟨_, rfl, rfl, rfl, dd, _, _, rfl, upd_same, l1 _ _, (by show 2 ≤ sizeLine; decide), fun t ht => q.1 h6 t _ ((S'.trans (same_new hdd)).trans (same_new ht)) upd_same⟩, fun z => absurd z (by decide)⟩⟩⟩
      · cases hB with
        | @mk _ dx2 e2 ws _ k1 k2 k3 =>
        refine ⟨b, _, _, rfl, k1, b, _, _, _, _, rfl, k1, e2, rfl, ⟨_, SqT.of k2⟩, fun L3 hL3 => ?_⟩
        have wl := k3.len
        refine lc_tup (xs := ws) (fun i Hk => Same H18 Hk ∧ ∃ us, Hk L3 = some (.lst us) ∧ Rps (fun b => b = L3 ∨ H18 b ≠ none) Hk us (its.take i)) ⟨same_new hL3, [], upd_same, by rw [List.take_zero]; exact .nil⟩ (fun i Hk _ hk => SqT.of (hk.1 _ _ k2)) ?_ ?_
        · rintro i2 x Hk hxi ⟨hS, us, hLk, hRr⟩
          obtain ⟨it2, hit, hio2⟩ := k3.get hxi
          have tk : its.take (i2 + 1) = its.take i2 ++ [it2] := by
            rw [List.take_add_one, hit]; rfl
          have il : i2 < ws.length := (List.getElem?_eq_some_iff.mp hxi).1
          have ul : us.length = i2 := by rw [hRr.len, List.length_take]; omega
          refine ⟨rfl, _, rfl, x, it2, rfl, hio2.keep (.same hS), hw.get hit, fun u H' S' hr' => ?_⟩
          refine ⟨us, S' _ _ hLk, by rw [ul]; show i2 < 16777216; omega, fun b o e => ?_, us ++ [u], upd_same, ?_⟩
          · rw [upd_ne (ne_of_none e hL3)]
            exact S' _ _ (hS _ _ e)
          · rw [tk]
            exact rps_turn hL3 hS S' hLk hRr hr'
        · rintro H19 ⟨S19, us3, hL19, hR19⟩
          rw [List.take_of_length_le (show its.length ≤ ws.length by omega)] at hR19
          refine ⟨(by show 2 ≤ sizeLine; decide), fun t ht => ?_⟩
          have St := same_new (o := .tup [.str "read", .ref L3]) ht
          refine q.2 l6 t L3 us3 _ ((S18.trans S19).trans St) upd_same (St _ _ hL19) ?_
          refine Rps.mono (fun a h => .inr (fun z => ?_)) (fun a o _ h => St _ _ h) _ _ hR19
          cases e9 : H a with
          | none => exact h e9
          | some o => rw [S18 _ _ e9] at z; cases z
end
end KP
end

section
set_option Elab.async false
set_option linter.all false
set_option maxRecDepth 100000
set_option maxHeartbeats 2000000
/-! s * n, s a text. -/
namespace L2
open PySem PySem.Spec PyProof.Rows
theorem op_mul_str {X : Cx} : OpR X (binaryOp .Mult) (fun x y H Q => ∃ i n, x = .str i ∧ y = .int n ∧ MulOk i n ∧ Q (.str (Txt.mul i n)) H) := by
  intro pins s σ H x y v u Q I rx ry h
  obtain ⟨i, n, rfl, rfl, hz, q⟩ := h
  obtain ⟨t, rfl⟩ := rx
  obtain ⟨t', rfl⟩ := ry
  exact SB.mul hz (fun t' tk => ⟨.str (Txt.mul i n), H, I.tok _, ⟨_, rfl⟩, q⟩)
end L2
end

section
set_option Elab.async false
set_option linter.all false
set_option maxRecDepth 100000
set_option maxHeartbeats 4000000
/-! Sizes of what is drawn; items that are right as data; the deep text. -/
namespace Pn
open PySem PySem.Spec PyProof.Rows L2 TL
def lK : Nat → Nat
  | 0 => 9
  | d + 1 => 14 + 3 * (lK d + 1)
def cK : Nat → Nat
  | 0 => 0
  | d + 1 => 1 + 3 * cK d
theorem lK_ge (d : Nat) : 9 ≤ lK d := by cases d <;> unfold lK <;> omega
theorem joinL_lenM : ∀ (ls : List (List Nat)) (m : Nat), (∀ l ∈ ls, l.length ≤ m) → (joinL [32] ls).length ≤ ls.length * (m + 1)
  | [], m, _ => by simp [joinL]
  | [p], m, h => by
    have := h p (List.mem_cons_self ..)
    show p.length ≤ 1 * (m + 1)
    omega
  | p :: q :: r, m, h => by
    have h1 := h p (List.mem_cons_self ..)
    have h2 := joinL_lenM (q :: r) m (fun l z => h l (List.mem_cons_of_mem _ z))
    show (p ++ ([32] ++ joinL [32] (q :: r))).length ≤ _
    rw [List.length_append, List.length_append, show (p :: q :: r).length = (q :: r).length + 1 from rfl, Nat.succ_mul]
    have : ([32] : List Nat).length = 1 := rfl
    omega
theorem joinL_cntM : ∀ (ls : List (List Nat)) (m : Nat), (∀ l ∈ ls, l.count 40 ≤ m) → (joinL [32] ls).count 40 ≤ ls.length * m
  | [], m, _ => by simp [joinL]
  | [p], m, h => by
    have := h p (List.mem_cons_self ..)
    show p.count 40 ≤ 1 * m
    omega
  | p :: q :: r, m, h => by
    have h1 := h p (List.mem_cons_self ..)
    have h2 := joinL_cntM (q :: r) m (fun l z => h l (List.mem_cons_of_mem _ z))
    show (p ++ ([32] ++ joinL [32] (q :: r))).count 40 ≤ _
    rw [List.count_append, List.count_append, show (p :: q :: r).length = (q :: r).length + 1 from rfl, Nat.succ_mul]
    have : ([32] : List Nat).count 40 = 0 := by decide
    omega
theorem lIs_len : ∀ is : List Itm, (lIs is).length = is.length
  | [] => by rw [lIs]; rfl
  | i :: is => by rw [lIs, List.length_cons, List.length_cons, lIs_len is]
theorem wd_l {z : PySem.Str} (h : Wd z) : (tl z).length ≤ 8 := by rw [← len_tl]; have := h.2.1; exact this
theorem wd_c40 {z : PySem.Str} (h : Wd z) : (tl z).count 40 = 0 := List.count_eq_zero.mpr (fun m => by have := h.2.2 40 m; omega)
theorem num_c40 (n : Nat) : (numL n).count 40 = 0 := List.count_eq_zero.mpr (fun m => by have := numL_digits n 40 m; omega)
mutual
theorem lI_len : ∀ (d : Nat) (i : Itm), ItOk d i → (lI i).length ≤ lK d ∧ (lI i).count 40 ≤ cK d
  | d, .say z, .say h => by
    have := lK_ge d
    have := wd_l h
    have := wd_c40 h
    rw [lI]
    refine ⟨by rw [List.length_cons]; omega, ?_⟩
    rw [List.count_cons_of_ne (by decide)]
    omega
  | d, .press z, .press h => by
    have := lK_ge d
    have := wd_l h
    have := wd_c40 h
    rw [lI]
    exact ⟨by omega, by omega⟩
  | d, .go z, .go h => by
    have := lK_ge d
    have := wd_l h
    have := wd_c40 h
    rw [lI]
    refine ⟨by rw [List.length_cons]; omega, ?_⟩
    rw [List.count_cons_of_ne (by decide)]
    omega
  | d + 1, .times n its, .times a b l h => by
    have hh := lIs_all d its h
    have h1 := joinL_lenM (lIs its) (lK d) (fun l m => (hh l m).1)
    have h2 := joinL_cntM (lIs its) (cK d) (fun l m => (hh l m).2)
    rw [lIs_len] at h1 h2
    have nl : (numL n.toNat).length ≤ 10 := numL_len (by decide) (by omega)
    have nc := num_c40 n.toNat
    have m1 : its.length * (lK d + 1) ≤ 3 * (lK d + 1) := Nat.mul_le_mul_right _ (by omega)
    have m2 : its.length * cK d ≤ 3 * cK d := Nat.mul_le_mul_right _ (by omega)
    rw [lI]
    unfold lK cK
    refine ⟨?_, ?_⟩
    · simp only [List.length_append, List.length_cons, List.length_nil]
      omega
    · rw [List.count_append, List.count_cons, List.count_append]
      simp
      omega
theorem lIs_all : ∀ (d : Nat) (is : List Itm), ItsOk d is → ∀ l ∈ lIs is, l.length ≤ lK d ∧ l.count 40 ≤ cK d
  | d, [], _, l, m => by rw [lIs] at m; cases m
  | d, i :: is, .cons a b, l, m => by
    rw [lIs] at m
    rcases List.mem_cons.mp m with rfl | m
    · exact lI_len d i a
    · exact lIs_all d is b l m
end
theorem txB_size {its : List Itm} (h : ItsOk 2 its) (l : its.length ≤ 5) : (txB its).length ≤ 760 ∧ (tl (txB its)).count 40 ≤ 20 := by
  have hh := lIs_all 2 its h
  have h1 := joinL_lenM (lIs its) (lK 2) (fun l m => (hh l m).1)
  have h2 := joinL_cntM (lIs its) (cK 2) (fun l m => (hh l m).2)
  rw [lIs_len, ← tl_txB h.w] at h1 h2
  have e1 : lK 2 = 149 := by decide
  have e2 : cK 2 = 4 := by decide
  rw [e1] at h1
  rw [e2] at h2
  refine ⟨by rw [len_tl]; omega, by omega⟩
/-! right items as data -/
mutual
theorem itW_lay : ∀ (i : Itm) (d : Nat), ItW d i → PyData.canLay0 (itD i) = true
  | .say z, _, h => by cases h with | say h => rw [itD]; simp [PyData.canLay0, PyData.canLayAll0, wd_ok h]; decide +kernel
  | .press z, _, h => by cases h with | press h => rw [itD]; simp [PyData.canLay0, PyData.canLayAll0, wd_ok h]; decide +kernel
  | .go z, _, h => by cases h with | go h => rw [itD]; simp [PyData.canLay0, PyData.canLayAll0, wd_ok h]; decide +kernel
  | .times n its, _, h => by cases h with | times _ _ _ h => rw [itD]; simp [PyData.canLay0, PyData.canLayAll0, itsW_lay its _ h]; decide +kernel
theorem itsW_lay : ∀ (is : List Itm) (d : Nat), ItsW d is → PyData.canLayAll0 (itsD is) = true
  | [], _, _ => by rw [itsD]; simp [PyData.canLayAll0]
  | i :: is, _, h => by cases h with | cons h1 h2 => rw [itsD]; simp [PyData.canLayAll0, itW_lay i _ h1, itsW_lay is _ h2]
end
mutual
theorem itW_deep : ∀ (i : Itm) (d : Nat), ItW d i → PyData.depth (itD i) ≤ 4 + 3 * d
  | .say z, _, h => by rw [itD]; simp [PyData.depth, PyData.depthAll]; omega
  | .press z, _, h => by rw [itD]; simp [PyData.depth, PyData.depthAll]; omega
  | .go z, _, h => by rw [itD]; simp [PyData.depth, PyData.depthAll]; omega
  | .times n its, _, h => by
    cases h with
    | times _ _ _ h =>
      have := itsW_deep its _ h
      rw [itD]; simp [PyData.depth, PyData.depthAll]; omega
theorem itsW_deep : ∀ (is : List Itm) (d : Nat), ItsW d is → PyData.depthAll (itsD is) ≤ 4 + 3 * d
  | [], _, _ => by rw [itsD]; simp [PyData.depthAll]
  | i :: is, _, h => by
    cases h with
    | cons h1 h2 =>
      have := itW_deep i _ h1
      have := itsW_deep is _ h2
      rw [itsD]; simp [PyData.depthAll]; omega
end
/-- ("read", items) -/
def readD (its : List Itm) : PyData := .tuple [.str "read", .list (itsD its)]
theorem read_lay {its : List Itm} (h : ItsW 2 its) : PyData.canLay0 (readD its) = true := by
  have := itsW_lay its 2 h
  unfold readD
  simp [PyData.canLay0, PyData.canLayAll0, this]
  decide +kernel
theorem read_shaped {its : List Itm} (h : ItsW 2 its) : SeqAt.shaped (readD its) = true := by
  have a := read_lay h
  have b := itsW_deep its 2 h
  unfold SeqAt.shaped
  rw [Bool.and_eq_true]
  refine ⟨a, decide_eq_true ?_⟩
  unfold readD
  simp [PyData.depth, PyData.depthAll]
  omega
/-- ("text", i) -/
def textD (i : Nat) : PyData := .tuple [.str "text", .int ((i : Nat) : Int)]
theorem text_lay (i : Nat) : PyData.canLay0 (textD i) = true := by
  unfold textD
  simp [PyData.canLay0, PyData.canLayAll0]
  decide +kernel
theorem text_shaped (i : Nat) : SeqAt.shaped (textD i) = true := by
  unfold SeqAt.shaped
  rw [Bool.and_eq_true]
  refine ⟨text_lay i, decide_eq_true ?_⟩
  unfold textD
  simp [PyData.depth, PyData.depthAll]
def fkP : Fk → PyData
  | .item => .tuple [.str "item", .str "number"]
  | .many => .tuple [.str "many", .int 6]
  | .deep => .tuple [.str "deep", .int 2]
theorem fk_lay (f : Fk) : PyData.canLay0 (fkP f) = true := by cases f <;> decide +kernel
theorem fk_shaped (f : Fk) : SeqAt.shaped (fkP f) = true := by cases f <;> decide +kernel
theorem fks_lay : ∀ fs : List Fk, PyData.canLayAll0 (fs.map fkP) = true
  | [] => by simp [PyData.canLayAll0]
  | f :: r => by simp [PyData.canLayAll0, fk_lay f, fks_lay r]
theorem fks_deep : ∀ fs : List Fk, PyData.depthAll (fs.map fkP) ≤ 3
  | [] => by simp [PyData.depthAll]
  | f :: r => by
    have h1 : PyData.depth (fkP f) ≤ 3 := by cases f <;> decide +kernel
    have := fks_deep r
    simp [PyData.depthAll]
    omega
theorem fks_shaped (fs : List Fk) : SeqAt.shaped (.list (fs.map fkP)) = true := by
  have a := fks_lay fs
  have b := fks_deep fs
  unfold SeqAt.shaped
  rw [Bool.and_eq_true]
  refine ⟨?_, decide_eq_true ?_⟩
  · simp [PyData.canLay0, a]
  · simp [PyData.depth]
    omega
theorem fks_nil (fs : List Fk) : PyData.eqv (.list (fs.map fkP)) (.list []) = fs.isEmpty := by
  cases fs <;> rfl
/-! the deep text -/
def nest : Nat → List Itm
  | 0 => [.press "a"]
  | d + 1 => [.times 2 (nest d)]
theorem wd_a' : Wd "a" := ⟨by decide +kernel, by decide +kernel, fun c hc => by
  have : c ∈ [97] := by
    have e : ("a" : PySem.Str).cps.toList = [97] := by decide +kernel
    rw [e] at hc
    exact hc
  rcases List.mem_singleton.mp this with rfl
  decide⟩
theorem nest_ix : ∀ d, IXs (nest d)
  | 0 => .cons (.press wd_a') .nil
  | d + 1 => .cons (.times (by decide) (by decide) (nest_ix d)) .nil
end Pn
end

section
set_option Elab.async false
set_option linter.all false
set_option maxRecDepth 100000
set_option maxHeartbeats 4000000
/-! The deep text. -/
namespace Pn
open PySem PySem.Spec PyProof.Rows L2 TL
theorem nest_l : ∀ d, joinL [32] (lIs (nest d)) = (List.replicate d [50, 40]).flatten ++ ([97] ++ List.replicate d 41)
  | 0 => by
    have e : tl "a" = [97] := by decide +kernel
    unfold nest
    rw [lIs, lIs, lI]
    show tl "a" = _
    rw [e]
    rfl
  | d + 1 => by
    have ih := nest_l d
    have e : numL (2 : Int).toNat = [50] := by decide +kernel
    have e2 : List.replicate (d + 1) 41 = List.replicate d 41 ++ [41] := List.replicate_succ'
    unfold nest
    rw [lIs, lIs, lI]
    show numL (2 : Int).toNat ++ _ = _
    rw [ih, e, e2, List.replicate_succ, List.flatten_cons]
    simp
theorem fold_rep (xs : Array Nat) : ∀ (k : Nat) (acc : Array Nat), ((List.replicate k xs).foldl (· ++ ·) acc).toList = acc.toList ++ (List.replicate k xs.toList).flatten
  | 0, acc => by simp
  | k + 1, acc => by
    rw [List.replicate_succ, List.foldl_cons, fold_rep xs k, List.replicate_succ, List.flatten_cons]
    simp
theorem mul_tl {x : PySem.Str} {n : Int} (h : 2 ≤ n) (hx : x.length ≠ 0) : tl (Txt.mul x n) = (List.replicate n.toNat (tl x)).flatten := by
  unfold Txt.mul
  rw [if_neg (by omega), if_neg (by
    rw [Bool.or_eq_true, beq_iff_eq, beq_iff_eq]
    omega)]
  show ((List.replicate n.toNat x.cps).foldl (· ++ ·) #[]).toList = _
  rw [fold_rep]
  rfl
def deepS : PySem.Str := Txt.mul "2(" 120 ++ "a" ++ Txt.mul ")" 120
theorem deep_tl : tl deepS = (List.replicate 120 [50, 40]).flatten ++ ([97] ++ List.replicate 120 41) := by
  have e1 : tl "2(" = [50, 40] := by decide +kernel
  have e2 : tl ")" = [41] := by decide +kernel
  have e3 : tl "a" = [97] := by decide +kernel
  have l1 : ("2(" : PySem.Str).length ≠ 0 := by decide +kernel
  have l2 : (")" : PySem.Str).length ≠ 0 := by decide +kernel
  unfold deepS
  rw [tl_append, tl_append, mul_tl (by decide) l1, mul_tl (by decide) l2, e1, e2, e3, List.append_assoc]
  have : (List.replicate (120 : Int).toNat [41]).flatten = List.replicate 120 41 := by decide +kernel
  rw [this]
  rfl
theorem deep_txt : deepS = txB (nest 120) := ext_tl (by rw [deep_tl, xl_txB (nest_ix 120), nest_l])
theorem deep_len : deepS.length = 361 := by rw [len_tl, deep_tl]; decide +kernel
theorem deep_ok : faultF 0 ⟨0, 0, 0⟩ (tl deepS) = none := by rw [deep_tl]; decide +kernel
theorem deep_fk : (fks (nest 120)).head? = some .deep := by decide +kernel
theorem deep_tells : Tells (.str deepS) (.fk .deep) := .fk deep_ok deep_txt (nest_ix 120) deep_fk
def deepC : PySem.Str := cutS deepS none (some (-1))
theorem deepC_tl : tl deepC = (tl deepS).take 360 := by
  unfold deepC cutS
  rw [HT.sIx_none]
  show ((tl deepS).drop 0).take (HT.sIx deepS.length deepS.length (some (-1)) - 0) = _
  rw [deep_len]
  rfl
theorem deepC_bad : Tells (.str deepC) (.bad 360) := .bad (by rw [deepC_tl, deep_tl]; decide +kernel)
theorem deepC_len : deepC.length ≤ 1000 := by rw [len_tl, deepC_tl, List.length_take]; omega
theorem t01 : Tells (.str "01()") (.bad 1) := .bad (by decide +kernel)
theorem ta_ : Tells (.str "a ") (.bad 2) := .bad (by decide +kernel)
theorem t3a : Tells (.str "3(a") (.bad 3) := .bad (by decide +kernel)
theorem mul_ok1 : MulOk "2(" 120 := ⟨by decide +kernel, by decide +kernel, by decide +kernel⟩
theorem mul_ok2 : MulOk ")" 120 := ⟨by decide +kernel, by decide +kernel, by decide +kernel⟩
theorem mul_len1 : (Txt.mul "2(" 120).length = 240 := by
  have e1 : tl "2(" = [50, 40] := by decide +kernel
  have l1 : ("2(" : PySem.Str).length ≠ 0 := by decide +kernel
  rw [len_tl, mul_tl (by decide) l1, e1]
  decide +kernel
theorem mul_len2 : (Txt.mul ")" 120).length = 120 := by
  have e1 : tl ")" = [41] := by decide +kernel
  have l1 : (")" : PySem.Str).length ≠ 0 := by decide +kernel
  rw [len_tl, mul_tl (by decide) l1, e1]
  decide +kernel
end Pn
end

section
set_option Elab.async false
set_option linter.all false
set_option maxRecDepth 100000
set_option maxHeartbeats 8000000
namespace KP
open PySem PySem.Spec PyProof.Rows L2 Pn TL StX
abbrev sLaw : Stmt := top 59
/-- a def of the law: where it stands -/
structure Df (K : PySem.W.Frag) (mg : PySem.Str → Option Value) (x : PySem.Str) (st : Stmt) (ps : List PySem.Str) (f : Addr) (fd : FuncData) : Prop where
  F : Fun K x x st f fd
  b : Binds K fd ps []
  g : Fn K mg x f
theorem ne_lay {d : PyData} {A B : Prop} (l : PyData.canLay0 d = true) (h : B) : if (!PyData.eqv d d) = true then A else B := by
  rw [PySem.SeqAt.eqv_refl _ l]
  exact iteF h
theorem fk_dp {K : PySem.W.Frag} {H : Hp} {t : Addr} {f : Fk} (h : H t = some (.tup (fkD f))) : Dp K H (.ref t) (fkP f) := by
  cases f with
  | item => exact .tup (SqT.of h) (.cons (.str _) (.cons (.str _) .nil))
  | many => exact .tup (SqT.of h) (.cons (.str _) (.cons (.int _) .nil))
  | deep => exact .tup (SqT.of h) (.cons (.str _) (.cons (.int _) .nil))
theorem FkL.dp {K : PySem.W.Frag} {H : Hp} : ∀ {vs : List V} {fs : List Fk}, FkL H vs fs → DpAll K H vs (fs.map fkP)
  | _, _, .nil => .nil
  | _, _, .cons h r => .cons (fk_dp h) (FkL.dp r)
theorem text_dp {K : PySem.W.Frag} {H : Hp} {t : Addr} {i : Nat} (h : H t = some (.tup [.str "text", .int ((i : Nat) : Int)])) : Dp K H (.ref t) (textD i) := .tup (SqT.of h) (.cons (.str _) (.cons (.int _) .nil))
theorem read_dp {K : PySem.W.Frag} {B : Addr → Prop} {H : Hp} {t L : Addr} {us : List V} {its : List Itm} (h : H t = some (.tup [.str "read", .ref L])) (hL : H L = some (.lst us)) (hR : Rps B H us its) : Dp K H (.ref t) (readD its) := .tup (SqT.of h) (.cons (.str _) (.cons (.lst (SqL.of hL) (Rps.dp its _ hR)) .nil))
/-- where all that the law's own text reads stands -/
structure Wd1 (K : PySem.W.Frag) (mg : PySem.Str → Option Value) where
  (c : Cs) (C : Nat → Addr) (CT : Addr)
  (fD pD fO fC tS tP tG tT tB iS iP iG iT iB fW fN fH gR pR pEn fEn rA rF rT rI rO : Addr)
  (fdD fdO fdC dS dP dG dT dB eS eP eG eT eB fdW fdN fdH fdGR fdEn dA dF dTk dI dIs : FuncData)
  (mcR : Value)
  (aPen aDraw aPick aWords aAny aNames aItem aItems aPlain aDepth aText aNext aWrong aParsed aFaults aTold aBent : Addr)
  (dPen dDraw dPick dWords dAny dNames dItem dItems dPlain dDepth dText dNext dWrong dParsed dFaults dTold dBent : FuncData)
structure Wf (K : PySem.W.Frag) (mg : PySem.Str → Option Value) (W : Wd1 K mg) : Prop where
  T3 : Blt3 mg
  T1 : Blt mg
  U : Blt2 mg
  min : mg "min" = none
  RD : RdT mg
  B : BodT K mg W.c
  A' : Ap K W.c
  R : ErrT K mg W.C tclass
  Z : MakT K mg W.c W.fD W.pD W.fO W.fC W.tS W.tP W.tG W.tT W.tB W.fdD W.fdO W.fdC W.dS W.dP W.dG W.dT W.dB
  Y : InsT K mg W.c W.iS W.iP W.iG W.iT W.iB W.fW W.fN W.fH W.eS W.eP W.eG W.eT W.eB W.fdW W.fdN W.fdH
  N : RedT K mg W.rA W.rF W.rT W.rI W.dA W.dF W.dTk W.dI
  IO : Fun K "items_of" "items_of" sItemsOf W.rO W.dIs
  bIO : Binds K W.dIs ["text"] []
  gIO : Fn K mg "items_of" W.rO
  IT : InvT K mg W.CT
  X : TxT K mg W.C W.CT
  RB' : Fun K "read" "Body.read" sBodyR W.gR W.fdGR
  CR : ClsR K W.c.body W.mcR W.pR W.gR W.fdGR ["cls", "text"]
  EN : Fun K "entries" "Body.entries" sBodyEn W.fEn W.fdEn
  bE : Binds K W.fdEn ["self"] []
  pE : PropOf K W.c.body "entries" W.pEn W.fEn
  pen : Df K mg "_law_pen" sPen ["_law_script"] W.aPen W.dPen
  draw : Df K mg "_law_draw" sDraw ["_law_pen_here", "_law_size"] W.aDraw W.dDraw
  pick : Df K mg "_law_pick" sPick ["_law_pen_here", "_law_items_here"] W.aPick W.dPick
  words : Df K mg "_law_words" sWords ["_law_pen_here", "_law_count"] W.aWords W.dWords
  any : Df K mg "_law_any_value" sAny ["_law_pen_here"] W.aAny W.dAny
  names : Df K mg "_law_names" sNames ["_law_pen_here"] W.aNames W.dNames
  item : Df K mg "_law_item" sItem ["_law_pen_here", "_law_names_here", "_law_deep"] W.aItem W.dItem
  items : Df K mg "_law_items" sItems ["_law_pen_here", "_law_names_here", "_law_deep", "_law_topmost"] W.aItems W.dItems
  plain : Df K mg "_law_plain" sPlain ["_law_item_here"] W.aPlain W.dPlain
  depth : Df K mg "_law_depth" sDepth ["_law_items_here"] W.aDepth W.dDepth
  text : Df K mg "_law_text" sText ["_law_items_here"] W.aText W.dText
  next : Df K mg "_law_next" sNext ["_law_sort", "_law_size", "_law_deep", "_law_sign"] W.aNext W.dNext
  wrong : Df K mg "_law_wrong" sWrong ["_law_text_here"] W.aWrong W.dWrong
  parsed : Df K mg "_law_parsed" sParsed ["_law_text_here"] W.aParsed W.dParsed
  faults : Df K mg "_law_faults" sFaults ["_law_items_here"] W.aFaults W.dFaults
  told : Df K mg "_law_told" sToldT ["_law_text_here"] W.aTold W.dTold
  bent : Df K mg "_law_bent" sBent ["_law_pen_here", "_law_text_here"] W.aBent W.dBent
theorem scLaw : FnScope ["_law_script", "_law_pen_here", "_law_lap", "_law_text_here", "_law_again", "_law_wrong_here", "_law_answer", "_law_some", "_law_faults_here", "_law_odd", "_law_deep"] ["_law_script"] (defScope sLaw) := ⟨rfl, rfl, rfl, by decide +kernel, rfl, by decide +kernel, by decide +kernel⟩
def spLaw (K : PySem.W.Frag) : Sp := fun vs H Q _ => ∃ (a : Addr) (ns : List Int), vs = [.ref a] ∧ SqL K H a (ns.map V.int) ∧ ns.length ≤ 63 ∧ ∀ H', Q (.bl true) H'
/-- what comes of a text, and what the law's automaton says -/
theorem text_out (z : PySem.Str) : (∃ i, faultF 0 ⟨0, 0, 0⟩ (tl z) = some i ∧ Tells (.str z) (.bad i)) ∨ (faultF 0 ⟨0, 0, 0⟩ (tl z) = none ∧ ∃ its, z = txB its ∧ IXs its ∧ ((∃ f, (fks its).head? = some f ∧ Tells (.str z) (.fk f)) ∨ (fks its = [] ∧ Tells (.str z) (.ok its)))) := by
  cases e : faultF 0 ⟨0, 0, 0⟩ (tl z) with
  | some i => exact .inl ⟨i, rfl, .bad e⟩
  | none =>
    obtain ⟨its, hi, ez⟩ := parse_all e
    refine .inr ⟨rfl, its, ez, hi, ?_⟩
    cases e2 : (fks its).head? with
    | some f => exact .inl ⟨f, rfl, .fk e ez hi e2⟩
    | none => exact .inr ⟨List.head?_eq_none_iff.mp e2, .ok e ez hi (List.head?_eq_none_iff.mp e2)⟩
end KP
end

section
set_option Elab.async false
set_option linter.all false
set_option maxRecDepth 100000
set_option maxHeartbeats 8000000
namespace KP
open PySem PySem.Spec PyProof.Rows L2 Pn TL StX
section
variable {P : Program} {w : World} {K : PySem.W.Frag} {mg : Str → Option Value} {base : Heap}
theorem ok_law {W : Wd1 K mg} (F : Wf K mg W) {f : Addr} {fd : FuncData} (FL : Fun K "law" "law" sLaw f fd) : FnG P w K mg base CX0 115 f fd ["_law_script"] (spLaw K) := by
  refine FL.okG scLaw (fun vs H Q E h => ?_) (fun cdv A outer s H vs Q E hg hr h => ?_)
  · obtain ⟨a, ns, rfl, _⟩ := h
    rfl
  have GPen : FnOk P w K mg base CX0 1 W.aPen W.dPen ["_law_script"] (spPen K) := ok_pen F.pen.F F.T1
  have GN : FnOk P w K mg base CX0 4 W.aNames W.dNames ["_law_pen_here"] spNames := ok_names F.names.F F.T1 F.draw.F F.draw.b F.draw.g F.pick.F F.pick.b F.pick.g F.words.F F.words.b F.words.g
  have GA : FnOk P w K mg base CX0 3 W.aAny W.dAny ["_law_pen_here"] (spAny K) := ok_any F.any.F F.T1 F.draw.F F.draw.b F.draw.g F.pick.F F.pick.b F.pick.g
  have GI : FnOk P w K mg base CX0 8 W.aItems W.dItems ["_law_pen_here", "_law_names_here", "_law_deep", "_law_topmost"] (spItems 2) := (ok_both F.item.F F.T1 F.draw.F F.draw.b F.draw.g F.pick.F F.pick.b F.pick.g F.items.F F.items.b F.items.g F.item.b F.item.g 2).2
  have GPl : FnOk P w K mg base CX0 5 W.aPlain W.dPlain ["_law_item_here"] (spPlain W.c 2) := ok_plain F.plain.F F.T1 F.B F.A' F.EN F.bE F.pE F.plain.b F.plain.g
  have GTe : FnOk P w K mg base CX0 4 W.aText W.dText ["_law_items_here"] (spText 2) := ok_text F.text.F F.U F.text.b F.text.g
  have GB : FnOk P w K mg base CX0 3 W.aBent W.dBent ["_law_pen_here", "_law_text_here"] spBent := ok_bent F.bent.F F.T1 F.draw.F F.draw.b F.draw.g F.pick.F F.pick.b F.pick.g
  have GW : FnOk P w K mg base CX0 2 W.aWrong W.dWrong ["_law_text_here"] spFault := ok_wrong F.wrong.F F.T1 F.next.F F.next.b F.next.g
  have GPa : FnOk P w K mg base CX0 1 W.aParsed W.dParsed ["_law_text_here"] spParsed := ok_parsed F.parsed.F F.T1
  have GFk : FnOk P w K mg base CX0 109 W.aFaults W.dFaults ["_law_items_here"] (spFks 106) := ok_faults F.faults.F F.T1 F.U F.depth.F F.depth.b F.depth.g F.faults.b F.faults.g 106
  have GRd : FnOk P w K mg base (L2.CX P w) 10 W.gR W.fdGR ["cls", "text"] (spReadX K W.c W.C W.CT) := ok_readX F.RB' F.T3 F.T1 F.U F.RD F.B F.R F.Z F.Y F.N F.IT F.IO F.bIO F.gIO
  have GTo : FnOk P w K mg base CX0 12 W.aTold W.dTold ["_law_text_here"] (spTold K) := ok_toldT F.told.F F.T1 F.B F.X F.EN F.bE F.pE GPl F.plain.b F.plain.g F.CR GRd
  obtain ⟨a, ns, rfl, hS, hl, kQ⟩ := h
  have hr253 : Room 109 _ := hr.mono (by decide)
  have hr12 : Room 12 _ := hr.mono (by decide)
  have hr8 : Room 8 _ := hr.mono (by decide)
  have hr4 : Room 4 _ := hr.mono (by decide)
  have hr3 : Room 3 _ := hr.mono (by decide)
  have hr2 : Room 2 _ := hr.mono (by decide)
  have hr1 : Room 1 _ := hr.mono (by decide)
  have m8 : sizeLine = 16777216 := rfl
  refine ⟨_, (pss_cons (ps_set (i := 1) scLaw.nd rfl (Or.inl rfl) (pe_call GPen hr1 rfl F.pen.g.g F.pen.g.k F.pen.b .nil pass0 (pa_cons (pv 0) pa_nil)))
      (pss_cons (ps_for PassesOwn.never rfl (pi_range1 (by rfl) F.T1.range (pa_cons (pe_op op_add pe_int (pe_callB (call_min2 rfl) (by rfl) F.min (by decide +kernel) (pa_cons pe_int (pa_cons (pe_callB call_len_seq (by rfl) F.T1.len PySem.boot_len (pa_cons (pv 0) pa_nil)) pa_nil)))) pa_nil)) (pg_name (i := 2) scLaw.nd rfl (Or.inl rfl))
        (pss_cons (ps_set (i := 3) scLaw.nd rfl (Or.inl rfl) (pe_call GTe hr4 rfl F.text.g.g F.text.g.k F.text.b .nil pass0 (pa_cons (pe_call GI hr8 rfl F.items.g.g F.items.g.k F.items.b .nil pass0 (pa_cons (pv 1) (pa_cons (pe_call GN hr4 rfl F.names.g.g F.names.g.k F.names.b .nil pass0 (pa_cons (pv 1) pa_nil)) (pa_cons pe_int (pa_cons pe_int pa_nil))))) pa_nil)))
        (pss_cons (ps_for PassesOwn.never rfl (pi_range1 (by rfl) F.T1.range (pa_cons pe_int pa_nil)) (pg_name (i := 4) scLaw.nd rfl (Or.inl rfl))
          (pss_cons (ps_set (i := 3) scLaw.nd rfl (Or.inl rfl) (pe_call GB hr3 rfl F.bent.g.g F.bent.g.k F.bent.b .nil pass0 (pa_cons (pv 1) (pa_cons (pv 3) pa_nil))))
          (C8.pss_cut (ps_par (i := 5) (j := 6) (by rfl) scLaw.nd rfl rfl (by decide) rfl rfl (pa_cons (pe_call GW hr2 rfl F.wrong.g.g F.wrong.g.k F.wrong.b .nil pass0 (pa_cons (pv 3) pa_nil)) (pa_cons (pe_call GTo hr12 rfl F.told.g.g F.told.g.k F.told.b .nil pass0 (pa_cons (pv 3) pa_nil)) pa_nil)) (by rfl))
          (pss_cons (ps_if (PW.pt (pw_and (pt_cmpR op_notN (pv 5) pe_non (nomark _)) (pw_and1 (pt_cmpR (op_neD hr.units) (pv 6) (pe_tup (pa_cons pe_str (pa_cons (pv 5) pa_nil))) (nomark _))))) (pss_one (ps_ret pe_bl)) pss_nil)
          (pss_one (ps_if (pt_cmpR op_isN (pv 5) pe_non (nomark _))
            (pss_cons (ps_set (i := 7) scLaw.nd rfl (Or.inl rfl) (pe_call GPa hr1 rfl F.parsed.g.g F.parsed.g.k F.parsed.b .nil pass0 (pa_cons (pv 3) pa_nil)))
            (C8.pss_cut (ps_set (i := 8) scLaw.nd rfl (Or.inl rfl) (pe_op op_cat (pe_call GFk hr253 rfl F.faults.g.g F.faults.g.k F.faults.b .nil pass0 (pa_cons (pv 7) pa_nil)) (pe_ifExp (pt_cmpR op_gt (pe_callB call_len_seq (by rfl) F.T1.len PySem.boot_len (pa_cons (pv 7) pa_nil)) pe_int (nomark _)) (pe_lst (pa_cons (pe_tup (pa_cons pe_str (pa_cons pe_int pa_nil))) pa_nil)) (pe_lst pa_nil))))
            (pss_one (ps_if (pt_cmpR (op_neD hr.units) (pv 6) (pe_ifExp (pt_cmpR (op_neD hr.units) (pv 8) (pe_lst pa_nil) (nomark _)) (pe_ix ix_list (pv 8) pe_int (fun _ _ => rfl)) (pe_tup (pa_cons pe_str (pa_cons (pv 7) pa_nil)))) (nomark _)) (pss_one (ps_ret pe_bl)) pss_nil))))
            pss_nil))))))
        (pss_cons (ps_set (i := 9) scLaw.nd rfl (Or.inl rfl) (pe_call GA hr3 rfl F.any.g.g F.any.g.k F.any.b .nil pass0 (pa_cons (pv 1) pa_nil)))
        (pss_one (ps_if (PW.pt (pw_and (pt_not (pt_val (pe_callB call_isi (by rfl) F.T1.isi bIsi (pa_cons (pv 9) (pa_cons (pe_bltn (v := .ty "str") (by rfl) F.U.str (by decide +kernel) rfl) pa_nil))))) (pw_and1 (pt_cmpR (op_neD hr.units) (pe_call GTo hr12 rfl F.told.g.g F.told.g.k F.told.b .nil pass0 (pa_cons (pv 9) pa_nil)) (pe_tup (pa_cons pe_str (pa_cons pe_int pa_nil))) (nomark _))))) (pss_one (ps_ret pe_bl)) pss_nil))))))
      (pss_cons (ps_set (i := 10) scLaw.nd rfl (Or.inl rfl) (pe_op op_add_str (pe_op op_add_str (pe_op op_mul_str pe_str pe_int) pe_str) (pe_op op_mul_str pe_str pe_int)))
      (pss_cons (ps_if (PW.pt (pw_or (pt_cmpR (op_neD hr.units) (pe_call GTo hr12 rfl F.told.g.g F.told.g.k F.told.b .nil pass0 (pa_cons (pv 10) pa_nil)) (pe_tup (pa_cons pe_str (pa_cons pe_int pa_nil))) (nomark _)) (pw_or1 (pt_cmpR (op_neD hr.units) (pe_call GTo hr12 rfl F.told.g.g F.told.g.k F.told.b .nil pass0 (pa_cons (pe_slice sl_str (pv 10) po_none (po_some (pe_un un_neg pe_int))) pa_nil)) (pe_tup (pa_cons pe_str (pa_cons (pe_op op_sub (pe_callB call_len_str (by rfl) F.T1.len PySem.boot_len (pa_cons (pv 10) pa_nil)) pe_int) pa_nil))) (nomark _))))) (pss_one (ps_ret pe_bl)) pss_nil)
      (pss_one (ps_ret (pe_and (pe_cmpR (op_eqD hr.units) (pe_call GTo hr12 rfl F.told.g.g F.told.g.k F.told.b .nil pass0 (pa_cons pe_str pa_nil)) (pe_tup (pa_cons pe_str (pa_cons pe_int pa_nil))) (nomark _)) (pe_and (pe_cmpR (op_eqD hr.units) (pe_call GTo hr12 rfl F.told.g.g F.told.g.k F.told.b .nil pass0 (pa_cons pe_str pa_nil)) (pe_tup (pa_cons pe_str (pa_cons pe_int pa_nil))) (nomark _)) (pe_one (pe_cmpR (op_eqD hr.units) (pe_call GTo hr12 rfl F.told.g.g F.told.g.k F.told.b .nil pass0 (pa_cons pe_str pa_nil)) (pe_tup (pa_cons pe_str (pa_cons pe_int pa_nil))) (nomark _))))))))))), ?_⟩
  refine ⟨_, rfl, a, ns, rfl, hS, hl, fun p c' H1 S1 hp0 hP1 => ?_⟩
  have c2 : cost 2 = 130 := by decide
  have ml : (ns.map V.int).length ≤ 63 := by rw [List.length_map]; exact hl
  refine ⟨_, rfl, a, _, rfl, .inl (S1.seq hS), _, _, rfl, _, _, rfl, rfl, _, rfl, ?lo, ?hi, for_range (lo := 0) (n := ((5 : Int) + (if (((ns.map V.int).length : Nat) : Int) < 5 then (((ns.map V.int).length : Nat) : Int) else 5)).toNat) (fun i σ Hk => ∃ y2 y3 y4 y5 y6 y7 y8 y9 y10, σ = [some (.ref a), some (.ref p), y2, y3, y4, y5, y6, y7, y8, y9, y10] ∧ PenAt Hk p c' ns (i * 2000))
    ⟨none, none, none, none, none, none, none, none, none, rfl, by rw [Nat.zero_mul]; exact hP1⟩ ?hs ?hd⟩
  case lo => split <;> omega
  case hi => split <;> omega
  case hs =>
    rintro i σ Hk hi ⟨y2, y3, y4, y5, y6, y7, y8, y9, y10, rfl, hP⟩
    have i20 : i < 10 := by
      have : ((5 : Int) + (if (((ns.map V.int).length : Nat) : Int) < 5 then (((ns.map V.int).length : Nat) : Int) else 5)).toNat ≤ 10 := by split <;> omega
      omega
    refine ⟨_, rfl, _, rfl, p, c', ns, _, rfl, hP, by omega, hl, fun an H3 han hN3 hB3 hP3 => ?_⟩
    refine ⟨p, c', an, ns, _, 5, rfl, hP3, hN3, by decide, by rw [c2]; omega, hl, fun l2 vs2 its H10 hl20 hL2 hR hO hlen hB10 hP10 => ?_⟩
    refine ⟨l2, vs2, its, _, rfl, hL2, hR, hO, by omega, fun H11 S11 => ?_⟩
    have hP11 := hP10.same S11
    obtain ⟨zl, zc⟩ := txB_size hO (by omega)
    generalize hgz : txB its = z0 at zl zc ⊢
    clear hgz
    refine ⟨_, rfl, by decide, by decide, for_range (lo := 0) (n := 6) (fun k σ Hk => ∃ (y4 y5 y6 y7 y8 y9 y10 : Option V) (z : PySem.Str), σ = [some (.ref a), some (.ref p), some (.int (0 + ((i : Nat) : Int))), some (.str z), y4, y5, y6, y7, y8, y9, y10] ∧ ((z.length ≤ 760 + 13 * k ∧ cnt z ≤ 20 + k) ∨ z.length ≤ 241 + 13 * k) ∧ ∃ n, n ≤ i * 2000 + 1900 + 3 * k ∧ PenAt Hk p c' ns n)
      ⟨y4, y5, y6, y7, y8, y9, y10, z0, rfl, .inl ⟨zl, zc⟩, _, ?n0, hP11⟩ ?is ?id⟩
    case n0 => rw [c2]; omega
    case is =>
      rintro k σ Hk hk ⟨y4, y5, y6, y7, y8, y9, y10, z, rfl, zz, n, hn, hP⟩
      refine ⟨_, rfl, _, rfl, p, c', ns, n, z, rfl, hP, by omega, hl, by omega, fun y H2 hy hB2 hP2 => ?_⟩
      have yy : (y.length ≤ 760 + 13 * (k + 1) ∧ cnt y ≤ 20 + (k + 1)) ∨ y.length ≤ 241 + 13 * (k + 1) := by rcases hy with ⟨h1, h2⟩ | h1 <;> omega
      have y1000 : y.length ≤ 1000 := by omega
      have fin : ∀ (z5 z6 z7 z8 z9 z10 : Option V) (H9 : Hp), Same H2 H9 → ∃ (u4 u5 u6 u7 u8 u9 u10 : Option V) (z : PySem.Str), [some (V.ref a), some (.ref p), some (.int (0 + ((i : Nat) : Int))), some (.str y), some (.int (0 + ((k : Nat) : Int))), z5, z6, z7, z8, z9, z10] = [some (.ref a), some (.ref p), some (.int (0 + ((i : Nat) : Int))), some (.str z), u4, u5, u6, u7, u8, u9, u10] ∧ ((z.length ≤ 760 + 13 * (k + 1) ∧ cnt z ≤ 20 + (k + 1)) ∨ z.length ≤ 241 + 13 * (k + 1)) ∧ ∃ n, n ≤ i * 2000 + 1900 + 3 * (k + 1) ∧ PenAt H9 p c' ns n := fun z5 z6 z7 z8 z9 z10 H9 S9 => ⟨_, z5, z6, z7, z8, z9, z10, y, rfl, yy, _, by omega, hP2.same S9⟩
      refine ⟨fun σ' H' => ∃ (t : Addr) (wr : Option Nat), σ' = [some (V.ref a), some (.ref p), some (.int (0 + ((i : Nat) : Int))), some (.str y), some (.int (0 + ((k : Nat) : Int))), some (fv wr), some (.ref t), y7, y8, y9, y10] ∧ Same H2 H' ∧
        ((∃ i2, wr = some i2 ∧ H' t = some (.tup [.str "text", .int ((i2 : Nat) : Int)])) ∨ (wr = none ∧ ∃ its2, y = txB its2 ∧ IXs its2 ∧ ((∃ f, (fks its2 ++ (if 6 < its2.length then [Fk.many] else [])).head? = some f ∧ H' t = some (.tup (fkD f))) ∨
          (fks its2 ++ (if 6 < its2.length then [Fk.many] else []) = [] ∧ ItsW 2 its2 ∧ ∃ L us B, H' t = some (.tup [.str "read", .ref L]) ∧ H' L = some (.lst us) ∧ Rps B H' us its2)))), ?par, ?rest⟩
      case par =>
        refine ⟨_, rfl, y, rfl, by omega, fun H3 S3 => ?_⟩
        refine ⟨_, rfl, .str y, .str y, ?_⟩
        rcases text_out y with ⟨i2, e, hT⟩ | ⟨e, its2, ey, hx, ⟨f, ef, hT⟩ | ⟨ef, hT⟩⟩
        · rw [e]
          refine ⟨_, rfl, Kd.str y, fun z ez => by cases ez; exact y1000, hT, fun t H4 S4 ht => ?_⟩
          exact ⟨_, _, rfl, t, some i2, rfl, S3.trans S4, .inl ⟨i2, rfl, ht⟩⟩
        · rw [e]
          refine ⟨_, rfl, Kd.str y, fun z ez => by cases ez; exact y1000, hT, fun t H4 S4 ht => ?_⟩
          refine ⟨_, _, rfl, t, none, rfl, S3.trans S4, .inr ⟨rfl, its2, ey, hx, .inl ⟨f, ?_, ht⟩⟩⟩
          rw [head_app, if_neg (fun z => by rw [z] at ef; cases ef)]
          exact ef
        · rw [e]
          refine ⟨_, rfl, Kd.str y, fun z ez => by cases ez; exact y1000, hT, fun h6 t H4 S4 ht => ?_, fun h6 t L us H4 S4 ht hL4 hR4 => ?_⟩
          · exact ⟨_, _, rfl, t, none, rfl, S3.trans S4, .inr ⟨rfl, its2, ey, hx, .inl ⟨.many, by rw [ef, if_pos h6]; rfl, ht⟩⟩⟩
          · exact ⟨_, _, rfl, t, none, rfl, S3.trans S4, .inr ⟨rfl, its2, ey, hx, .inr ⟨by rw [ef, if_neg (by omega)]; rfl, fks_w2 hx ef, L, us, _, ht, hL4, hR4⟩⟩⟩
      case rest =>
        rintro σ' H4 ⟨t, wr, rfl, S4, ⟨i2, rfl, ht⟩ | ⟨rfl, its2, ey, hx, hC⟩⟩
        · refine ⟨_, rfl, rfl, _, rfl, iteT ?_⟩
          refine ⟨_, rfl, _, rfl, (by show 2 ≤ sizeLine; decide), fun t2 ht2 => ⟨textD i2, textD i2, text_dp (same_new ht2 _ _ ht), text_dp upd_same, text_shaped i2, text_shaped i2, _, rfl, ne_lay (text_lay i2) ?_⟩⟩
          exact ⟨_, rfl, rfl, _, rfl, iteF (fin _ _ _ _ _ _ _ (S4.trans (same_new ht2)))⟩
        · refine ⟨_, rfl, rfl, _, rfl, iteF ?_⟩
          refine ⟨_, rfl, rfl, _, rfl, iteT ?_⟩
          have lx : (tl (txB its2)).length ≤ 1000 := by rw [← len_tl, ← ey]; exact y1000
          have e3 := xl_txB hx
          have tk := tks_len hx
          rw [← e3] at tk
          have dp := dps_cnt hx
          rw [← e3, ← ey] at dp
          have dl := dps_len hx
          rw [← e3, ← ey, ← len_tl] at dl
          have yc2 : dIs its2 ≤ 106 := by
            have : cnt y = (tl y).count 40 := rfl
            rcases yy with h | h <;> omega
          refine ⟨_, rfl, its2, by rw [← ey]; rfl, hx, by rw [← ey]; exact y1000, fun p5 xs H5 S5 np5 hp5 hR5 => ?_⟩
          have xl := hR5.len
          refine ⟨fun σ' H' => ∃ (G : Addr) (ws : List V), σ' = [some (V.ref a), some (.ref p), some (.int (0 + ((i : Nat) : Int))), some (.str y), some (.int (0 + ((k : Nat) : Int))), some (fv none), some (.ref t), some (.ref p5), some (.ref G), y9, y10] ∧ Same H5 H' ∧ H' G = some (.lst ws) ∧ FkL H' ws (fks its2 ++ (if 6 < its2.length then [Fk.many] else [])), ?fset, ?fcmp⟩
          case fset =>
            refine ⟨_, rfl, p5, xs, its2, _, rfl, hp5, hR5, by omega, by omega, fun p6 ws H6 S6 hp6 hF6 => ?_⟩
            have wl := hF6.len
            have fl := fks_len its2
            refine ⟨_, rfl, p5, xs, rfl, .inl (SqL.of (S6 _ _ hp5)), _, _, rfl, rfl, _, rfl, ?_⟩
            rw [show decide ((6 : Int) < ((xs.length : Nat) : Int)) = decide (6 < its2.length) from by rw [xl, decide_eq_decide]; omega]
            refine ite2 (fun g0 => ?_) (fun g0 => ?_)
            · rw [if_pos (of_decide_eq_true g0)]
              refine ⟨(by show 2 ≤ sizeLine; decide), fun t2 ht2 => ⟨(by show 1 ≤ sizeLine; decide), fun l2 hl2 => ?_⟩⟩
              refine ⟨_, l2, _, [.ref t2], rfl, rfl, (same_new hl2) _ _ ((same_new ht2) _ _ hp6), upd_same, (by show _ + 1 ≤ sizeLine; omega), fun G2 hG2 => ?_⟩
              obtain ⟨Sx, hFx2⟩ := fk_add (f := .many) hF6 ht2 hl2 hG2
              exact ⟨G2, _, rfl, S6.trans Sx, upd_same, hFx2⟩
            · rw [if_neg (dec_of g0)]
              refine ⟨(by show 0 ≤ sizeLine; decide), fun l2 hl2 => ?_⟩
              refine ⟨_, l2, _, [], rfl, rfl, (same_new hl2) _ _ hp6, upd_same, (by show _ + 0 ≤ sizeLine; omega), fun G2 hG2 => ?_⟩
              obtain ⟨Sx, hFx2⟩ := fk_non hF6 hl2 hG2
              exact ⟨G2, _, rfl, S6.trans Sx, by rw [upd_same, List.append_nil], hFx2⟩
          case fcmp =>
            rintro σ' H7 ⟨G, ws, rfl, S7, hG, hF⟩
            have S27 := (S4.trans S5).trans S7
            refine ⟨_, rfl, _, rfl, (by show 0 ≤ sizeLine; decide), fun l0 hl0 => ?_⟩
            have S0 := same_new (o := .lst []) hl0
            refine ⟨_, _, .lst (SqL.of (S0 _ _ hG)) (FkL.dp (hF.same S0)), .lst (SqL.of upd_same) .nil, fks_shaped _, by decide +kernel, _, rfl, ?_⟩
            rw [fks_nil]
            rcases hC with ⟨f2, ef, ht⟩ | ⟨ef, hw, L, us, B2, ht, hL4, hR4⟩
            · generalize fks its2 ++ (if 6 < its2.length then [Fk.many] else []) = fl at ef hF ⊢
              cases hF with
              | nil => cases ef
              | @cons t3 f3 vs3 fs3 h3 r3 =>
                have e4 : f3 = f2 := by
                  have : some f3 = some f2 := ef
                  cases this
                  rfl
                subst e4
                refine iteT ?_
                refine ⟨_, rfl, _, _, 0, _, rfl, rfl, SqL.of (S0 _ _ hG), atI_nat rfl, ?_⟩
                refine ⟨_, _, fk_dp (S0 _ _ (S7 _ _ (S5 _ _ ht))), fk_dp (S0 _ _ h3), fk_shaped f3, fk_shaped f3, _, rfl, ne_lay (fk_lay f3) ?_⟩
                exact fin _ _ _ _ _ _ _ (S27.trans S0)
            · rw [ef]
              refine iteF ?_
              refine ⟨_, rfl, (by show 2 ≤ sizeLine; decide), fun t2 ht2 => ?_⟩
              have S2 := same_new (o := .tup [.str "read", .ref p5]) ht2
              have S78 := S7.trans (S0.trans S2)
              refine ⟨_, _, read_dp (S78 _ _ (S5 _ _ ht)) (S78 _ _ (S5 _ _ hL4)) ((hR4.same S5).same S78), read_dp upd_same (S78 _ _ hp5) (hR5.same S78), read_shaped hw, read_shaped hw, _, rfl, ne_lay (read_lay hw) ?_⟩
              exact fin _ _ _ _ _ _ _ (S27.trans (S0.trans S2))
    case id =>
      rintro σ H20 ⟨y4, y5, y6, y7, y8, y9, y10, z, rfl, zz, n, hn, hP20⟩
      refine ⟨_, rfl, p, c', ns, n, rfl, hP20, by omega, hl, fun x H21 hg2 hz2 hB21 hP21 => ?_⟩
      obtain ⟨d, hd, _⟩ := hg2
      have hk := Kd.dq hd
      refine ⟨_, rfl, x, _, _, _, _, rfl, .ty _, Dq.ty hd, kit_str d, _, rfl, ?_⟩
      cases e : isD "str" d with
      | true => exact iteF ⟨_, _, _, _, _, _, _, _, _, rfl, hP21.mono (by omega)⟩
      | false =>
        refine iteT ?_
        refine ⟨_, rfl, x, d, .bad 0, rfl, hk, fun z ez => (by rw [ez, (isD_str _).mpr ⟨z, rfl⟩] at e; cases e), .no e, fun t H22 S22 ht => ?_⟩
        refine ⟨(by show 2 ≤ sizeLine; decide), fun t2 ht2 => ?_⟩
        refine ⟨textD 0, textD 0, text_dp (same_new ht2 _ _ ht), text_dp upd_same, text_shaped 0, text_shaped 0, _, rfl, ne_lay (text_lay 0) ?_⟩
        exact ⟨_, _, _, _, _, _, _, _, _, rfl, (hP21.same (S22.trans (same_new ht2))).mono (by omega)⟩
  case hd =>
    rintro σ H2 ⟨y2, y3, y4, y5, y6, y7, y8, y9, y10, rfl, hP2⟩
    have l1 : ("a" : PySem.Str).length = 1 := by decide +kernel
    have l2 := mul_len1
    have l3 := mul_len2
    refine ⟨_, _, rfl, rfl, mul_ok1, _, _, rfl, rfl, by omega, _, _, rfl, rfl, mul_ok2, _, _, rfl, rfl, by rw [Str.length_append]; omega, ?_⟩
    have dl : deepS.length ≤ 1000 := by rw [deep_len]; omega
    refine ⟨_, rfl, .str deepS, .str deepS, .fk .deep, rfl, Kd.str _, fun z ez => by cases ez; exact dl, deep_tells, fun t H3 S3 ht => ?_⟩
    refine ⟨(by show 2 ≤ sizeLine; decide), fun t2 ht2 => ?_⟩
    refine ⟨fkP .deep, fkP .deep, fk_dp (same_new ht2 _ _ ht), fk_dp (f := .deep) upd_same, fk_shaped .deep, fk_shaped .deep, _, rfl, ne_lay (fk_lay .deep) ?_⟩
    refine ⟨_, rfl, _, rfl, _, rfl, deepS, rfl, by omega, ?_⟩
    refine ⟨.str deepC, .str deepC, .bad 360, rfl, Kd.str _, fun z ez => by cases ez; exact deepC_len, deepC_bad, fun t4 H4 S4 ht4 => ?_⟩
    refine ⟨_, rfl, deepS, rfl, by omega, _, _, rfl, rfl, (by show 2 ≤ sizeLine; decide), fun t5 ht5 => ?_⟩
    rw [deep_len]
    refine ⟨textD 360, textD 360, text_dp (same_new ht5 _ _ ht4), text_dp upd_same, text_shaped 360, text_shaped 360, _, rfl, ne_lay (text_lay 360) ?_⟩
    have eq_lay : ∀ {d : PyData} {A B : Prop}, PyData.canLay0 d = true → A → if PyData.eqv d d = true then A else B := fun l h => by rw [PySem.SeqAt.eqv_refl _ l]; exact iteT h
    refine ⟨.str "01()", .str "01()", .bad 1, rfl, Kd.str _, fun z ez => by cases ez; decide +kernel, t01, fun t6 H6 S6 ht6 => ?_⟩
    refine ⟨(by show 2 ≤ sizeLine; decide), fun t7 ht7 => ?_⟩
    refine ⟨textD 1, textD 1, text_dp (same_new ht7 _ _ ht6), text_dp upd_same, text_shaped 1, text_shaped 1, _, rfl, eq_lay (text_lay 1) ?_⟩
    refine ⟨.str "a ", .str "a ", .bad 2, rfl, Kd.str _, fun z ez => by cases ez; decide +kernel, ta_, fun t8 H8 S8 ht8 => ?_⟩
    refine ⟨(by show 2 ≤ sizeLine; decide), fun t9 ht9 => ?_⟩
    refine ⟨textD 2, textD 2, text_dp (same_new ht9 _ _ ht8), text_dp upd_same, text_shaped 2, text_shaped 2, _, rfl, eq_lay (text_lay 2) ?_⟩
    refine ⟨.str "3(a", .str "3(a", .bad 3, rfl, Kd.str _, fun z ez => by cases ez; decide +kernel, t3a, fun t10 H10 S10 ht10 => ?_⟩
    refine ⟨(by show 2 ≤ sizeLine; decide), fun t11 ht11 => ?_⟩
    refine ⟨textD 3, textD 3, text_dp (same_new ht11 _ _ ht10), text_dp upd_same, text_shaped 3, text_shaped 3, ?_⟩
    rw [PySem.SeqAt.eqv_refl _ (text_lay 3)]
    exact kQ _
end
end KP
end

section
set_option Elab.async false
set_option linter.all false
set_option maxRecDepth 100000
set_option maxHeartbeats 8000000
/-! The end of a law in whose defs lambdas stand: the tables of their code objects are in the abstract heap. -/
namespace L2
open PySem PySem.Spec PyProof.Rows
/-- a def's code at c, its table at P, still empty -/
structure Tab1 (K : PySem.W.Frag) (mg : Str → Option Value) (h : Heap) (c P : Addr) : Prop where
  hd : PySem.W.CodeHd h c P
  at_ : h.get? P = some (PySem.W.tabObj #[])
  noK : K.lookup P = none
  bm : h.BuiltinsAt mg P
  gP : mainGlobals ≠ P
section
variable {P : Program} {w : World} {K : PySem.W.Frag} {mg mb : Str → Option Value} {k : Nat} {fa a : Addr} {fd : FuncData} {x : Str} {sp : Sp} {s1 : Shared} {vs : List Value} {ns : List Int} {TS : List (Addr × Addr)}
theorem lawRunT (hT : ∀ q ∈ TS, Tab1 K mg s1.heap q.1 q.2) (KX : K.In s1.heap) (hns : s1.heap.Ns mainGlobals mg) (hb : s1.heap.Ns builtinsNs mb) (hbb : ∀ x : Str, x ≠ "__name__" → mb x = bootBuiltins x) (hlim : s1.heap.NoLimit) (hg : s1.gens = #[])
    (ha : s1.heap.get? a = some { cls := .type "list", data := .seq vs.toArray }) (hr : Room k callerA)
    (F : ∀ base : Heap, K.In base → base.Ns mainGlobals mg → (∀ q ∈ TS, LamX.TabB base mg q.1 q.2) → FnG P w K mg base CX0 k fa fd [x] sp) (hbind : ∀ (s : Shared) (u : Value), BindsTo s fd ⟨[u], []⟩ [(x, u)])
    (H : Hp) (hok : HOk P w H s1.heap) (one : ∀ b, H b = none ∨ (b = a ∧ K.lookup a = none ∧ ∃ o xs, H b = some (.frz o (.lst xs))) ∨ ∃ c, (c, b) ∈ TS ∧ H b = some (.tbl #[])) (hsp : sp [.ref a] H (fun v _ => v = .bl true) fun _ _ _ => False) :
    codeAny (model P w) callerA (.call (.ref fa) ⟨[.ref a], []⟩) (Came s1) s1 := by
  have free : ∀ {b : Addr} {o : Obj}, s1.heap.get? b = some o → o.cls ≠ .type "list" → o.cls ≠ .none → H b = none := fun {b o} e n1 n2 => by
    rcases one b with z | ⟨z, _⟩ | ⟨c, m, _⟩
    · exact z
    · rw [z, ha] at e
      cases e
      exact absurd rfl n1
    · rw [(hT _ m).at_] at e
      cases e
      exact absurd rfl n2
  have ofDict : ∀ {b : Addr} {o : Obj} {es : Array DictEntry} {ep : Nat}, s1.heap.get? b = some o → o.data = .dict es ep → H b = none := fun {b o es ep} e d => by
    rcases one b with z | ⟨z, _⟩ | ⟨c, m, _⟩
    · exact z
    · rw [z, ha] at e
      cases e
      cases (show Data.seq vs.toArray _ = Data.dict es ep from d)
    · rw [(hT _ m).at_] at e
      cases e
      cases (show Data.fields _ = Data.dict es ep from d)
  have ns' : ∀ {b : Addr} {m : Str → Option Value}, s1.heap.Ns b m → (hidT s1.heap H).Ns b m := fun ⟨o, es, ep, e, d, r⟩ => ⟨o, es, ep, hidT_get e (ofDict e d), d, r⟩
  have kin : K.In (hidT s1.heap H) := fun b o e => hidT_get (KX b o e) (by
    rcases one b with z | ⟨z, l, _⟩ | ⟨c, m, _⟩
    · exact z
    · rw [z, l] at e; cases e
    · rw [(hT _ m).noK] at e; cases e)
  have M : Mod K mg (hidT s1.heap H) := ⟨kin, ns' hns, ⟨mb, ns' hb, hbb⟩, let ⟨mc, h1, h2⟩ := hlim; ⟨mc, ns' h1, h2⟩⟩
  have E0 : Env0 P w K mg (hidT s1.heap H) callerA [] s1 H := ⟨rfl, M, fun b o e => of_hidT e, Nat.le_of_eq (hidT_size _ _), trivial, fun b hb => absurd (show b ∈ ([] : List Addr) from hb) (by simp), hok, .of_eq hg⟩
  have tabs : ∀ q ∈ TS, LamX.TabB (hidT s1.heap H) mg q.1 q.2 := fun q hq => by
    have t := hT q hq
    refine ⟨?_, ?_, t.gP⟩
    · obtain ⟨o, vs', file, tf, flags, tg, inF, text, tt, e, c1, r⟩ := t.hd
      exact ⟨o, vs', file, tf, flags, tg, inF, text, tt, hidT_get e (free e (by rw [c1]; exact fun z => absurd (Value.type.inj z) (by decide)) (by rw [c1]; intro z; cases z)), c1, r⟩
    · obtain ⟨bm, o, e1, e2, e3, e4, e, c1, r⟩ := t.bm
      exact ⟨bm, o, e1, e2, e3, e4, hidT_get e (free e (by rw [c1]; exact fun z => absurd (Value.type.inj z) (by decide)) (by rw [c1]; intro z; cases z)), c1, r⟩
  refine codeAny_mono ((F _ kin (ns' hns) tabs).run callerA [] s1 H ⟨[.ref a], []⟩ [.ref a] [.ref a] _ _ rfl hr E0 (hbind s1 (.ref a)) (.cons rfl .nil) hsp) fun r s' h => ?_
  cases r with
  | error e => exact False.elim h
  | ok fl => ?_
  cases fl with
  | next => exact False.elim h
  | brk => exact False.elim h
  | cont => exact False.elim h
  | ret u => ?_
  obtain ⟨v, H', os, bare, un, hok', rv, q⟩ := h
  cases (show v = .bl true from q)
  cases (show u = Value.bool true from rv)
  have old : ∀ b o, s1.heap.get? b = some o → asItWas s1.heap s'.heap b o ∧ ∃ o', s'.heap.get? b = some o' := fun b o e => by
    rcases one b with z | ⟨_, _, ob, xs, z⟩ | ⟨c, m, z⟩
    · have := un.keep b o e z (by intro z; exact absurd (show b ∈ ([] : List Addr) from z) (by simp)) (by simp)
      exact ⟨.inl this, _, this⟩
    · have e1 := (hok b _ z).1
      have e2 := (hok' b _ (un.frzs b ob _ z)).1
      rw [e] at e1
      cases e1
      exact ⟨.inl e2, _, e2⟩
    · have t := hT _ m
      have e1 := t.at_
      rw [show (c, b).2 = b from rfl, e] at e1
      cases e1
      obtain ⟨more, z2⟩ := un.tbls b #[] z
      have e2 : s'.heap.get? b = some { cls := Value.none, data := Data.fields (#[] ++ more) } := hok' b _ z2
      refine ⟨.inr (.inl ⟨?_, rfl, #[], more, rfl, e2⟩), _, e2⟩
      obtain ⟨o, vs', file, tf, flags, tg, inF, text, tt, e, c1, c2, c3, r⟩ := t.hd
      exact ⟨c, o, vs', e, c1, c2, c3⟩
  exact ⟨rfl, ⟨fun b o e => (old b o e).1, fun b o e => (old b o e).2⟩, os, bare⟩
theorem lawCallT (hT : ∀ q ∈ TS, Tab1 K mg s1.heap q.1 q.2) (KX : K.In s1.heap) (hns : s1.heap.Ns mainGlobals mg) (hb : s1.heap.Ns builtinsNs mb) (hbb : ∀ x : Str, x ≠ "__name__" → mb x = bootBuiltins x) (hlim : s1.heap.NoLimit) (hg : s1.gens = #[])
    (ha : s1.heap.get? a = some { cls := .type "list", data := .seq vs.toArray }) (hi : IntsAre vs ns) (hl : ns.length ≤ sizeLine) (hr : Room k callerA)
    (F : ∀ base : Heap, K.In base → base.Ns mainGlobals mg → (∀ q ∈ TS, LamX.TabB base mg q.1 q.2) → FnG P w K mg base CX0 k fa fd [x] sp) (hbind : ∀ (s : Shared) (u : Value), BindsTo s fd ⟨[u], []⟩ [(x, u)])
    (hsp : ∀ H : Hp, SqL K H a (ns.map V.int) → (∀ q ∈ TS, H q.2 = some (.tbl #[])) → sp [.ref a] H (fun v _ => v = .bl true) fun _ _ _ => False) :
    codeAny (model P w) callerA (.call (.ref fa) ⟨[.ref a], []⟩) (Came s1) s1 := by
  classical
  have rv := vals_ints hi
  have aT : ∀ q ∈ TS, q.2 ≠ a := fun q hq z => by
    have e := (hT q hq).at_
    rw [z, ha] at e
    cases e
  cases hk : K.lookup a with
  | some o =>
    have e := KX a o hk
    rw [ha] at e
    cases e
    refine lawRunT hT KX hns hb hbb hlim hg ha hr F hbind (fun b => if (∃ c, (c, b) ∈ TS) then some (.tbl #[]) else none) (fun b u z => ?_) (fun b => ?_) (hsp _ (.inr ⟨_, vs.toArray, _, hk, rfl, rfl, rfl, by rw [List.size_toArray, hi.length]; exact hl, by simpa using rv⟩) (fun q hq => if_pos ⟨q.1, hq⟩))
    · dsimp only at z
      by_cases e : ∃ c, (c, b) ∈ TS
      · rw [if_pos e] at z
        cases z
        obtain ⟨c, m⟩ := e
        exact (hT _ m).at_
      · rw [if_neg e] at z
        cases z
    · by_cases e : ∃ c, (c, b) ∈ TS
      · obtain ⟨c, m⟩ := e
        exact .inr (.inr ⟨c, m, if_pos ⟨c, m⟩⟩)
      · exact .inl (if_neg e)
  | none =>
    refine lawRunT hT KX hns hb hbb hlim hg ha hr F hbind (fun b => if (∃ c, (c, b) ∈ TS) then some (.tbl #[]) else if b = a then some (HO.frz { cls := .type "list", data := .seq vs.toArray } (.lst (ns.map V.int))) else none) (fun b u z => ?_) (fun b => ?_) (hsp _ (.inl (.inr ⟨{ cls := .type "list", data := .seq vs.toArray }, ?_⟩)) (fun q hq => if_pos ⟨q.1, hq⟩))
    · dsimp only at z
      by_cases e : ∃ c, (c, b) ∈ TS
      · rw [if_pos e] at z
        cases z
        obtain ⟨c, m⟩ := e
        exact (hT _ m).at_
      · rw [if_neg e] at z
        by_cases e2 : b = a
        · rw [if_pos e2] at z
          cases z
          subst e2
          exact ⟨ha, by rw [List.length_map]; exact hl, vs, _, rv, ha⟩
        · rw [if_neg e2] at z
          cases z
    · by_cases e : ∃ c, (c, b) ∈ TS
      · obtain ⟨c, m⟩ := e
        exact .inr (.inr ⟨c, m, if_pos ⟨c, m⟩⟩)
      · by_cases e2 : b = a
        · exact .inr (.inl ⟨e2, hk, _, _, by rw [if_neg e, if_pos e2]⟩)
        · exact .inl (by rw [if_neg e, if_neg e2])
    · dsimp only
      rw [if_neg (fun ⟨c, m⟩ => aT _ m rfl), if_pos rfl]
end
theorem tab1 {q : Program} {loose : List Str} {mean : ExcName → Option Value} {mg mb : Str → Option Value} {h : Heap} {K : PySem.W.Frag} {x : Str} {d : DefRec} {c P : Addr} (G : Top q loose mean mg mb h) (KX : K.In h) (hf : List.find? (fun e => e.name == x) (recsOf q) = some d)
    (ht : PySem.W.tabIn K x = some (c, P)) (hn : K.lookup P = none) : Tab1 K mg h c P := by
  obtain ⟨hd, hp⟩ := PySem.W.tab_of G KX hf ht
  obtain ⟨bm, ob, e1, e2, e3, e4, e5, e6⟩ := G.bmain
  obtain ⟨og, es, ep, g1, g2, _⟩ := G.g
  refine ⟨hd, hp, hn, ⟨bm, ob, e1, e2, fun z => ?_, fun z => ?_, e3, e4, e5, e6⟩, fun z => ?_⟩
  · rw [z, g1] at e3
    cases e3
    rw [e6] at g2
    cases g2
  · rw [z, hp] at e3
    cases e3
    cases e4
  · rw [z, hp] at g1
    cases g1
    cases g2
/-- the goal that k_head leaves, from such a promise, where lambdas stand in some defs -/
theorem walkGT {l : PySem.W.OpenLaw} {n k : Nat} {q : Program} {loose : List Str} {XP : (Str → Option Value) → Heap → Prop} {YP : World → Heap → Prop} {d : DefRec} {K : Params → PySem.W.Frag} {sp : PySem.W.Frag → Sp} {x : Str} (TS : List (Addr × Addr))
    (hTS : ∀ w : World, ∀ t ∈ TS, ∃ y e, List.find? (fun e => e.name == y) (recsOf q) = some e ∧ PySem.W.tabIn (K w.params) y = some t ∧ (K w.params).lookup t.2 = none)
    (hn : l.most = some n) (hn2 : n ≤ sizeLine) (hdf : d.params.defaults = []) (hr : Room k callerA) (hY : ∀ (w : World) (h : Heap), YP w h → (K w.params).In h)
    (F : ∀ (w : World) (mg : Str → Option Value) (fa : Addr) (h : Heap), (K w.params).In h → h.Ns mainGlobals mg → mg d.name = some (.ref fa) →
      ∃ fd : FuncData, (∀ (s : Shared) (u : Value), BindsTo s fd ⟨[u], []⟩ [(x, u)]) ∧ ∀ base : Heap, (K w.params).In base → base.Ns mainGlobals mg → (∀ t ∈ TS, LamX.TabB base mg t.1 t.2) → FnG l.prog w (K w.params) mg base CX0 k fa fd [x] (sp (K w.params)))
    (hsp : ∀ (K : PySem.W.Frag) (H : Hp) (a : Addr) (ns : List Int), ns.length ≤ n → SqL K H a (ns.map V.int) → (∀ t ∈ TS, H t.2 = some (.tbl #[])) → sp K [.ref a] H (fun v _ => v = .bl true) fun _ _ _ => False) :
    PySem.W.WalkO q loose XP YP l.row.toRowW d [] (fun f vs => PySem.call f vs) := by
  refine Att.attach_call hn hdf fun w s₀ s₁ mg mb fa o pm cd doc a vs ns G Y ho hd hcd hmg hobj hints hlen hg => ?_
  have KX := hY w _ Y
  obtain ⟨fd, hb, hF⟩ := F w mg fa _ KX G.T.g hmg
  have hT : ∀ t ∈ TS, Tab1 (K w.params) mg s₁.heap t.1 t.2 := fun t ht => by
    obtain ⟨y, e, h1, h2, h3⟩ := hTS w t ht
    exact tab1 G.T KX h1 (by rw [h2]) h3
  exact lawCallT hT KX G.T.g G.T.b G.T.builtins G.T.nolimit hg hobj hints (Nat.le_trans hlen hn2) hr hF hb fun H hS hH => hsp _ H a ns hlen hS hH
end L2
end

section
set_option Elab.async false
set_option linter.all false
set_option maxRecDepth 100000
set_option maxHeartbeats 4000000
/-! A def whose own code object is known. -/
namespace L2
open PySem PySem.Spec PyProof.Rows
structure FunC (K : PySem.W.Frag) (x qual : Str) (st : Stmt) (f : Addr) (fd : FuncData) (c : Addr) : Prop where
  ex : ∃ (oc : Value) (od : Option Addr) (kV doc pm : Value) (an : Option Addr) (ct : Value) (osl : Array (Option Value)),
    fd = PySem.W.fnOf x qual (defArgs st) (defBody st) (defScope st) .none kV doc pm an (.ref c) ct ∧ K.lookup f = some ⟨oc, od, .func fd, osl⟩ ∧ PySem.W.codeIn K (.ref c) qual = true
section
variable {P : Program} {w : World} {K : PySem.W.Frag} {mg : Str → Option Value} {base : Heap}
theorem FunC.okG {x qual : Str} {st : Stmt} {f cc : Addr} {fd : FuncData} {N ps : List Str} {k : Nat} {sp : Sp} (F : FunC K x qual st f fd cc) (S : FnScope N ps (defScope st)) (len : ∀ vs H Q E, sp vs H Q E → vs.length = ps.length)
    (hbody : ∀ (A : Around) (outer : List Env) (s : Shared) (H : Hp) (vs : List V) (Q : VK) (E : XK), A.guards = some [] → Room k (A.deeper (envOfC qual (defScope st) s.heap.objs.size f (.ref cc))) → sp vs H Q E →
      ∃ t, PSs (cxOf CX0 P w K mg base N qual (defScope st) f (.ref cc) A outer s H E).nox (defBody st) t ∧ t { nx := fun _ H' => Q .non H', rt := Q } (start N vs) H) : FnG P w K mg base CX0 (k + 1) f fd ps sp := by
  obtain ⟨oc, od, kV, doc, pm, an, ct, osl, rfl, lk, hcd⟩ := F.ex
  refine ⟨len, fun A outer s H args us vs Q E hg hr e0 hb r hsp => ?_⟩
  have KX : K.In s.heap := e0.mod.kin.keeps fun b o e => (e0.bs b o e).1
  have lim : s.heap.NoLimit := e0.mod.nolimit.keeps fun b o e => (e0.bs b o e).1
  have kinds : ∀ y ∈ ps.zip us, (defScope st).names.lookup y.1 = some .local ∨ ((defScope st).names.lookup y.1 = some .cell ∧ ((cellsFrom (s.heap.objs.size + 1) (defScope st).names []).lookup y.1).isSome = true) := by
    rintro ⟨n, v⟩ hy
    exact (S.par n (List.of_mem_zip hy).1).imp id fun q => ⟨q, PySem.W.cellsFrom_some _ _ _ (.inl q)⟩
  refine codeAny_call_function hr.depth (KX _ _ lk) rfl S.co S.gen rfl (PySem.W.codeRec_of KX hcd) (hb _ _ _ _ (wpAny_newFunctionEnv_cells S.kind kinds fun env he s1 x => ?_))
  subst he
  obtain ⟨t, ht0, hq⟩ := hbody A outer s H vs Q E hg (hr.deeper _) hsp
  have ht : PSs (cxOf CX0 P w K mg base N qual (defScope st) f (.ref cc) A outer s H E) (defBody st) t := ht0.nox
  have I : Inv (cxOf CX0 P w K mg base N qual (defScope st) f (.ref cc) A outer s H E) [] (start N vs) H s1 := inv_start S hr.hd e0 (len _ _ _ _ hsp) r x
  refine ⟨lim.keeps x.toInCall.keep, codeAny_func (wpAny_mono (ht.run [] s1 (start N vs) H _ I hq) (fun fl s' hs => ?_) fun e s' hs => hs)⟩
  cases fl with
  | ret u =>
    obtain ⟨v, σ', H', J, rv, q⟩ := hs
    exact ⟨v, H', J.os, J.bare, J.base, J.hok, rv, q⟩
  | next =>
    obtain ⟨σ', H', J, q⟩ := hs
    exact ⟨.non, H', J.os, J.bare, J.base, J.hok, rfl, q⟩
  | brk =>
    obtain ⟨_, _, _, q⟩ := hs
    exact q.elim
  | cont =>
    obtain ⟨_, _, _, q⟩ := hs
    exact q.elim
end
end L2
end

section
set_option Elab.async false
set_option linter.all false
set_option maxRecDepth 100000
set_option maxHeartbeats 4000000
/-! The facts of a top, looked up at once: exceptions with one field, classes, their methods, defs. -/
namespace Tp
open PySem PySem.Spec PyProof.Rows L2 Pn
def exB (K : PySem.W.Frag) (C : Addr) (bm : List Value) (nw : String) : Bool :=
  decide (PySem.W.findIn K (.ref C) "__setattr__" = some (some (.builtin "object.__setattr__"))) && PySem.W.excOver K C bm && PySem.W.hasDictIn K C &&
  decide (PySem.W.findIn K (.ref C) "__getattribute__" = some (some (.builtin "BaseException.__getattribute__"))) && decide (PySem.W.findIn K (.ref C) "__getattr__" = some none) &&
  decide (PySem.W.subIn K (.ref C) (.type "BaseException") = some true) && decide (PySem.W.findIn K (.ref C) "__class__" = some (some (.builtin "object.__class__"))) &&
  decide (PySem.W.specialIn K (.builtin "object.__class__") "__get__" = some (some (.builtin "getset_descriptor.__get__"))) && decide (PySem.W.takesIn K (.builtin "object.__class__") = some true) &&
  decide (PySem.W.mroIn K C (.type "object") = some true) && (PySem.W.clsIn K C).isSome && PySem.W.keepIn K (.ref C) && PySem.W.excInitIn K C bm nw
theorem exB_ok {K : PySem.W.Frag} {C : Addr} {bm : List Value} {nw : String} (h : exB K C bm nw = true) : Exk K C bm nw := by
  simp only [exB, Bool.and_eq_true, decide_eq_true_eq] at h
  obtain ⟨⟨⟨⟨⟨⟨⟨⟨⟨⟨⟨⟨h1, h2⟩, h3⟩, h4⟩, h5⟩, h6⟩, h7⟩, h8⟩, h9⟩, h10⟩, h11⟩, h12⟩, h13⟩ := h
  exact ⟨⟨h1, h2, h3⟩, h4, h5, h6, h7, h8, h9, h10, h11, h12, h13⟩
def noB (K : PySem.W.Frag) (C : Addr) (f : Str) : Bool := decide (PySem.W.findIn K (.ref C) f = some none) && decide (PySem.W.takerIn K C f = some none)
structure Ini (K : PySem.W.Frag) (C : Addr) (st : Stmt) (qual : Str) : Prop where
  h : ∃ (f : Addr) (oc doc pm cdv ct : Value) (od an : Option Addr) (osl : Array (Option Value)), PySem.W.findIn K (.ref C) "__init__" = some (some (.ref f)) ∧ PySem.W.typeIn K (.ref f) = some (.type "function") ∧
    K.lookup f = some ⟨oc, od, .func (PySem.W.fnOf "__init__" qual (defArgs st) (defBody st) (defScope st) .none .none doc pm an cdv ct), osl⟩ ∧ PySem.W.codeIn K cdv qual = true
structure Sh1 (st : Stmt) (f : Str) : Prop where
  h : ∃ p1 p2 q1 q2 q3 q4 : Pos, defArgs st = PySem.Xv.a1 f p1 p2 ∧ defBody st = PySem.Xv.b1 f q1 q2 q3 q4 ∧ defScope st = PySem.Xv.s1 f
theorem one_of {K : PySem.W.Frag} {C : Addr} {bm : List Value} {nw : String} {f : Str} {st : Stmt} {qual : Str} (e : Exk K C bm nw) (ff : PySem.Xv.Field f) (n : noB K C f = true) (s : Sh1 st f) (i : Ini K C st qual) : One K C bm nw f := by
  obtain ⟨fI, oc, doc, pm, cdv, ct, od, an, osl, i1, i2, i3, i4⟩ := i.h
  obtain ⟨p1, p2, q1, q2, q3, q4, a, b, c⟩ := s.h
  rw [a, b, c] at i3
  simp only [noB, Bool.and_eq_true, decide_eq_true_eq] at n
  exact ⟨e, ff, n.1, n.2, fI, qual, oc, doc, pm, cdv, ct, od, an, osl, p1, p2, q1, q2, q3, q4, i1, i2, i3, i4⟩
theorem Ini.mk1 {K : PySem.W.Frag} {C f : Addr} {st : Stmt} {qual : Str} {oc doc pm cdv ct : Value} {od an : Option Addr} {osl : Array (Option Value)} (i : PySem.W.findIn K (.ref C) "__init__" = some (some (.ref f))) (t : PySem.W.typeIn K (.ref f) = some (.type "function"))
    (l : K.lookup f = some ⟨oc, od, .func (PySem.W.fnOf "__init__" qual (defArgs st) (defBody st) (defScope st) .none .none doc pm an cdv ct), osl⟩) (c : PySem.W.codeIn K cdv qual = true) : Ini K C st qual := ⟨_, _, _, _, _, _, _, _, _, i, t, l, c⟩
theorem field_of : ∀ j, PySem.Xv.Field (errF j)
  | 0 => .inr (.inl rfl)
  | 1 => .inr (.inr (.inl rfl))
  | _ + 2 => .inr (.inr (.inr (.inl rfl)))
/-- an own class -/
def clsB (K : PySem.W.Frag) (C : Addr) : Bool :=
  PySem.W.plainGet K C Str.empty && PySem.W.hasDictIn K C && PySem.W.plainOver K C && decide (PySem.W.findIn K (.ref C) "__setattr__" = some (some (.builtin "object.__setattr__"))) &&
  decide (PySem.W.findIn K (.ref C) "__class__" = some (some (.builtin "object.__class__"))) && decide (PySem.W.specialIn K (.builtin "object.__class__") "__get__" = some (some (.builtin "getset_descriptor.__get__"))) &&
  decide (PySem.W.takesIn K (.builtin "object.__class__") = some true) && decide (PySem.W.mroIn K C (.type "object") = some true)
theorem clsB_ok {K : PySem.W.Frag} {C : Addr} (h : clsB K C = true) : TyC K C := by
  simp only [clsB, Bool.and_eq_true, decide_eq_true_eq] at h
  obtain ⟨⟨⟨⟨⟨⟨⟨h1, h2⟩, h3⟩, h4⟩, h5⟩, h6⟩, h7⟩, h8⟩ := h
  exact ⟨⟨h1, h2, h3, h4⟩, h5, h6, h7, h8⟩
def mkB (K : PySem.W.Frag) (C f : Addr) : Bool := PySem.W.makesIn K C && PySem.W.isFn K (.ref f) && PySem.W.keepIn K (.ref C)
theorem mkB_ok {K : PySem.W.Frag} {C f : Addr} (i : PySem.W.findIn K (.ref C) "__init__" = some (some (.ref f))) (h : mkB K C f = true) : Mk K C f := by
  simp only [mkB, Bool.and_eq_true] at h
  exact ⟨h.1.1, i, h.1.2, h.2⟩
def fnB (K : PySem.W.Frag) (f : Addr) : Bool := PySem.W.isFn K (.ref f) && PySem.W.keepIn K (.ref f)
theorem fnB_ok {K : PySem.W.Frag} {C f : Addr} {m : Str} (i : PySem.W.findIn K (.ref C) m = some (some (.ref f))) (h : fnB K f = true) : Meth K C m f := by
  simp only [fnB, Bool.and_eq_true] at h
  exact ⟨i, h.1, h.2⟩
/-- a property -/
def prB (K : PySem.W.Frag) (p : Addr) : Bool := decide (PySem.W.specialIn K (.ref p) "__get__" = some (some (.builtin "property.__get__"))) && decide (PySem.W.takesIn K (.ref p) = some true)
theorem prB_ok {K : PySem.W.Frag} {C p g : Addr} {f : Str} {rest : List Value} (i : PySem.W.findIn K (.ref C) f = some (some (.ref p))) (r : PySem.W.recIn K p "property" = some (.ref g :: rest)) (h : prB K p = true) : PropOf K C f p g := by
  simp only [prB, Bool.and_eq_true, decide_eq_true_eq] at h
  exact ⟨i, h.1, h.2, _, r⟩
/-- a class method -/
def cmB (K : PySem.W.Frag) (C g : Addr) (mc : Value) : Bool := PySem.W.readsIn K C mc && decide (PySem.W.specialIn K (.ref C) "__getattribute__" = some (some (.builtin "type.__getattribute__"))) && PySem.W.fnIn K g
theorem cmB_ok {K : PySem.W.Frag} {C p g : Addr} {mc : Value} {m : Str} {rest : List Value} (i : PySem.W.findCls K (.ref C) mc m = some (.get (.builtin "classmethod.__get__") (.ref p) .none (.ref C))) (r : PySem.W.recIn K p "classmethod" = some (.ref g :: rest)) (h : cmB K C g mc = true) :
    ClX.CRead K C mc ∧ ClX.CMet K C mc m p g := by
  simp only [cmB, Bool.and_eq_true, decide_eq_true_eq] at h
  exact ⟨⟨h.1.1, h.1.2⟩, ⟨i, ⟨_, r⟩, h.2⟩⟩
/-- no name of the module -/
def noN (K : PySem.W.Frag) (x : Str) : Bool := decide (PySem.W.nsIn K mainGlobals x = some none)
theorem noN_ok {K : PySem.W.Frag} {mg : Str → Option Value} {h : Heap} {x : Str} (X : K.In h) (G : h.Ns mainGlobals mg) (n : noN K x = true) : mg x = none := PySem.W.mg_none_of X G (of_decide_eq_true n)
theorem all_lt {n : Nat} {p : Nat → Bool} (h : (List.range n).all p = true) {i : Nat} (hi : i < n) : p i = true := List.all_eq_true.mp h i (List.mem_range.mpr hi)
/-- errors told by except clauses -/
def xcB (K : PySem.W.Frag) (cs : List Addr) (n : Nat) (tb : Nat → String) : Bool :=
  (List.range n).all (fun i => exB K (cs.getD i 0) (bM i) (bN i) && noB K (cs.getD i 0) (errF i) && decide (PySem.W.typeIn K (.ref (cs.getD i 0)) = some (.type "type")) && decide (PySem.W.kitOne K (.ref (cs.getD i 0)) (.type (tb i)) = some true)) &&
  (List.range n).all (fun i => (List.range n).all fun j => decide (PySem.W.exmOne K (.ref (cs.getD i 0)) (.ref (cs.getD j 0)) = some (decide (i = j))))
/-- the classes of items, one beside the other -/
def itB (K : PySem.W.Frag) (c : Cs) : Bool :=
  clsB K c.say && clsB K c.press && clsB K c.go && clsB K c.times && clsB K c.body &&
  [c.say, c.press, c.go, c.times, c.body].all (fun C => [c.say, c.press, c.go, c.times].all fun D => decide (PySem.W.kitOne K (.ref C) (.ref D) = some (decide (C = D)))) &&
  ["NoneType", "bool", "int", "str", "list", "tuple", "dict"].all (fun s => [c.say, c.press, c.go, c.times].all fun D => decide (PySem.W.kitOne K (.type s) (.ref D) = some false)) &&
  [(c.say, "command"), (c.press, "key"), (c.go, "mode"), (c.times, "number"), (c.times, "body"), (c.times, "_text"), (c.body, "_entries"), (c.body, "_depth"), (c.body, "_text")].all (fun q => decide (PySem.W.findIn K (.ref q.1) (Str.ofString q.2) = some none)) &&
  decide (c.say ≠ c.times ∧ c.press ≠ c.times ∧ c.go ≠ c.times) && decide (c.body ≠ c.say ∧ c.body ≠ c.press ∧ c.body ≠ c.go ∧ c.body ≠ c.times)
theorem itB_ok {K : PySem.W.Frag} {mg : Str → Option Value} {c : Cs} (h : itB K c = true) (g1 : mg "Say" = some (.ref c.say)) (g2 : mg "Press" = some (.ref c.press)) (g3 : mg "Go" = some (.ref c.go)) (g4 : mg "Times" = some (.ref c.times)) (g5 : mg "Body" = some (.ref c.body))
    (k1 : ∃ t, mg "DEPTH" = some (.int 2 t)) (k2 : ∃ t, mg "ITEMS" = some (.int 6 t)) (k3 : ∃ t, mg "NUMBER_limits" = some (.int 1000000000 t)) : BodT K mg c := by
  unfold itB at h
  rw [Bool.and_eq_true, Bool.and_eq_true, Bool.and_eq_true, Bool.and_eq_true, Bool.and_eq_true, Bool.and_eq_true, Bool.and_eq_true, Bool.and_eq_true, Bool.and_eq_true, decide_eq_true_eq, decide_eq_true_eq] at h
  obtain ⟨⟨⟨⟨⟨⟨⟨⟨⟨h1, h2⟩, h3⟩, h4⟩, h5⟩, h6⟩, h7⟩, h8⟩, h9⟩, h10⟩ := h
  rw [List.all_eq_true] at h6 h7 h8
  have n : ∀ C f, (C, f) ∈ [(c.say, "command"), (c.press, "key"), (c.go, "mode"), (c.times, "number"), (c.times, "body"), (c.times, "_text"), (c.body, "_entries"), (c.body, "_depth"), (c.body, "_text")] → NoAttr K C (Str.ofString f) := fun C f m => (show PySem.W.findIn K (.ref C) (Str.ofString f) = some none from of_decide_eq_true (h8 (C, f) m))
  refine ⟨clsB_ok h1, clsB_ok h2, clsB_ok h3, clsB_ok h4, clsB_ok h5, g1, g2, g3, g4, g5, n _ _ (by simp), n _ _ (by simp), n _ _ (by simp), n _ _ (by simp), n _ _ (by simp), n _ _ (by simp), n _ _ (by simp), n _ _ (by simp), n _ _ (by simp), fun C hC D hD => ?_, fun s hs D hD => ?_, h9.1, h9.2.1, h9.2.2, h10, k1, k2, k3⟩
  · have a := h6 C (by rcases hC with h | h | h | h | h <;> simp [h])
    rw [List.all_eq_true] at a
    exact of_decide_eq_true (a D (by rcases hD with h | h | h | h <;> simp [h]))
  · have a := h7 s hs
    rw [List.all_eq_true] at a
    exact of_decide_eq_true (a D (by rcases hD with h | h | h | h <;> simp [h]))
end Tp
end

section
set_option Elab.async false
set_option linter.all false
set_option maxRecDepth 100000
set_option maxHeartbeats 8000000
namespace KP
open PySem PySem.Spec PyProof.Rows L2 Pn Tp
theorem sh4 : Sh1 (inClass (top 2) 0) "index" := ⟨_, _, _, _, _, _, rfl, rfl, rfl⟩
theorem sh0 : Sh1 (inClass (top 1) 0) (errF 0) := ⟨_, _, _, _, _, _, rfl, rfl, rfl⟩
theorem sh1 : Sh1 (inClass (top 3) 0) (errF 1) := ⟨_, _, _, _, _, _, rfl, rfl, rfl⟩
theorem sh2 : Sh1 (inClass (top 5) 0) (errF 2) := ⟨_, _, _, _, _, _, rfl, rfl, rfl⟩
theorem sh3 : Sh1 (inClass (top 6) 0) (errF 3) := ⟨_, _, _, _, _, _, rfl, rfl, rfl⟩
def txtB (K : PySem.W.Frag) (cs : List Addr) (C : Addr) : Bool := exB K C (bM 0) (bN 0) && noB K C "index" && decide (PySem.W.typeIn K (.ref C) = some (.type "type")) && decide (PySem.W.kitOne K (.ref C) (.type "ValueError") = some true) && decide (PySem.W.exmOne K (.ref C) (.ref C) = some true) && (List.range 4).all (fun i => decide (PySem.W.exmOne K (.ref (cs.getD i 0)) (.ref C) = some false))
def apB (K : PySem.W.Frag) (c : Cs) : Bool := decide (c.say ≠ c.press) && decide (c.say ≠ c.go) && decide (c.press ≠ c.go) && [c.say, c.press, c.go, c.times, c.body].all (fun C => [c.say, c.press, c.go, c.times, c.body].all fun D => PySem.W.notFirst K C (.ref D)) && decide (PySem.W.kitOne K (.ref c.body) (.ref c.body) = some true)
theorem apB_ok {K : PySem.W.Frag} {c : Cs} (h : apB K c = true) : Ap K c := by
  simp only [apB, Bool.and_eq_true, decide_eq_true_eq] at h
  obtain ⟨⟨⟨⟨h1, h2⟩, h3⟩, h4⟩, h5⟩ := h
  refine ⟨h1, h2, h3, fun C hC D hD => ?_, h5⟩
  rw [List.all_eq_true] at h4
  have a := h4 C (by rcases hC with h | h | h | h | h <;> simp [h])
  rw [List.all_eq_true] at a
  exact a D (by rcases hD with h | h | h | h | h <;> simp [h])
def allB (K : PySem.W.Frag) (cs : List Addr) (c : Cs) (iS iP iG iT iB tS tP tG tT tB fD fEn gR pD pEn x4 : Addr) : Bool :=
  (xcB K cs 4 tbase && (itB K c && (mkB K c.say iS && (mkB K c.press iP && (mkB K c.go iG && (mkB K c.times iT && (mkB K c.body iB && (fnB K tS && (fnB K tP && (fnB K tG && (fnB K tT && (fnB K tB && (prB K pD && (prB K pEn && (txtB K cs x4 && (cmB K c.body gR (.type "type") && (apB K c && (["list", "int", "len", "range", "repr", "isinstance", "str", "bool", "max", "enumerate", "min", "ValueError"].all (fun x => noN K (Str.ofString x)) && ([iS, iP, iG, iT, iB, tS, tP, tG, tT, tB, fD, fEn, gR].all (fun f => PySem.W.keepIn K (.ref f)))))))))))))))))))))
/-- the data of a def that stands -/
def fdOf {K : PySem.W.Frag} {x qual : Str} {st : Stmt} {f : Addr} {fd : FuncData} (_ : Fun K x qual st f fd) : FuncData := fd
theorem all_mk {P : Program} {w : World} {K : PySem.W.Frag} {h : Heap} {mg : Str → Option Value} {fa : Addr} (X : K.In h) (G : h.Ns mainGlobals mg) (hfa : mg "law" = some (.ref fa)) {x0 x1 x2 x3 cSay cPress cGo cTimes cBody : Addr}
    {x4 : Addr} (a4 : PySem.W.nsIn K mainGlobals "InvalidText" = some (some (.ref x4)))
    (a0 : PySem.W.nsIn K mainGlobals "InvalidItem" = some (some (.ref x0)))
    (a1 : PySem.W.nsIn K mainGlobals "NotAnItem" = some (some (.ref x1)))
    (a2 : PySem.W.nsIn K mainGlobals "TooMany" = some (some (.ref x2)))
    (a3 : PySem.W.nsIn K mainGlobals "TooDeep" = some (some (.ref x3)))
    (bSay : PySem.W.nsIn K mainGlobals "Say" = some (some (.ref cSay)))
    (bPress : PySem.W.nsIn K mainGlobals "Press" = some (some (.ref cPress)))
    (bGo : PySem.W.nsIn K mainGlobals "Go" = some (some (.ref cGo)))
    (bTimes : PySem.W.nsIn K mainGlobals "Times" = some (some (.ref cTimes)))
    (bBody : PySem.W.nsIn K mainGlobals "Body" = some (some (.ref cBody)))
    {e0 : Addr} {oc_e0 dc_e0 pm_e0 cv_e0 ct_e0 : Value} {od_e0 an_e0 : Option Addr} {sl_e0 : Array (Option Value)} (i_e0 : PySem.W.findIn K (.ref x0) "__init__" = some (some (.ref e0))) (t_e0 : PySem.W.typeIn K (.ref e0) = some (.type "function")) (l_e0 : K.lookup e0 = some ⟨oc_e0, od_e0, .func (PySem.W.fnOf "__init__" "InvalidItem.__init__" (defArgs (inClass (top 1) 0)) (defBody (inClass (top 1) 0)) (defScope (inClass (top 1) 0)) .none .none dc_e0 pm_e0 an_e0 cv_e0 ct_e0), sl_e0⟩) (d_e0 : PySem.W.codeIn K cv_e0 "InvalidItem.__init__" = true)
    {e1 : Addr} {oc_e1 dc_e1 pm_e1 cv_e1 ct_e1 : Value} {od_e1 an_e1 : Option Addr} {sl_e1 : Array (Option Value)} (i_e1 : PySem.W.findIn K (.ref x1) "__init__" = some (some (.ref e1))) (t_e1 : PySem.W.typeIn K (.ref e1) = some (.type "function")) (l_e1 : K.lookup e1 = some ⟨oc_e1, od_e1, .func (PySem.W.fnOf "__init__" "NotAnItem.__init__" (defArgs (inClass (top 3) 0)) (defBody (inClass (top 3) 0)) (defScope (inClass (top 3) 0)) .none .none dc_e1 pm_e1 an_e1 cv_e1 ct_e1), sl_e1⟩) (d_e1 : PySem.W.codeIn K cv_e1 "NotAnItem.__init__" = true)
    {e2 : Addr} {oc_e2 dc_e2 pm_e2 cv_e2 ct_e2 : Value} {od_e2 an_e2 : Option Addr} {sl_e2 : Array (Option Value)} (i_e2 : PySem.W.findIn K (.ref x2) "__init__" = some (some (.ref e2))) (t_e2 : PySem.W.typeIn K (.ref e2) = some (.type "function")) (l_e2 : K.lookup e2 = some ⟨oc_e2, od_e2, .func (PySem.W.fnOf "__init__" "TooMany.__init__" (defArgs (inClass (top 5) 0)) (defBody (inClass (top 5) 0)) (defScope (inClass (top 5) 0)) .none .none dc_e2 pm_e2 an_e2 cv_e2 ct_e2), sl_e2⟩) (d_e2 : PySem.W.codeIn K cv_e2 "TooMany.__init__" = true)
    {e3 : Addr} {oc_e3 dc_e3 pm_e3 cv_e3 ct_e3 : Value} {od_e3 an_e3 : Option Addr} {sl_e3 : Array (Option Value)} (i_e3 : PySem.W.findIn K (.ref x3) "__init__" = some (some (.ref e3))) (t_e3 : PySem.W.typeIn K (.ref e3) = some (.type "function")) (l_e3 : K.lookup e3 = some ⟨oc_e3, od_e3, .func (PySem.W.fnOf "__init__" "TooDeep.__init__" (defArgs (inClass (top 6) 0)) (defBody (inClass (top 6) 0)) (defScope (inClass (top 6) 0)) .none .none dc_e3 pm_e3 an_e3 cv_e3 ct_e3), sl_e3⟩) (d_e3 : PySem.W.codeIn K cv_e3 "TooDeep.__init__" = true)
    {e4 : Addr} {oc_e4 dc_e4 pm_e4 cv_e4 ct_e4 : Value} {od_e4 an_e4 : Option Addr} {sl_e4 : Array (Option Value)} (i_e4 : PySem.W.findIn K (.ref x4) "__init__" = some (some (.ref e4))) (t_e4 : PySem.W.typeIn K (.ref e4) = some (.type "function")) (l_e4 : K.lookup e4 = some ⟨oc_e4, od_e4, .func (PySem.W.fnOf "__init__" "InvalidText.__init__" (defArgs (inClass (top 2) 0)) (defBody (inClass (top 2) 0)) (defScope (inClass (top 2) 0)) .none .none dc_e4 pm_e4 an_e4 cv_e4 ct_e4), sl_e4⟩) (d_e4 : PySem.W.codeIn K cv_e4 "InvalidText.__init__" = true)
    {iS : Addr} {oc_iS kv_iS dc_iS pm_iS cv_iS ct_iS : Value} {od_iS an_iS : Option Addr} {sl_iS : Array (Option Value)} (i_iS : PySem.W.findIn K (.ref cSay) "__init__" = some (some (.ref iS))) (l_iS : K.lookup iS = some ⟨oc_iS, od_iS, .func (PySem.W.fnOf "__init__" "Say.__init__" (defArgs sSayI) (defBody sSayI) (defScope sSayI) .none kv_iS dc_iS pm_iS an_iS cv_iS ct_iS), sl_iS⟩) (d_iS : PySem.W.codeIn K cv_iS "Say.__init__" = true)
    {iP : Addr} {oc_iP kv_iP dc_iP pm_iP cv_iP ct_iP : Value} {od_iP an_iP : Option Addr} {sl_iP : Array (Option Value)} (i_iP : PySem.W.findIn K (.ref cPress) "__init__" = some (some (.ref iP))) (l_iP : K.lookup iP = some ⟨oc_iP, od_iP, .func (PySem.W.fnOf "__init__" "Press.__init__" (defArgs sPressI) (defBody sPressI) (defScope sPressI) .none kv_iP dc_iP pm_iP an_iP cv_iP ct_iP), sl_iP⟩) (d_iP : PySem.W.codeIn K cv_iP "Press.__init__" = true)
    {iG : Addr} {oc_iG kv_iG dc_iG pm_iG cv_iG ct_iG : Value} {od_iG an_iG : Option Addr} {sl_iG : Array (Option Value)} (i_iG : PySem.W.findIn K (.ref cGo) "__init__" = some (some (.ref iG))) (l_iG : K.lookup iG = some ⟨oc_iG, od_iG, .func (PySem.W.fnOf "__init__" "Go.__init__" (defArgs sGoI) (defBody sGoI) (defScope sGoI) .none kv_iG dc_iG pm_iG an_iG cv_iG ct_iG), sl_iG⟩) (d_iG : PySem.W.codeIn K cv_iG "Go.__init__" = true)
    {iT : Addr} {oc_iT kv_iT dc_iT pm_iT cv_iT ct_iT : Value} {od_iT an_iT : Option Addr} {sl_iT : Array (Option Value)} (i_iT : PySem.W.findIn K (.ref cTimes) "__init__" = some (some (.ref iT))) (l_iT : K.lookup iT = some ⟨oc_iT, od_iT, .func (PySem.W.fnOf "__init__" "Times.__init__" (defArgs sTimesI) (defBody sTimesI) (defScope sTimesI) .none kv_iT dc_iT pm_iT an_iT cv_iT ct_iT), sl_iT⟩) (d_iT : PySem.W.codeIn K cv_iT "Times.__init__" = true)
    {iB : Addr} {oc_iB kv_iB dc_iB pm_iB cv_iB ct_iB : Value} {od_iB an_iB : Option Addr} {sl_iB : Array (Option Value)} (i_iB : PySem.W.findIn K (.ref cBody) "__init__" = some (some (.ref iB))) (l_iB : K.lookup iB = some ⟨oc_iB, od_iB, .func (PySem.W.fnOf "__init__" "Body.__init__" (defArgs sBodyI) (defBody sBodyI) (defScope sBodyI) .none kv_iB dc_iB pm_iB an_iB cv_iB ct_iB), sl_iB⟩) (d_iB : PySem.W.codeIn K cv_iB "Body.__init__" = true)
    {tS : Addr} {oc_tS kv_tS dc_tS pm_tS cv_tS ct_tS : Value} {od_tS an_tS : Option Addr} {sl_tS : Array (Option Value)} (i_tS : PySem.W.findIn K (.ref cSay) "text" = some (some (.ref tS))) (l_tS : K.lookup tS = some ⟨oc_tS, od_tS, .func (PySem.W.fnOf "text" "Say.text" (defArgs sSayT) (defBody sSayT) (defScope sSayT) .none kv_tS dc_tS pm_tS an_tS cv_tS ct_tS), sl_tS⟩) (d_tS : PySem.W.codeIn K cv_tS "Say.text" = true)
    {tP : Addr} {oc_tP kv_tP dc_tP pm_tP cv_tP ct_tP : Value} {od_tP an_tP : Option Addr} {sl_tP : Array (Option Value)} (i_tP : PySem.W.findIn K (.ref cPress) "text" = some (some (.ref tP))) (l_tP : K.lookup tP = some ⟨oc_tP, od_tP, .func (PySem.W.fnOf "text" "Press.text" (defArgs sPressT) (defBody sPressT) (defScope sPressT) .none kv_tP dc_tP pm_tP an_tP cv_tP ct_tP), sl_tP⟩) (d_tP : PySem.W.codeIn K cv_tP "Press.text" = true)
    {tG : Addr} {oc_tG kv_tG dc_tG pm_tG cv_tG ct_tG : Value} {od_tG an_tG : Option Addr} {sl_tG : Array (Option Value)} (i_tG : PySem.W.findIn K (.ref cGo) "text" = some (some (.ref tG))) (l_tG : K.lookup tG = some ⟨oc_tG, od_tG, .func (PySem.W.fnOf "text" "Go.text" (defArgs sGoT) (defBody sGoT) (defScope sGoT) .none kv_tG dc_tG pm_tG an_tG cv_tG ct_tG), sl_tG⟩) (d_tG : PySem.W.codeIn K cv_tG "Go.text" = true)
    {tT : Addr} {oc_tT kv_tT dc_tT pm_tT cv_tT ct_tT : Value} {od_tT an_tT : Option Addr} {sl_tT : Array (Option Value)} (i_tT : PySem.W.findIn K (.ref cTimes) "text" = some (some (.ref tT))) (l_tT : K.lookup tT = some ⟨oc_tT, od_tT, .func (PySem.W.fnOf "text" "Times.text" (defArgs sTimesT) (defBody sTimesT) (defScope sTimesT) .none kv_tT dc_tT pm_tT an_tT cv_tT ct_tT), sl_tT⟩) (d_tT : PySem.W.codeIn K cv_tT "Times.text" = true)
    {tB : Addr} {oc_tB kv_tB dc_tB pm_tB cv_tB ct_tB : Value} {od_tB an_tB : Option Addr} {sl_tB : Array (Option Value)} (i_tB : PySem.W.findIn K (.ref cBody) "text" = some (some (.ref tB))) (l_tB : K.lookup tB = some ⟨oc_tB, od_tB, .func (PySem.W.fnOf "text" "Body.text" (defArgs sBodyT) (defBody sBodyT) (defScope sBodyT) .none kv_tB dc_tB pm_tB an_tB cv_tB ct_tB), sl_tB⟩) (d_tB : PySem.W.codeIn K cv_tB "Body.text" = true)
    {fD pD : Addr} {r_fD : List Value} {oc_fD kv_fD dc_fD pm_fD cv_fD ct_fD : Value} {od_fD an_fD : Option Addr} {sl_fD : Array (Option Value)} (i_fD : PySem.W.findIn K (.ref cBody) "depth" = some (some (.ref pD))) (p_fD : PySem.W.recIn K pD "property" = some (.ref fD :: r_fD)) (l_fD : K.lookup fD = some ⟨oc_fD, od_fD, .func (PySem.W.fnOf "depth" "Body.depth" (defArgs sBodyD) (defBody sBodyD) (defScope sBodyD) .none kv_fD dc_fD pm_fD an_fD cv_fD ct_fD), sl_fD⟩) (d_fD : PySem.W.codeIn K cv_fD "Body.depth" = true)
    {fEn pEn : Addr} {r_fEn : List Value} {oc_fEn kv_fEn dc_fEn pm_fEn cv_fEn ct_fEn : Value} {od_fEn an_fEn : Option Addr} {sl_fEn : Array (Option Value)} (i_fEn : PySem.W.findIn K (.ref cBody) "entries" = some (some (.ref pEn))) (p_fEn : PySem.W.recIn K pEn "property" = some (.ref fEn :: r_fEn)) (l_fEn : K.lookup fEn = some ⟨oc_fEn, od_fEn, .func (PySem.W.fnOf "entries" "Body.entries" (defArgs sBodyEn) (defBody sBodyEn) (defScope sBodyEn) .none kv_fEn dc_fEn pm_fEn an_fEn cv_fEn ct_fEn), sl_fEn⟩) (d_fEn : PySem.W.codeIn K cv_fEn "Body.entries" = true)
    {gR pR : Addr} {r_gR : List Value} {oc_gR kv_gR dc_gR pm_gR cv_gR ct_gR : Value} {od_gR an_gR : Option Addr} {sl_gR : Array (Option Value)} (i_gR : PySem.W.findCls K (.ref cBody) (.type "type") "read" = some (.get (.builtin "classmethod.__get__") (.ref pR) .none (.ref cBody))) (p_gR : PySem.W.recIn K pR "classmethod" = some (.ref gR :: r_gR)) (l_gR : K.lookup gR = some ⟨oc_gR, od_gR, .func (PySem.W.fnOf "read" "Body.read" (defArgs sBodyR) (defBody sBodyR) (defScope sBodyR) .none kv_gR dc_gR pm_gR an_gR cv_gR ct_gR), sl_gR⟩) (d_gR : PySem.W.codeIn K cv_gR "Body.read" = true)
    {fW : Addr} {oc_fW kv_fW dc_fW pm_fW cv_fW ct_fW : Value} {od_fW an_fW : Option Addr} {sl_fW : Array (Option Value)} (g_fW : PySem.W.nsIn K mainGlobals "is_word" = some (some (.ref fW))) (l_fW : K.lookup fW = some ⟨oc_fW, od_fW, .func (PySem.W.fnOf "is_word" "is_word" (defArgs sIsWordV) (defBody sIsWordV) (defScope sIsWordV) .none kv_fW dc_fW pm_fW an_fW cv_fW ct_fW), sl_fW⟩) (d_fW : PySem.W.codeIn K cv_fW "is_word" = true) (k_fW : PySem.W.keepIn K (.ref fW) = true)
    {fN : Addr} {oc_fN kv_fN dc_fN pm_fN cv_fN ct_fN : Value} {od_fN an_fN : Option Addr} {sl_fN : Array (Option Value)} (g_fN : PySem.W.nsIn K mainGlobals "is_within" = some (some (.ref fN))) (l_fN : K.lookup fN = some ⟨oc_fN, od_fN, .func (PySem.W.fnOf "is_within" "is_within" (defArgs sWithin) (defBody sWithin) (defScope sWithin) .none kv_fN dc_fN pm_fN an_fN cv_fN ct_fN), sl_fN⟩) (d_fN : PySem.W.codeIn K cv_fN "is_within" = true) (k_fN : PySem.W.keepIn K (.ref fN) = true)
    {fH : Addr} {oc_fH kv_fH dc_fH pm_fH cv_fH ct_fH : Value} {od_fH an_fH : Option Addr} {sl_fH : Array (Option Value)} (g_fH : PySem.W.nsIn K mainGlobals "is_whole" = some (some (.ref fH))) (l_fH : K.lookup fH = some ⟨oc_fH, od_fH, .func (PySem.W.fnOf "is_whole" "is_whole" (defArgs sWhole) (defBody sWhole) (defScope sWhole) .none kv_fH dc_fH pm_fH an_fH cv_fH ct_fH), sl_fH⟩) (d_fH : PySem.W.codeIn K cv_fH "is_whole" = true) (k_fH : PySem.W.keepIn K (.ref fH) = true)
    {fO : Addr} {oc_fO kv_fO dc_fO pm_fO cv_fO ct_fO : Value} {od_fO an_fO : Option Addr} {sl_fO : Array (Option Value)} (g_fO : PySem.W.nsIn K mainGlobals "depth_of" = some (some (.ref fO))) (l_fO : K.lookup fO = some ⟨oc_fO, od_fO, .func (PySem.W.fnOf "depth_of" "depth_of" (defArgs sDepthOf) (defBody sDepthOf) (defScope sDepthOf) .none kv_fO dc_fO pm_fO an_fO cv_fO ct_fO), sl_fO⟩) (d_fO : PySem.W.codeIn K cv_fO "depth_of" = true) (k_fO : PySem.W.keepIn K (.ref fO) = true)
    {fC : Addr} {oc_fC kv_fC dc_fC pm_fC cv_fC ct_fC : Value} {od_fC an_fC : Option Addr} {sl_fC : Array (Option Value)} (g_fC : PySem.W.nsIn K mainGlobals "check_items" = some (some (.ref fC))) (l_fC : K.lookup fC = some ⟨oc_fC, od_fC, .func (PySem.W.fnOf "check_items" "check_items" (defArgs sCheck) (defBody sCheck) (defScope sCheck) .none kv_fC dc_fC pm_fC an_fC cv_fC ct_fC), sl_fC⟩) (d_fC : PySem.W.codeIn K cv_fC "check_items" = true) (k_fC : PySem.W.keepIn K (.ref fC) = true)
    {rA : Addr} {oc_rA kv_rA dc_rA pm_rA cv_rA ct_rA : Value} {od_rA an_rA : Option Addr} {sl_rA : Array (Option Value)} (g_rA : PySem.W.nsIn K mainGlobals "after_sign" = some (some (.ref rA))) (l_rA : K.lookup rA = some ⟨oc_rA, od_rA, .func (PySem.W.fnOf "after_sign" "after_sign" (defArgs sAfter) (defBody sAfter) (defScope sAfter) .none kv_rA dc_rA pm_rA an_rA cv_rA ct_rA), sl_rA⟩) (d_rA : PySem.W.codeIn K cv_rA "after_sign" = true) (k_rA : PySem.W.keepIn K (.ref rA) = true)
    {rF : Addr} {oc_rF kv_rF dc_rF pm_rF cv_rF ct_rF : Value} {od_rF an_rF : Option Addr} {sl_rF : Array (Option Value)} (g_rF : PySem.W.nsIn K mainGlobals "fault_in" = some (some (.ref rF))) (l_rF : K.lookup rF = some ⟨oc_rF, od_rF, .func (PySem.W.fnOf "fault_in" "fault_in" (defArgs sFault) (defBody sFault) (defScope sFault) .none kv_rF dc_rF pm_rF an_rF cv_rF ct_rF), sl_rF⟩) (d_rF : PySem.W.codeIn K cv_rF "fault_in" = true) (k_rF : PySem.W.keepIn K (.ref rF) = true)
    {rT : Addr} {oc_rT kv_rT dc_rT pm_rT cv_rT ct_rT : Value} {od_rT an_rT : Option Addr} {sl_rT : Array (Option Value)} (g_rT : PySem.W.nsIn K mainGlobals "tokens_of" = some (some (.ref rT))) (l_rT : K.lookup rT = some ⟨oc_rT, od_rT, .func (PySem.W.fnOf "tokens_of" "tokens_of" (defArgs sTokens) (defBody sTokens) (defScope sTokens) .none kv_rT dc_rT pm_rT an_rT cv_rT ct_rT), sl_rT⟩) (d_rT : PySem.W.codeIn K cv_rT "tokens_of" = true) (k_rT : PySem.W.keepIn K (.ref rT) = true)
    {rI : Addr} {oc_rI kv_rI dc_rI pm_rI cv_rI ct_rI : Value} {od_rI an_rI : Option Addr} {sl_rI : Array (Option Value)} (g_rI : PySem.W.nsIn K mainGlobals "item_of" = some (some (.ref rI))) (l_rI : K.lookup rI = some ⟨oc_rI, od_rI, .func (PySem.W.fnOf "item_of" "item_of" (defArgs sItemOf) (defBody sItemOf) (defScope sItemOf) .none kv_rI dc_rI pm_rI an_rI cv_rI ct_rI), sl_rI⟩) (d_rI : PySem.W.codeIn K cv_rI "item_of" = true) (k_rI : PySem.W.keepIn K (.ref rI) = true)
    {rO : Addr} {oc_rO kv_rO dc_rO pm_rO cv_rO ct_rO : Value} {od_rO an_rO : Option Addr} {sl_rO : Array (Option Value)} (g_rO : PySem.W.nsIn K mainGlobals "items_of" = some (some (.ref rO))) (l_rO : K.lookup rO = some ⟨oc_rO, od_rO, .func (PySem.W.fnOf "items_of" "items_of" (defArgs sItemsOf) (defBody sItemsOf) (defScope sItemsOf) .none kv_rO dc_rO pm_rO an_rO cv_rO ct_rO), sl_rO⟩) (d_rO : PySem.W.codeIn K cv_rO "items_of" = true) (k_rO : PySem.W.keepIn K (.ref rO) = true)
    {aPen : Addr} {oc_aPen kv_aPen dc_aPen pm_aPen cv_aPen ct_aPen : Value} {od_aPen an_aPen : Option Addr} {sl_aPen : Array (Option Value)} (g_aPen : PySem.W.nsIn K mainGlobals "_law_pen" = some (some (.ref aPen))) (l_aPen : K.lookup aPen = some ⟨oc_aPen, od_aPen, .func (PySem.W.fnOf "_law_pen" "_law_pen" (defArgs sPen) (defBody sPen) (defScope sPen) .none kv_aPen dc_aPen pm_aPen an_aPen cv_aPen ct_aPen), sl_aPen⟩) (d_aPen : PySem.W.codeIn K cv_aPen "_law_pen" = true) (k_aPen : PySem.W.keepIn K (.ref aPen) = true)
    {aDraw : Addr} {oc_aDraw kv_aDraw dc_aDraw pm_aDraw cv_aDraw ct_aDraw : Value} {od_aDraw an_aDraw : Option Addr} {sl_aDraw : Array (Option Value)} (g_aDraw : PySem.W.nsIn K mainGlobals "_law_draw" = some (some (.ref aDraw))) (l_aDraw : K.lookup aDraw = some ⟨oc_aDraw, od_aDraw, .func (PySem.W.fnOf "_law_draw" "_law_draw" (defArgs sDraw) (defBody sDraw) (defScope sDraw) .none kv_aDraw dc_aDraw pm_aDraw an_aDraw cv_aDraw ct_aDraw), sl_aDraw⟩) (d_aDraw : PySem.W.codeIn K cv_aDraw "_law_draw" = true) (k_aDraw : PySem.W.keepIn K (.ref aDraw) = true)
    {aPick : Addr} {oc_aPick kv_aPick dc_aPick pm_aPick cv_aPick ct_aPick : Value} {od_aPick an_aPick : Option Addr} {sl_aPick : Array (Option Value)} (g_aPick : PySem.W.nsIn K mainGlobals "_law_pick" = some (some (.ref aPick))) (l_aPick : K.lookup aPick = some ⟨oc_aPick, od_aPick, .func (PySem.W.fnOf "_law_pick" "_law_pick" (defArgs sPick) (defBody sPick) (defScope sPick) .none kv_aPick dc_aPick pm_aPick an_aPick cv_aPick ct_aPick), sl_aPick⟩) (d_aPick : PySem.W.codeIn K cv_aPick "_law_pick" = true) (k_aPick : PySem.W.keepIn K (.ref aPick) = true)
    {aWords : Addr} {oc_aWords kv_aWords dc_aWords pm_aWords cv_aWords ct_aWords : Value} {od_aWords an_aWords : Option Addr} {sl_aWords : Array (Option Value)} (g_aWords : PySem.W.nsIn K mainGlobals "_law_words" = some (some (.ref aWords))) (l_aWords : K.lookup aWords = some ⟨oc_aWords, od_aWords, .func (PySem.W.fnOf "_law_words" "_law_words" (defArgs sWords) (defBody sWords) (defScope sWords) .none kv_aWords dc_aWords pm_aWords an_aWords cv_aWords ct_aWords), sl_aWords⟩) (d_aWords : PySem.W.codeIn K cv_aWords "_law_words" = true) (k_aWords : PySem.W.keepIn K (.ref aWords) = true)
    {aAny : Addr} {oc_aAny kv_aAny dc_aAny pm_aAny cv_aAny ct_aAny : Value} {od_aAny an_aAny : Option Addr} {sl_aAny : Array (Option Value)} (g_aAny : PySem.W.nsIn K mainGlobals "_law_any_value" = some (some (.ref aAny))) (l_aAny : K.lookup aAny = some ⟨oc_aAny, od_aAny, .func (PySem.W.fnOf "_law_any_value" "_law_any_value" (defArgs sAny) (defBody sAny) (defScope sAny) .none kv_aAny dc_aAny pm_aAny an_aAny cv_aAny ct_aAny), sl_aAny⟩) (d_aAny : PySem.W.codeIn K cv_aAny "_law_any_value" = true) (k_aAny : PySem.W.keepIn K (.ref aAny) = true)
    {aNames : Addr} {oc_aNames kv_aNames dc_aNames pm_aNames cv_aNames ct_aNames : Value} {od_aNames an_aNames : Option Addr} {sl_aNames : Array (Option Value)} (g_aNames : PySem.W.nsIn K mainGlobals "_law_names" = some (some (.ref aNames))) (l_aNames : K.lookup aNames = some ⟨oc_aNames, od_aNames, .func (PySem.W.fnOf "_law_names" "_law_names" (defArgs sNames) (defBody sNames) (defScope sNames) .none kv_aNames dc_aNames pm_aNames an_aNames cv_aNames ct_aNames), sl_aNames⟩) (d_aNames : PySem.W.codeIn K cv_aNames "_law_names" = true) (k_aNames : PySem.W.keepIn K (.ref aNames) = true)
    {aItem : Addr} {oc_aItem kv_aItem dc_aItem pm_aItem cv_aItem ct_aItem : Value} {od_aItem an_aItem : Option Addr} {sl_aItem : Array (Option Value)} (g_aItem : PySem.W.nsIn K mainGlobals "_law_item" = some (some (.ref aItem))) (l_aItem : K.lookup aItem = some ⟨oc_aItem, od_aItem, .func (PySem.W.fnOf "_law_item" "_law_item" (defArgs sItem) (defBody sItem) (defScope sItem) .none kv_aItem dc_aItem pm_aItem an_aItem cv_aItem ct_aItem), sl_aItem⟩) (d_aItem : PySem.W.codeIn K cv_aItem "_law_item" = true) (k_aItem : PySem.W.keepIn K (.ref aItem) = true)
    {aItems : Addr} {oc_aItems kv_aItems dc_aItems pm_aItems cv_aItems ct_aItems : Value} {od_aItems an_aItems : Option Addr} {sl_aItems : Array (Option Value)} (g_aItems : PySem.W.nsIn K mainGlobals "_law_items" = some (some (.ref aItems))) (l_aItems : K.lookup aItems = some ⟨oc_aItems, od_aItems, .func (PySem.W.fnOf "_law_items" "_law_items" (defArgs sItems) (defBody sItems) (defScope sItems) .none kv_aItems dc_aItems pm_aItems an_aItems cv_aItems ct_aItems), sl_aItems⟩) (d_aItems : PySem.W.codeIn K cv_aItems "_law_items" = true) (k_aItems : PySem.W.keepIn K (.ref aItems) = true)
    {aPlain : Addr} {oc_aPlain kv_aPlain dc_aPlain pm_aPlain cv_aPlain ct_aPlain : Value} {od_aPlain an_aPlain : Option Addr} {sl_aPlain : Array (Option Value)} (g_aPlain : PySem.W.nsIn K mainGlobals "_law_plain" = some (some (.ref aPlain))) (l_aPlain : K.lookup aPlain = some ⟨oc_aPlain, od_aPlain, .func (PySem.W.fnOf "_law_plain" "_law_plain" (defArgs sPlain) (defBody sPlain) (defScope sPlain) .none kv_aPlain dc_aPlain pm_aPlain an_aPlain cv_aPlain ct_aPlain), sl_aPlain⟩) (d_aPlain : PySem.W.codeIn K cv_aPlain "_law_plain" = true) (k_aPlain : PySem.W.keepIn K (.ref aPlain) = true)
    {aDepth : Addr} {oc_aDepth kv_aDepth dc_aDepth pm_aDepth cv_aDepth ct_aDepth : Value} {od_aDepth an_aDepth : Option Addr} {sl_aDepth : Array (Option Value)} (g_aDepth : PySem.W.nsIn K mainGlobals "_law_depth" = some (some (.ref aDepth))) (l_aDepth : K.lookup aDepth = some ⟨oc_aDepth, od_aDepth, .func (PySem.W.fnOf "_law_depth" "_law_depth" (defArgs sDepth) (defBody sDepth) (defScope sDepth) .none kv_aDepth dc_aDepth pm_aDepth an_aDepth cv_aDepth ct_aDepth), sl_aDepth⟩) (d_aDepth : PySem.W.codeIn K cv_aDepth "_law_depth" = true) (k_aDepth : PySem.W.keepIn K (.ref aDepth) = true)
    {aText : Addr} {oc_aText kv_aText dc_aText pm_aText cv_aText ct_aText : Value} {od_aText an_aText : Option Addr} {sl_aText : Array (Option Value)} (g_aText : PySem.W.nsIn K mainGlobals "_law_text" = some (some (.ref aText))) (l_aText : K.lookup aText = some ⟨oc_aText, od_aText, .func (PySem.W.fnOf "_law_text" "_law_text" (defArgs sText) (defBody sText) (defScope sText) .none kv_aText dc_aText pm_aText an_aText cv_aText ct_aText), sl_aText⟩) (d_aText : PySem.W.codeIn K cv_aText "_law_text" = true) (k_aText : PySem.W.keepIn K (.ref aText) = true)
    {aNext : Addr} {oc_aNext kv_aNext dc_aNext pm_aNext cv_aNext ct_aNext : Value} {od_aNext an_aNext : Option Addr} {sl_aNext : Array (Option Value)} (g_aNext : PySem.W.nsIn K mainGlobals "_law_next" = some (some (.ref aNext))) (l_aNext : K.lookup aNext = some ⟨oc_aNext, od_aNext, .func (PySem.W.fnOf "_law_next" "_law_next" (defArgs sNext) (defBody sNext) (defScope sNext) .none kv_aNext dc_aNext pm_aNext an_aNext cv_aNext ct_aNext), sl_aNext⟩) (d_aNext : PySem.W.codeIn K cv_aNext "_law_next" = true) (k_aNext : PySem.W.keepIn K (.ref aNext) = true)
    {aWrong : Addr} {oc_aWrong kv_aWrong dc_aWrong pm_aWrong cv_aWrong ct_aWrong : Value} {od_aWrong an_aWrong : Option Addr} {sl_aWrong : Array (Option Value)} (g_aWrong : PySem.W.nsIn K mainGlobals "_law_wrong" = some (some (.ref aWrong))) (l_aWrong : K.lookup aWrong = some ⟨oc_aWrong, od_aWrong, .func (PySem.W.fnOf "_law_wrong" "_law_wrong" (defArgs sWrong) (defBody sWrong) (defScope sWrong) .none kv_aWrong dc_aWrong pm_aWrong an_aWrong cv_aWrong ct_aWrong), sl_aWrong⟩) (d_aWrong : PySem.W.codeIn K cv_aWrong "_law_wrong" = true) (k_aWrong : PySem.W.keepIn K (.ref aWrong) = true)
    {aParsed : Addr} {oc_aParsed kv_aParsed dc_aParsed pm_aParsed cv_aParsed ct_aParsed : Value} {od_aParsed an_aParsed : Option Addr} {sl_aParsed : Array (Option Value)} (g_aParsed : PySem.W.nsIn K mainGlobals "_law_parsed" = some (some (.ref aParsed))) (l_aParsed : K.lookup aParsed = some ⟨oc_aParsed, od_aParsed, .func (PySem.W.fnOf "_law_parsed" "_law_parsed" (defArgs sParsed) (defBody sParsed) (defScope sParsed) .none kv_aParsed dc_aParsed pm_aParsed an_aParsed cv_aParsed ct_aParsed), sl_aParsed⟩) (d_aParsed : PySem.W.codeIn K cv_aParsed "_law_parsed" = true) (k_aParsed : PySem.W.keepIn K (.ref aParsed) = true)
    {aFaults : Addr} {oc_aFaults kv_aFaults dc_aFaults pm_aFaults cv_aFaults ct_aFaults : Value} {od_aFaults an_aFaults : Option Addr} {sl_aFaults : Array (Option Value)} (g_aFaults : PySem.W.nsIn K mainGlobals "_law_faults" = some (some (.ref aFaults))) (l_aFaults : K.lookup aFaults = some ⟨oc_aFaults, od_aFaults, .func (PySem.W.fnOf "_law_faults" "_law_faults" (defArgs sFaults) (defBody sFaults) (defScope sFaults) .none kv_aFaults dc_aFaults pm_aFaults an_aFaults cv_aFaults ct_aFaults), sl_aFaults⟩) (d_aFaults : PySem.W.codeIn K cv_aFaults "_law_faults" = true) (k_aFaults : PySem.W.keepIn K (.ref aFaults) = true)
    {aTold : Addr} {oc_aTold kv_aTold dc_aTold pm_aTold cv_aTold ct_aTold : Value} {od_aTold an_aTold : Option Addr} {sl_aTold : Array (Option Value)} (g_aTold : PySem.W.nsIn K mainGlobals "_law_told" = some (some (.ref aTold))) (l_aTold : K.lookup aTold = some ⟨oc_aTold, od_aTold, .func (PySem.W.fnOf "_law_told" "_law_told" (defArgs sToldT) (defBody sToldT) (defScope sToldT) .none kv_aTold dc_aTold pm_aTold an_aTold cv_aTold ct_aTold), sl_aTold⟩) (d_aTold : PySem.W.codeIn K cv_aTold "_law_told" = true) (k_aTold : PySem.W.keepIn K (.ref aTold) = true)
    {aBent : Addr} {oc_aBent kv_aBent dc_aBent pm_aBent cv_aBent ct_aBent : Value} {od_aBent an_aBent : Option Addr} {sl_aBent : Array (Option Value)} (g_aBent : PySem.W.nsIn K mainGlobals "_law_bent" = some (some (.ref aBent))) (l_aBent : K.lookup aBent = some ⟨oc_aBent, od_aBent, .func (PySem.W.fnOf "_law_bent" "_law_bent" (defArgs sBent) (defBody sBent) (defScope sBent) .none kv_aBent dc_aBent pm_aBent an_aBent cv_aBent ct_aBent), sl_aBent⟩) (d_aBent : PySem.W.codeIn K cv_aBent "_law_bent" = true) (k_aBent : PySem.W.keepIn K (.ref aBent) = true)
    {aLaw : Addr} {oc_aLaw kv_aLaw dc_aLaw pm_aLaw cv_aLaw ct_aLaw : Value} {od_aLaw an_aLaw : Option Addr} {sl_aLaw : Array (Option Value)} (g_aLaw : PySem.W.nsIn K mainGlobals "law" = some (some (.ref aLaw))) (l_aLaw : K.lookup aLaw = some ⟨oc_aLaw, od_aLaw, .func (PySem.W.fnOf "law" "law" (defArgs sLaw) (defBody sLaw) (defScope sLaw) .none kv_aLaw dc_aLaw pm_aLaw an_aLaw cv_aLaw ct_aLaw), sl_aLaw⟩) (d_aLaw : PySem.W.codeIn K cv_aLaw "law" = true) (k_aLaw : PySem.W.keepIn K (.ref aLaw) = true)
    {z0 : Int} {tk0 : Tok} (q0 : PySem.W.nsIn K mainGlobals "DEPTH" = some (some (.int z0 tk0)))
    {z1 : Int} {tk1 : Tok} (q1 : PySem.W.nsIn K mainGlobals "ITEMS" = some (some (.int z1 tk1)))
    {z2 : Int} {tk2 : Tok} (q2 : PySem.W.nsIn K mainGlobals "NUMBER_limits" = some (some (.int z2 tk2)))
    {z3 : Int} {tk3 : Tok} (q3 : PySem.W.nsIn K mainGlobals "LETTERS" = some (some (.int z3 tk3)))
    {z4 : Int} {tk4 : Tok} (q4 : PySem.W.nsIn K mainGlobals "FIGURES" = some (some (.int z4 tk4)))
    {s0 : Str} {ts0 : Tok} (r0 : PySem.W.nsIn K mainGlobals "SMALL" = some (some (.str s0 ts0)))
    {s1 : Str} {ts1 : Tok} (r1 : PySem.W.nsIn K mainGlobals "DIGITS" = some (some (.str s1 ts1)))
    {s2 : Str} {ts2 : Tok} (r2 : PySem.W.nsIn K mainGlobals "OPEN" = some (some (.str s2 ts2)))
    {s3 : Str} {ts3 : Tok} (r3 : PySem.W.nsIn K mainGlobals "SPACE" = some (some (.str s3 ts3)))
    {s4 : Str} {ts4 : Tok} (r4 : PySem.W.nsIn K mainGlobals "SIGN" = some (some (.str s4 ts4)))
    {s5 : Str} {ts5 : Tok} (r5 : PySem.W.nsIn K mainGlobals "WORD" = some (some (.str s5 ts5)))
    {s6 : Str} {ts6 : Tok} (r6 : PySem.W.nsIn K mainGlobals "NUMBER_reading" = some (some (.str s6 ts6)))
    {s7 : Str} {ts7 : Tok} (r7 : PySem.W.nsIn K mainGlobals "CLOSED" = some (some (.str s7 ts7)))
    (vv : [z0, z1, z2, z3, z4] = [2, 6, 1000000000, 8, 10])
    (ss : ([s0, s1, s2, s3, s4, s5, s6, s7] : List Str) = ([("abcdefghijklmnopqrstuvwxyz" : Str), ("0123456789" : Str), (lastS 0 : Str), (lastS 1 : Str), (lastS 2 : Str), (lastS 3 : Str), (lastS 4 : Str), (lastS 5 : Str)] : List Str))
    (ck : allB K [x0, x1, x2, x3] ⟨cSay, cPress, cGo, cTimes, cBody⟩ iS iP iG iT iB tS tP tG tT tB fD fEn gR pD pEn x4 = true) :
    ∃ fd : FuncData, (∀ (s : Shared) (v : Value), BindsTo s fd ⟨[v], []⟩ [("_law_script", v)]) ∧ ∀ base : Heap, K.In base → base.Ns mainGlobals mg → FnG P w K mg base CX0 115 fa fd ["_law_script"] (spLaw K) := by
  unfold allB at ck
  rw [Bool.and_eq_true, Bool.and_eq_true, Bool.and_eq_true, Bool.and_eq_true, Bool.and_eq_true, Bool.and_eq_true, Bool.and_eq_true, Bool.and_eq_true, Bool.and_eq_true, Bool.and_eq_true, Bool.and_eq_true, Bool.and_eq_true, Bool.and_eq_true, Bool.and_eq_true, Bool.and_eq_true, Bool.and_eq_true, Bool.and_eq_true, Bool.and_eq_true] at ck
  obtain ⟨k0, k1, k2, k3, k4, k5, k6, k7, k8, k9, k10, k11, k12, k13, k14, k15, k16, k17, k18⟩ := ck
  rw [List.all_eq_true] at k17 k18
  have no : ∀ x, x ∈ ["list", "int", "len", "range", "repr", "isinstance", "str", "bool", "max", "enumerate", "min", "ValueError"] → mg (Str.ofString x) = none := fun x m => noN_ok X G (k17 x m)
  simp only [List.cons.injEq, and_true] at vv ss
  obtain ⟨rfl, rfl, rfl, rfl, rfl⟩ := vv
  obtain ⟨rfl, rfl, rfl, rfl, rfl, rfl, rfl, rfl⟩ := ss
  unfold xcB at k0
  rw [Bool.and_eq_true] at k0
  have k1a : ∀ i, i < 4 → Exk K (([x0, x1, x2, x3] : List Addr).getD i 0) (bM i) (bN i) ∧ noB K (([x0, x1, x2, x3] : List Addr).getD i 0) (errF i) = true ∧ PySem.W.typeIn K (.ref (([x0, x1, x2, x3] : List Addr).getD i 0)) = some (.type "type") ∧ PySem.W.kitOne K (.ref (([x0, x1, x2, x3] : List Addr).getD i 0)) (.type (tbase i)) = some true := fun i hi => by
    have a := all_lt k0.1 hi
    simp only [Bool.and_eq_true, decide_eq_true_eq] at a
    exact ⟨exB_ok a.1.1.1, a.1.1.2, a.1.2, a.2⟩
  have k1b : ∀ i j, i < 4 → j < 4 → PySem.W.exmOne K (.ref (([x0, x1, x2, x3] : List Addr).getD i 0)) (.ref (([x0, x1, x2, x3] : List Addr).getD j 0)) = some (decide (i = j)) := fun i j hi hj => of_decide_eq_true (all_lt (all_lt k0.2 hi) hj)
  have gx : ∀ j, j < 4 → mg (PySem.Str.ofString (tclass j)) = some (.ref (([x0, x1, x2, x3] : List Addr).getD j 0)) := fun j hj => by
    match j, hj with
    | 0, _ => exact PySem.W.mg_of X G a0
    | 1, _ => exact PySem.W.mg_of X G a1
    | 2, _ => exact PySem.W.mg_of X G a2
    | 3, _ => exact PySem.W.mg_of X G a3
  have R : ErrT K mg (fun j => ([x0, x1, x2, x3] : List Addr).getD j 0) tclass := ⟨gx, fun j hj => by
    match j, hj with
    | 0, _ => exact one_of (k1a 0 (by decide)).1 (field_of 0) (k1a 0 (by decide)).2.1 sh0 (Ini.mk1 i_e0 t_e0 l_e0 d_e0)
    | 1, _ => exact one_of (k1a 1 (by decide)).1 (field_of 1) (k1a 1 (by decide)).2.1 sh1 (Ini.mk1 i_e1 t_e1 l_e1 d_e1)
    | 2, _ => exact one_of (k1a 2 (by decide)).1 (field_of 2) (k1a 2 (by decide)).2.1 sh2 (Ini.mk1 i_e2 t_e2 l_e2 d_e2)
    | 3, _ => exact one_of (k1a 3 (by decide)).1 (field_of 3) (k1a 3 (by decide)).2.1 sh3 (Ini.mk1 i_e3 t_e3 l_e3 d_e3), fun j hj => (k1a j hj).2.2.1⟩
  have B : BodT K mg ⟨cSay, cPress, cGo, cTimes, cBody⟩ := itB_ok k1 (PySem.W.mg_of X G bSay) (PySem.W.mg_of X G bPress) (PySem.W.mg_of X G bGo) (PySem.W.mg_of X G bTimes) (PySem.W.mg_of X G bBody) ⟨_, PySem.W.mg_of X G q0⟩ ⟨_, PySem.W.mg_of X G q1⟩ ⟨_, PySem.W.mg_of X G q2⟩
  have FiS := fun_mk (st := sSayI) l_iS d_iS (k18 iS (by simp))
  have FiP := fun_mk (st := sPressI) l_iP d_iP (k18 iP (by simp))
  have FiG := fun_mk (st := sGoI) l_iG d_iG (k18 iG (by simp))
  have FiT := fun_mk (st := sTimesI) l_iT d_iT (k18 iT (by simp))
  have FiB := fun_mk (st := sBodyI) l_iB d_iB (k18 iB (by simp))
  have FtS := fun_mk (st := sSayT) l_tS d_tS (k18 tS (by simp))
  have FtP := fun_mk (st := sPressT) l_tP d_tP (k18 tP (by simp))
  have FtG := fun_mk (st := sGoT) l_tG d_tG (k18 tG (by simp))
  have FtT := fun_mk (st := sTimesT) l_tT d_tT (k18 tT (by simp))
  have FtB := fun_mk (st := sBodyT) l_tB d_tB (k18 tB (by simp))
  have FfD := fun_mk (st := sBodyD) l_fD d_fD (k18 fD (by simp))
  have FfEn := fun_mk (st := sBodyEn) l_fEn d_fEn (k18 fEn (by simp))
  have FgR := fun_mk (st := sBodyR) l_gR d_gR (k18 gR (by simp))
  have FfW := fun_mk (st := sIsWordV) l_fW d_fW k_fW
  have GfW : Fn K mg "is_word" fW := ⟨PySem.W.mg_of X G g_fW, k_fW⟩
  have FfN := fun_mk (st := sWithin) l_fN d_fN k_fN
  have GfN : Fn K mg "is_within" fN := ⟨PySem.W.mg_of X G g_fN, k_fN⟩
  have FfH := fun_mk (st := sWhole) l_fH d_fH k_fH
  have GfH : Fn K mg "is_whole" fH := ⟨PySem.W.mg_of X G g_fH, k_fH⟩
  have FfO := fun_mk (st := sDepthOf) l_fO d_fO k_fO
  have GfO : Fn K mg "depth_of" fO := ⟨PySem.W.mg_of X G g_fO, k_fO⟩
  have FfC := fun_mk (st := sCheck) l_fC d_fC k_fC
  have GfC : Fn K mg "check_items" fC := ⟨PySem.W.mg_of X G g_fC, k_fC⟩
  have FrA := fun_mk (st := sAfter) l_rA d_rA k_rA
  have GrA : Fn K mg "after_sign" rA := ⟨PySem.W.mg_of X G g_rA, k_rA⟩
  have FrF := fun_mk (st := sFault) l_rF d_rF k_rF
  have GrF : Fn K mg "fault_in" rF := ⟨PySem.W.mg_of X G g_rF, k_rF⟩
  have FrT := fun_mk (st := sTokens) l_rT d_rT k_rT
  have GrT : Fn K mg "tokens_of" rT := ⟨PySem.W.mg_of X G g_rT, k_rT⟩
  have FrI := fun_mk (st := sItemOf) l_rI d_rI k_rI
  have GrI : Fn K mg "item_of" rI := ⟨PySem.W.mg_of X G g_rI, k_rI⟩
  have FrO := fun_mk (st := sItemsOf) l_rO d_rO k_rO
  have GrO : Fn K mg "items_of" rO := ⟨PySem.W.mg_of X G g_rO, k_rO⟩
  have FaPen := fun_mk (st := sPen) l_aPen d_aPen k_aPen
  have GaPen : Fn K mg "_law_pen" aPen := ⟨PySem.W.mg_of X G g_aPen, k_aPen⟩
  have FaDraw := fun_mk (st := sDraw) l_aDraw d_aDraw k_aDraw
  have GaDraw : Fn K mg "_law_draw" aDraw := ⟨PySem.W.mg_of X G g_aDraw, k_aDraw⟩
  have FaPick := fun_mk (st := sPick) l_aPick d_aPick k_aPick
  have GaPick : Fn K mg "_law_pick" aPick := ⟨PySem.W.mg_of X G g_aPick, k_aPick⟩
  have FaWords := fun_mk (st := sWords) l_aWords d_aWords k_aWords
  have GaWords : Fn K mg "_law_words" aWords := ⟨PySem.W.mg_of X G g_aWords, k_aWords⟩
  have FaAny := fun_mk (st := sAny) l_aAny d_aAny k_aAny
  have GaAny : Fn K mg "_law_any_value" aAny := ⟨PySem.W.mg_of X G g_aAny, k_aAny⟩
  have FaNames := fun_mk (st := sNames) l_aNames d_aNames k_aNames
  have GaNames : Fn K mg "_law_names" aNames := ⟨PySem.W.mg_of X G g_aNames, k_aNames⟩
  have FaItem := fun_mk (st := sItem) l_aItem d_aItem k_aItem
  have GaItem : Fn K mg "_law_item" aItem := ⟨PySem.W.mg_of X G g_aItem, k_aItem⟩
  have FaItems := fun_mk (st := sItems) l_aItems d_aItems k_aItems
  have GaItems : Fn K mg "_law_items" aItems := ⟨PySem.W.mg_of X G g_aItems, k_aItems⟩
  have FaPlain := fun_mk (st := sPlain) l_aPlain d_aPlain k_aPlain
  have GaPlain : Fn K mg "_law_plain" aPlain := ⟨PySem.W.mg_of X G g_aPlain, k_aPlain⟩
  have FaDepth := fun_mk (st := sDepth) l_aDepth d_aDepth k_aDepth
  have GaDepth : Fn K mg "_law_depth" aDepth := ⟨PySem.W.mg_of X G g_aDepth, k_aDepth⟩
  have FaText := fun_mk (st := sText) l_aText d_aText k_aText
  have GaText : Fn K mg "_law_text" aText := ⟨PySem.W.mg_of X G g_aText, k_aText⟩
  have FaNext := fun_mk (st := sNext) l_aNext d_aNext k_aNext
  have GaNext : Fn K mg "_law_next" aNext := ⟨PySem.W.mg_of X G g_aNext, k_aNext⟩
  have FaWrong := fun_mk (st := sWrong) l_aWrong d_aWrong k_aWrong
  have GaWrong : Fn K mg "_law_wrong" aWrong := ⟨PySem.W.mg_of X G g_aWrong, k_aWrong⟩
  have FaParsed := fun_mk (st := sParsed) l_aParsed d_aParsed k_aParsed
  have GaParsed : Fn K mg "_law_parsed" aParsed := ⟨PySem.W.mg_of X G g_aParsed, k_aParsed⟩
  have FaFaults := fun_mk (st := sFaults) l_aFaults d_aFaults k_aFaults
  have GaFaults : Fn K mg "_law_faults" aFaults := ⟨PySem.W.mg_of X G g_aFaults, k_aFaults⟩
  have FaTold := fun_mk (st := sToldT) l_aTold d_aTold k_aTold
  have GaTold : Fn K mg "_law_told" aTold := ⟨PySem.W.mg_of X G g_aTold, k_aTold⟩
  have FaBent := fun_mk (st := sBent) l_aBent d_aBent k_aBent
  have GaBent : Fn K mg "_law_bent" aBent := ⟨PySem.W.mg_of X G g_aBent, k_aBent⟩
  have biS : Binds K _ ["self", "command"] [] := FiS.binds fun _ _ _ _ _ _ us hl => match us, hl with | [_, _], _ => rfl
  have biP : Binds K _ ["self", "key"] [] := FiP.binds fun _ _ _ _ _ _ us hl => match us, hl with | [_, _], _ => rfl
  have biG : Binds K _ ["self", "mode"] [] := FiG.binds fun _ _ _ _ _ _ us hl => match us, hl with | [_, _], _ => rfl
  have btS : Binds K _ ["self"] [] := FtS.binds fun _ _ _ _ _ _ us hl => match us, hl with | [_], _ => rfl
  have btP : Binds K _ ["self"] [] := FtP.binds fun _ _ _ _ _ _ us hl => match us, hl with | [_], _ => rfl
  have btG : Binds K _ ["self"] [] := FtG.binds fun _ _ _ _ _ _ us hl => match us, hl with | [_], _ => rfl
  have btT : Binds K _ ["self"] [] := FtT.binds fun _ _ _ _ _ _ us hl => match us, hl with | [_], _ => rfl
  have btB : Binds K _ ["self"] [] := FtB.binds fun _ _ _ _ _ _ us hl => match us, hl with | [_], _ => rfl
  have bfD : Binds K _ ["self"] [] := FfD.binds fun _ _ _ _ _ _ us hl => match us, hl with | [_], _ => rfl
  have bgR : Binds K _ ["cls", "text"] [] := FgR.binds fun _ _ _ _ _ _ us hl => match us, hl with | [_, _], _ => rfl
  have bfEn : Binds K _ ["self"] [] := FfEn.binds fun _ _ _ _ _ _ us hl => match us, hl with | [_], _ => rfl
  have bfW : Binds K _ ["value"] [] := FfW.binds fun _ _ _ _ _ _ us hl => match us, hl with | [_], _ => rfl
  have bfN : Binds K _ ["value", "least", "most"] [] := FfN.binds fun _ _ _ _ _ _ us hl => match us, hl with | [_, _, _], _ => rfl
  have bfH : Binds K _ ["value"] [] := FfH.binds fun _ _ _ _ _ _ us hl => match us, hl with | [_], _ => rfl
  have bfO : Binds K _ ["items"] [] := FfO.binds fun _ _ _ _ _ _ us hl => match us, hl with | [_], _ => rfl
  have bfC : Binds K _ ["items", "depth"] [] := FfC.binds fun _ _ _ _ _ _ us hl => match us, hl with | [_, _], _ => rfl
  have brA : Binds K _ ["sign", "last", "long", "depth"] [] := FrA.binds fun _ _ _ _ _ _ us hl => match us, hl with | [_, _, _, _], _ => rfl
  have brF : Binds K _ ["text"] [] := FrF.binds fun _ _ _ _ _ _ us hl => match us, hl with | [_], _ => rfl
  have brT : Binds K _ ["text"] [] := FrT.binds fun _ _ _ _ _ _ us hl => match us, hl with | [_], _ => rfl
  have brI : Binds K _ ["token"] [] := FrI.binds fun _ _ _ _ _ _ us hl => match us, hl with | [_], _ => rfl
  have brO : Binds K _ ["text"] [] := FrO.binds fun _ _ _ _ _ _ us hl => match us, hl with | [_], _ => rfl
  have baPen : Binds K _ ["_law_script"] [] := FaPen.binds fun _ _ _ _ _ _ us hl => match us, hl with | [_], _ => rfl
  have baDraw : Binds K _ ["_law_pen_here", "_law_size"] [] := FaDraw.binds fun _ _ _ _ _ _ us hl => match us, hl with | [_, _], _ => rfl
  have baPick : Binds K _ ["_law_pen_here", "_law_items_here"] [] := FaPick.binds fun _ _ _ _ _ _ us hl => match us, hl with | [_, _], _ => rfl
  have baWords : Binds K _ ["_law_pen_here", "_law_count"] [] := FaWords.binds fun _ _ _ _ _ _ us hl => match us, hl with | [_, _], _ => rfl
  have baAny : Binds K _ ["_law_pen_here"] [] := FaAny.binds fun _ _ _ _ _ _ us hl => match us, hl with | [_], _ => rfl
  have baNames : Binds K _ ["_law_pen_here"] [] := FaNames.binds fun _ _ _ _ _ _ us hl => match us, hl with | [_], _ => rfl
  have baItem : Binds K _ ["_law_pen_here", "_law_names_here", "_law_deep"] [] := FaItem.binds fun _ _ _ _ _ _ us hl => match us, hl with | [_, _, _], _ => rfl
  have baItems : Binds K _ ["_law_pen_here", "_law_names_here", "_law_deep", "_law_topmost"] [] := FaItems.binds fun _ _ _ _ _ _ us hl => match us, hl with | [_, _, _, _], _ => rfl
  have baPlain : Binds K _ ["_law_item_here"] [] := FaPlain.binds fun _ _ _ _ _ _ us hl => match us, hl with | [_], _ => rfl
  have baDepth : Binds K _ ["_law_items_here"] [] := FaDepth.binds fun _ _ _ _ _ _ us hl => match us, hl with | [_], _ => rfl
  have baText : Binds K _ ["_law_items_here"] [] := FaText.binds fun _ _ _ _ _ _ us hl => match us, hl with | [_], _ => rfl
  have baNext : Binds K _ ["_law_sort", "_law_size", "_law_deep", "_law_sign"] [] := FaNext.binds fun _ _ _ _ _ _ us hl => match us, hl with | [_, _, _, _], _ => rfl
  have baWrong : Binds K _ ["_law_text_here"] [] := FaWrong.binds fun _ _ _ _ _ _ us hl => match us, hl with | [_], _ => rfl
  have baParsed : Binds K _ ["_law_text_here"] [] := FaParsed.binds fun _ _ _ _ _ _ us hl => match us, hl with | [_], _ => rfl
  have baFaults : Binds K _ ["_law_items_here"] [] := FaFaults.binds fun _ _ _ _ _ _ us hl => match us, hl with | [_], _ => rfl
  have baTold : Binds K _ ["_law_text_here"] [] := FaTold.binds fun _ _ _ _ _ _ us hl => match us, hl with | [_], _ => rfl
  have baBent : Binds K _ ["_law_pen_here", "_law_text_here"] [] := FaBent.binds fun _ _ _ _ _ _ us hl => match us, hl with | [_, _], _ => rfl
  obtain ⟨roR, moR⟩ := cmB_ok i_gR p_gR k15
  have M : MetT K ⟨cSay, cPress, cGo, cTimes, cBody⟩ tS tP tG tT tB := ⟨fnB_ok i_tS k7, fnB_ok i_tP k8, fnB_ok i_tG k9, fnB_ok i_tT k10, fnB_ok i_tB k11⟩
  have TX : TexT K tS tP tG tT tB _ _ _ _ _ := ⟨FtS, FtP, FtG, FtT, FtB, btS, btP, btG, btT, btB⟩
  have Z : MakT K mg ⟨cSay, cPress, cGo, cTimes, cBody⟩ fD pD fO fC tS tP tG tT tB _ _ _ _ _ _ _ _ := ⟨FfD, bfD, prB_ok i_fD p_fD k12, FfO, bfO, GfO, FfC, bfC, GfC, M, TX⟩
  have Y : InsT K mg ⟨cSay, cPress, cGo, cTimes, cBody⟩ iS iP iG iT iB fW fN fH _ _ _ _ _ _ _ _ := ⟨FiS, FiP, FiG, FiT, FiB, biS, biP, biG, mkB_ok i_iS k2, mkB_ok i_iP k3, mkB_ok i_iG k4, mkB_ok i_iT k5, mkB_ok i_iB k6, FfW, bfW, GfW, FfN, bfN, GfN, FfH, bfH, GfH⟩
  have T3 : Blt3 mg := ⟨no "max" (by simp), no "enumerate" (by simp), no "isinstance" (by simp), no "len" (by simp)⟩
  have T1 : Blt mg := ⟨no "list" (by simp), no "int" (by simp), no "len" (by simp), no "range" (by simp), no "repr" (by simp), no "isinstance" (by simp)⟩
  have U : Blt2 mg := ⟨no "str" (by simp), no "int" (by simp), no "bool" (by simp), no "max" (by simp)⟩
  have RD : RdT mg := ⟨⟨_, PySem.W.mg_of X G r0⟩, ⟨_, PySem.W.mg_of X G r1⟩, ⟨_, PySem.W.mg_of X G q3⟩, ⟨_, PySem.W.mg_of X G q4⟩, ⟨_, PySem.W.mg_of X G r2⟩, ⟨_, PySem.W.mg_of X G r3⟩, ⟨_, PySem.W.mg_of X G r4⟩, ⟨_, PySem.W.mg_of X G r5⟩, ⟨_, PySem.W.mg_of X G r6⟩, ⟨_, PySem.W.mg_of X G r7⟩, no "enumerate" (by simp), no "len" (by simp)⟩
  have NN : RedT K mg rA rF rT rI _ _ _ _ := ⟨FrA, brA, GrA, FrF, brF, GrF, FrT, brT, GrT, FrI, brI, GrI⟩
  let W : Wd1 K mg := ⟨⟨cSay, cPress, cGo, cTimes, cBody⟩, fun j => ([x0, x1, x2, x3] : List Addr).getD j 0, x4, fD, pD, fO, fC, tS, tP, tG, tT, tB, iS, iP, iG, iT, iB, fW, fN, fH, gR, pR, pEn, fEn, rA, rF, rT, rI, rO, fdOf (FfD), fdOf (FfO), fdOf (FfC), fdOf (FtS), fdOf (FtP), fdOf (FtG), fdOf (FtT), fdOf (FtB), fdOf (FiS), fdOf (FiP), fdOf (FiG), fdOf (FiT), fdOf (FiB), fdOf (FfW), fdOf (FfN), fdOf (FfH), fdOf (FgR), fdOf (FfEn), fdOf (FrA), fdOf (FrF), fdOf (FrT), fdOf (FrI), fdOf (FrO), .type "type", aPen, aDraw, aPick, aWords, aAny, aNames, aItem, aItems, aPlain, aDepth, aText, aNext, aWrong, aParsed, aFaults, aTold, aBent, fdOf (FaPen), fdOf (FaDraw), fdOf (FaPick), fdOf (FaWords), fdOf (FaAny), fdOf (FaNames), fdOf (FaItem), fdOf (FaItems), fdOf (FaPlain), fdOf (FaDepth), fdOf (FaText), fdOf (FaNext), fdOf (FaWrong), fdOf (FaParsed), fdOf (FaFaults), fdOf (FaTold), fdOf (FaBent)⟩
  unfold txtB at k14
  simp only [Bool.and_eq_true, decide_eq_true_eq, List.all_eq_true] at k14
  obtain ⟨⟨⟨⟨⟨u1, u2⟩, u3⟩, u4⟩, u5⟩, u6⟩ := k14
  have nof : ∀ {C : Addr} {x : Str}, noB K C x = true → PySem.W.findIn K (.ref C) x = some none := fun n => by simp only [noB, Bool.and_eq_true, decide_eq_true_eq] at n; exact n.1
  have IT : InvT K mg x4 := ⟨PySem.W.mg_of X G a4, one_of (exB_ok u1) (field_of 1) u2 sh4 (Ini.mk1 i_e4 t_e4 l_e4 d_e4), u3⟩
  have XX : TxT K mg (fun j => ([x0, x1, x2, x3] : List Addr).getD j 0) x4 := ⟨gx, fun j hj => ⟨_, _, (k1a j hj).1⟩, fun j hj => by
    have n := nof (k1a j hj).2.1
    match j, hj with
    | 0, _ => exact n
    | 1, _ => exact n
    | 2, _ => exact n
    | 3, _ => exact n, k1b, PySem.W.mg_of X G a4, ⟨_, _, exB_ok u1⟩, nof u2, u4, u5, fun i hi => u6 i (List.mem_range.mpr hi), no "ValueError" (by simp)⟩
  have WF : Wf K mg W := ⟨T3, T1, U, no "min" (by simp), RD, B, apB_ok k16, R, Z, Y, NN, FrO, brO, GrO, IT, XX, FgR, ⟨roR, moR, bgR⟩, FfEn, bfEn, prB_ok i_fEn p_fEn k13, ⟨FaPen, baPen, GaPen⟩, ⟨FaDraw, baDraw, GaDraw⟩, ⟨FaPick, baPick, GaPick⟩, ⟨FaWords, baWords, GaWords⟩, ⟨FaAny, baAny, GaAny⟩, ⟨FaNames, baNames, GaNames⟩, ⟨FaItem, baItem, GaItem⟩, ⟨FaItems, baItems, GaItems⟩, ⟨FaPlain, baPlain, GaPlain⟩, ⟨FaDepth, baDepth, GaDepth⟩, ⟨FaText, baText, GaText⟩, ⟨FaNext, baNext, GaNext⟩, ⟨FaWrong, baWrong, GaWrong⟩, ⟨FaParsed, baParsed, GaParsed⟩, ⟨FaFaults, baFaults, GaFaults⟩, ⟨FaTold, baTold, GaTold⟩, ⟨FaBent, baBent, GaBent⟩⟩
  have e := hfa.symm.trans (PySem.W.mg_of X G g_aLaw)
  cases e
  have FL := fun_mk (st := sLaw) l_aLaw d_aLaw k_aLaw
  exact ⟨fdOf FL, fun s v => .of_eq rfl, fun base _ _ => ok_law WF FL⟩
end KP
end

section
set_option Elab.async false
set_option linter.all false
set_option maxRecDepth 100000
set_option maxHeartbeats 8000000
open PySem PySem.W PyProof.Rows in
set_option maxRecDepth 100000 in
set_option maxHeartbeats 0 in
theorem PySem.Challenge.cw_onestroke_k05_whole_bent_body_texts_holds : PySem.Challenge.rw_onestroke_k05_whole_bent_body_texts.Holds := by
  w_on; o_law; k_head; (case hw => w_witness2)
  k_fill
  refine L2.walkG (l := PySem.Challenge.rw_onestroke_k05_whole_bent_body_texts) (n := 63) (k := 115) (x := "_law_script") (sp := KP.spLaw) rfl (by decide) rfl ⟨rfl, by decide, by decide⟩ (fun w h Y => PySem.W.kIn_of Y) ?hkF (fun K H a ns hl hS => ⟨a, ns, rfl, hS, hl, fun _ => rfl⟩)
  case hkF =>
    intro w mg fa h KX G hmg
    refine' KP.all_mk KX G hmg ?hk_a4 ?hk_a0 ?hk_a1 ?hk_a2 ?hk_a3 ?hk_bSay ?hk_bPress ?hk_bGo ?hk_bTimes ?hk_bBody ?hk_i_e0 ?hk_t_e0 ?hk_l_e0 ?hk_d_e0 ?hk_i_e1 ?hk_t_e1 ?hk_l_e1 ?hk_d_e1 ?hk_i_e2 ?hk_t_e2 ?hk_l_e2 ?hk_d_e2 ?hk_i_e3 ?hk_t_e3 ?hk_l_e3 ?hk_d_e3 ?hk_i_e4 ?hk_t_e4 ?hk_l_e4 ?hk_d_e4 ?hk_i_iS ?hk_l_iS ?hk_d_iS ?hk_i_iP ?hk_l_iP ?hk_d_iP ?hk_i_iG ?hk_l_iG ?hk_d_iG ?hk_i_iT ?hk_l_iT ?hk_d_iT ?hk_i_iB ?hk_l_iB ?hk_d_iB ?hk_i_tS ?hk_l_tS ?hk_d_tS ?hk_i_tP ?hk_l_tP ?hk_d_tP ?hk_i_tG ?hk_l_tG ?hk_d_tG ?hk_i_tT ?hk_l_tT ?hk_d_tT ?hk_i_tB ?hk_l_tB ?hk_d_tB ?hk_i_fD ?hk_p_fD ?hk_l_fD ?hk_d_fD ?hk_i_fEn ?hk_p_fEn ?hk_l_fEn ?hk_d_fEn ?hk_i_gR ?hk_p_gR ?hk_l_gR ?hk_d_gR ?hk_g_fW ?hk_l_fW ?hk_d_fW ?hk_k_fW ?hk_g_fN ?hk_l_fN ?hk_d_fN ?hk_k_fN ?hk_g_fH ?hk_l_fH ?hk_d_fH ?hk_k_fH ?hk_g_fO ?hk_l_fO ?hk_d_fO ?hk_k_fO ?hk_g_fC ?hk_l_fC ?hk_d_fC ?hk_k_fC ?hk_g_rA ?hk_l_rA ?hk_d_rA ?hk_k_rA ?hk_g_rF ?hk_l_rF ?hk_d_rF ?hk_k_rF ?hk_g_rT ?hk_l_rT ?hk_d_rT ?hk_k_rT ?hk_g_rI ?hk_l_rI ?hk_d_rI ?hk_k_rI ?hk_g_rO ?hk_l_rO ?hk_d_rO ?hk_k_rO ?hk_g_aPen ?hk_l_aPen ?hk_d_aPen ?hk_k_aPen ?hk_g_aDraw ?hk_l_aDraw ?hk_d_aDraw ?hk_k_aDraw ?hk_g_aPick ?hk_l_aPick ?hk_d_aPick ?hk_k_aPick ?hk_g_aWords ?hk_l_aWords ?hk_d_aWords ?hk_k_aWords ?hk_g_aAny ?hk_l_aAny ?hk_d_aAny ?hk_k_aAny ?hk_g_aNames ?hk_l_aNames ?hk_d_aNames ?hk_k_aNames ?hk_g_aItem ?hk_l_aItem ?hk_d_aItem ?hk_k_aItem ?hk_g_aItems ?hk_l_aItems ?hk_d_aItems ?hk_k_aItems ?hk_g_aPlain ?hk_l_aPlain ?hk_d_aPlain ?hk_k_aPlain ?hk_g_aDepth ?hk_l_aDepth ?hk_d_aDepth ?hk_k_aDepth ?hk_g_aText ?hk_l_aText ?hk_d_aText ?hk_k_aText ?hk_g_aNext ?hk_l_aNext ?hk_d_aNext ?hk_k_aNext ?hk_g_aWrong ?hk_l_aWrong ?hk_d_aWrong ?hk_k_aWrong ?hk_g_aParsed ?hk_l_aParsed ?hk_d_aParsed ?hk_k_aParsed ?hk_g_aFaults ?hk_l_aFaults ?hk_d_aFaults ?hk_k_aFaults ?hk_g_aTold ?hk_l_aTold ?hk_d_aTold ?hk_k_aTold ?hk_g_aBent ?hk_l_aBent ?hk_d_aBent ?hk_k_aBent ?hk_g_aLaw ?hk_l_aLaw ?hk_d_aLaw ?hk_k_aLaw ?hk_q0 ?hk_q1 ?hk_q2 ?hk_q3 ?hk_q4 ?hk_r0 ?hk_r1 ?hk_r2 ?hk_r3 ?hk_r4 ?hk_r5 ?hk_r6 ?hk_r7 ?hk_vv ?hk_ss ?hk_ck
    (case hk_a4 => k_is)
    (case hk_a0 => k_is)
    (case hk_a1 => k_is)
    (case hk_a2 => k_is)
    (case hk_a3 => k_is)
    (case hk_bSay => k_is)
    (case hk_bPress => k_is)
    (case hk_bGo => k_is)
    (case hk_bTimes => k_is)
    (case hk_bBody => k_is)
    (case hk_i_e0 => k_is)
    (case hk_t_e0 => k_is)
    (case hk_l_e0 => k_is)
    (case hk_d_e0 => k_is)
    (case hk_i_e1 => k_is)
    (case hk_t_e1 => k_is)
    (case hk_l_e1 => k_is)
    (case hk_d_e1 => k_is)
    (case hk_i_e2 => k_is)
    (case hk_t_e2 => k_is)
    (case hk_l_e2 => k_is)
    (case hk_d_e2 => k_is)
    (case hk_i_e3 => k_is)
    (case hk_t_e3 => k_is)
    (case hk_l_e3 => k_is)
    (case hk_d_e3 => k_is)
    (case hk_i_e4 => k_is)
    (case hk_t_e4 => k_is)
    (case hk_l_e4 => k_is)
    (case hk_d_e4 => k_is)
    (case hk_i_iS => k_is)
    (case hk_l_iS => k_is)
    (case hk_d_iS => k_is)
    (case hk_i_iP => k_is)
    (case hk_l_iP => k_is)
    (case hk_d_iP => k_is)
    (case hk_i_iG => k_is)
    (case hk_l_iG => k_is)
    (case hk_d_iG => k_is)
    (case hk_i_iT => k_is)
    (case hk_l_iT => k_is)
    (case hk_d_iT => k_is)
    (case hk_i_iB => k_is)
    (case hk_l_iB => k_is)
    (case hk_d_iB => k_is)
    (case hk_i_tS => k_is)
    (case hk_l_tS => k_is)
    (case hk_d_tS => k_is)
    (case hk_i_tP => k_is)
    (case hk_l_tP => k_is)
    (case hk_d_tP => k_is)
    (case hk_i_tG => k_is)
    (case hk_l_tG => k_is)
    (case hk_d_tG => k_is)
    (case hk_i_tT => k_is)
    (case hk_l_tT => k_is)
    (case hk_d_tT => k_is)
    (case hk_i_tB => k_is)
    (case hk_l_tB => k_is)
    (case hk_d_tB => k_is)
    (case hk_i_fD => k_is)
    (case hk_p_fD => k_is)
    (case hk_l_fD => k_is)
    (case hk_d_fD => k_is)
    (case hk_i_fEn => k_is)
    (case hk_p_fEn => k_is)
    (case hk_l_fEn => k_is)
    (case hk_d_fEn => k_is)
    (case hk_i_gR => k_is)
    (case hk_p_gR => k_is)
    (case hk_l_gR => k_is)
    (case hk_d_gR => k_is)
    (case hk_g_fW => k_is)
    (case hk_l_fW => k_is)
    (case hk_d_fW => k_is)
    (case hk_k_fW => k_is)
    (case hk_g_fN => k_is)
    (case hk_l_fN => k_is)
    (case hk_d_fN => k_is)
    (case hk_k_fN => k_is)
    (case hk_g_fH => k_is)
    (case hk_l_fH => k_is)
    (case hk_d_fH => k_is)
    (case hk_k_fH => k_is)
    (case hk_g_fO => k_is)
    (case hk_l_fO => k_is)
    (case hk_d_fO => k_is)
    (case hk_k_fO => k_is)
    (case hk_g_fC => k_is)
    (case hk_l_fC => k_is)
    (case hk_d_fC => k_is)
    (case hk_k_fC => k_is)
    (case hk_g_rA => k_is)
    (case hk_l_rA => k_is)
    (case hk_d_rA => k_is)
    (case hk_k_rA => k_is)
    (case hk_g_rF => k_is)
    (case hk_l_rF => k_is)
    (case hk_d_rF => k_is)
    (case hk_k_rF => k_is)
    (case hk_g_rT => k_is)
    (case hk_l_rT => k_is)
    (case hk_d_rT => k_is)
    (case hk_k_rT => k_is)
    (case hk_g_rI => k_is)
    (case hk_l_rI => k_is)
    (case hk_d_rI => k_is)
    (case hk_k_rI => k_is)
    (case hk_g_rO => k_is)
    (case hk_l_rO => k_is)
    (case hk_d_rO => k_is)
    (case hk_k_rO => k_is)
    (case hk_g_aPen => k_is)
    (case hk_l_aPen => k_is)
    (case hk_d_aPen => k_is)
    (case hk_k_aPen => k_is)
    (case hk_g_aDraw => k_is)
    (case hk_l_aDraw => k_is)
    (case hk_d_aDraw => k_is)
    (case hk_k_aDraw => k_is)
    (case hk_g_aPick => k_is)
    (case hk_l_aPick => k_is)
    (case hk_d_aPick => k_is)
    (case hk_k_aPick => k_is)
    (case hk_g_aWords => k_is)
    (case hk_l_aWords => k_is)
    (case hk_d_aWords => k_is)
    (case hk_k_aWords => k_is)
    (case hk_g_aAny => k_is)
    (case hk_l_aAny => k_is)
    (case hk_d_aAny => k_is)
    (case hk_k_aAny => k_is)
    (case hk_g_aNames => k_is)
    (case hk_l_aNames => k_is)
    (case hk_d_aNames => k_is)
    (case hk_k_aNames => k_is)
    (case hk_g_aItem => k_is)
    (case hk_l_aItem => k_is)
    (case hk_d_aItem => k_is)
    (case hk_k_aItem => k_is)
    (case hk_g_aItems => k_is)
    (case hk_l_aItems => k_is)
    (case hk_d_aItems => k_is)
    (case hk_k_aItems => k_is)
    (case hk_g_aPlain => k_is)
    (case hk_l_aPlain => k_is)
    (case hk_d_aPlain => k_is)
    (case hk_k_aPlain => k_is)
    (case hk_g_aDepth => k_is)
    (case hk_l_aDepth => k_is)
    (case hk_d_aDepth => k_is)
    (case hk_k_aDepth => k_is)
    (case hk_g_aText => k_is)
    (case hk_l_aText => k_is)
    (case hk_d_aText => k_is)
    (case hk_k_aText => k_is)
    (case hk_g_aNext => k_is)
    (case hk_l_aNext => k_is)
    (case hk_d_aNext => k_is)
    (case hk_k_aNext => k_is)
    (case hk_g_aWrong => k_is)
    (case hk_l_aWrong => k_is)
    (case hk_d_aWrong => k_is)
    (case hk_k_aWrong => k_is)
    (case hk_g_aParsed => k_is)
    (case hk_l_aParsed => k_is)
    (case hk_d_aParsed => k_is)
    (case hk_k_aParsed => k_is)
    (case hk_g_aFaults => k_is)
    (case hk_l_aFaults => k_is)
    (case hk_d_aFaults => k_is)
    (case hk_k_aFaults => k_is)
    (case hk_g_aTold => k_is)
    (case hk_l_aTold => k_is)
    (case hk_d_aTold => k_is)
    (case hk_k_aTold => k_is)
    (case hk_g_aBent => k_is)
    (case hk_l_aBent => k_is)
    (case hk_d_aBent => k_is)
    (case hk_k_aBent => k_is)
    (case hk_g_aLaw => k_is)
    (case hk_l_aLaw => k_is)
    (case hk_d_aLaw => k_is)
    (case hk_k_aLaw => k_is)
    (case hk_q0 => k_is)
    (case hk_q1 => k_is)
    (case hk_q2 => k_is)
    (case hk_q3 => k_is)
    (case hk_q4 => k_is)
    (case hk_r0 => k_is)
    (case hk_r1 => k_is)
    (case hk_r2 => k_is)
    (case hk_r3 => k_is)
    (case hk_r4 => k_is)
    (case hk_r5 => k_is)
    (case hk_r6 => k_is)
    (case hk_r7 => k_is)
    (case hk_vv => first | kernel_rfl | rfl)
    (case hk_ss => first | kernel_rfl | rfl)
    (case hk_ck => kernel_rfl)
end
