/- Contracts, joined: NRev, NDig, NText, NDigP. -/
import Derived.Test.YtodmkmoglchoeaaDoorJNum
import Derived.Laws.OwnMore
import Derived.BigRegion
import Derived.Test.YtodmkmoglchoeaaDoorNPure
import Derived.Test.YtodmkmoglchoeaaDoorJParse
import Derived.Deep.CutRange
import Derived.Deep.DeepCutAuto
namespace Go.Proofs.YtodmkmoglchoeaaDoor
/- slices.Reverse of bytes that the call itself made. -/
section
open Go.RowKit

theorem grown_trans {w1 w2 w3 : World} {r : Option Nat} (h : w1.grownBy w2 r) (h2 : w2.grownBy w3 r) : w1.grownBy w3 r :=
  ⟨h2.os.trans h.os, h2.tape.trans h.tape, h2.output.trans h.output, Nat.le_trans h.size h2.size, fun k hk hr => (h2.block k (Nat.lt_of_lt_of_le hk h.size) hr).trans (h.block k hk hr)⟩
theorem grown_drew (w : World) (r : Option Nat) : w.grownBy w.drew r := ⟨rfl, rfl, rfl, Nat.le_refl _, fun _ _ _ => rfl⟩
/-- the outer k elements on both sides have changed places -/
def Turned (k : Nat) (xs ys : List Value) : Prop := ys.length = xs.length ∧ ∀ j, j < xs.length → ys[j]? = if j < k ∨ xs.length ≤ j + k then xs[xs.length - 1 - j]? else xs[j]?
theorem Turned.start (xs : List Value) : Turned 0 xs xs := ⟨rfl, fun j hj => by rw [if_neg (by omega)]⟩
theorem Turned.next {k m : Nat} {xs ys : List Value} (h : Turned k xs ys) (hm : k + m + 1 = xs.length) (hk : k < m) (a b : Value) (ha : ys[k]? = some a) (hb : ys[m]? = some b) :
    Turned (k + 1) xs ((ys.set k b).set m a) := by
  have h1 := h.2 k (by omega)
  have h2 := h.2 m (by omega)
  rw [ha, if_neg (by omega)] at h1
  rw [hb, if_neg (by omega)] at h2
  refine ⟨by simpa using h.1, fun j hj => ?_⟩
  have hl := h.1
  have h3 := h.2 j hj
  rw [List.getElem?_set, List.getElem?_set, List.length_set]
  by_cases e1 : m = j
  · subst e1
    rw [if_pos rfl, if_pos (by omega), if_pos (by omega), show xs.length - 1 - m = k by omega, ← h1]
  · by_cases e2 : k = j
    · subst e2
      rw [if_neg e1, if_pos rfl, if_pos (by omega), if_pos (by omega), show xs.length - 1 - k = m by omega, ← h2]
    · rw [if_neg e1, if_neg e2, h3]
      by_cases e3 : j < k ∨ xs.length ≤ j + k
      · rw [if_pos e3, if_pos (by omega)]
      · rw [if_neg e3, if_neg (by omega)]
theorem Turned.done {k m : Nat} {xs ys : List Value} (h : Turned k xs ys) (hm : k + m + 1 = xs.length) (hk : m ≤ k) : ys = xs.reverse := by
  apply List.ext_getElem?
  intro j
  by_cases hj : j < xs.length
  · rw [h.2 j hj, List.getElem?_reverse hj]
    by_cases e3 : j < k ∨ xs.length ≤ j + k
    · rw [if_pos e3]
    · rw [if_neg e3]; congr 1; omega
  · rw [List.getElem?_eq_none (by rw [h.1]; omega), List.getElem?_eq_none (by simp; omega)]
theorem Turned.byte {k j : Nat} {xs ys : List Value} (h : Turned k xs ys) (hx : ∀ j, j < xs.length → ∃ x : Int, xs[j]? = some (.int .u8 x)) (hj : j < xs.length) : ∃ x : Int, ys[j]? = some (.int .u8 x) := by
  rw [h.2 j hj]
  split
  · exact hx _ (by omega)
  · exact hx _ hj
theorem two_addr {g j k : Nat} (h : j ≠ k) : (⟨g, j, none⟩ : Addr) ≠ ⟨g, k, none⟩ := fun e => h (by injection e)
/-- Reverse's end: the row stands the other way round, nothing else has changed. -/
def RetRev (base g cap n : Nat) (xs : List Value) (w : World) (e : Ending) (w' : World) : Prop :=
  e = .returned (.tuple #[]) ∧ w'.ownsRow base 5 1 (.slice (some ⟨g, 0, none⟩) n cap) n xs.reverse ∧ w.grownBy w' (some g)
end
/- Decimal digits of natural numbers: no program in sight. -/
section
open Go.RowKit

/-- the decimal digits of n, the lowest one first, at least one -/
def dg (n : Nat) : List Nat := if n < 10 then [n] else (n % 10) :: dg (n / 10)
termination_by n
decreasing_by omega
theorem dg_lo {n : Nat} (h : n < 10) : dg n = [n] := by rw [dg, if_pos h]
theorem dg_hi {n : Nat} (h : ¬ n < 10) : dg n = (n % 10) :: dg (n / 10) := by rw [dg, if_neg h]
theorem dg_pos (n : Nat) : 0 < (dg n).length := by
  by_cases h : n < 10
  · rw [dg_lo h]; simp
  · rw [dg_hi h]; simp
theorem dg_lt (n : Nat) : ∀ x ∈ dg n, x < 10 := by
  induction n using Nat.strongRecOn with
  | ind n ih =>
    by_cases h : n < 10
    · rw [dg_lo h]; simp; omega
    · rw [dg_hi h]
      intro x hx
      rcases List.mem_cons.1 hx with rfl | hx
      · omega
      · exact ih _ (by omega) x hx
theorem dg_len (k : Nat) : ∀ n, n < 10 ^ (k + 1) → (dg n).length ≤ k + 1 := by
  induction k with
  | zero => intro n h; rw [dg_lo (by simpa using h)]; simp
  | succ k ih =>
    intro n h
    by_cases h1 : n < 10
    · rw [dg_lo h1]; simp
    · rw [dg_hi h1]
      have := ih (n / 10) (by rw [Nat.pow_succ] at h; omega)
      simpa using this
/-- the bytes of the decimal text of z -/
def tl (z : Int) : List Int := (if z < 0 then [45] else []) ++ ((dg z.natAbs).reverse.map fun d : Nat => 48 + (d : Int))
/-- digits as the bytes that stand for them -/
def tb (ys : List Nat) : List Int := ys.map fun d : Nat => 48 + (d : Int)
theorem tl_eq (z : Int) : tl z = (tb (dg z.natAbs) ++ if z < 0 then [45] else []).reverse := by
  unfold tl tb
  rw [List.reverse_append, ← List.map_reverse]
  split <;> rfl
theorem tb_len (ys : List Nat) : (tb ys).length = ys.length := by simp [tb]
theorem tb_snoc (ys : List Nat) (d : Nat) : tb (ys ++ [d]) = tb ys ++ [48 + (d : Int)] := by simp [tb]
theorem step_dg {ys : List Nat} {r n : Nat} (h : ys ++ dg r = dg n) (hr : ¬ r < 10) : (ys ++ [r % 10]) ++ dg (r / 10) = dg n := by
  rw [← h, dg_hi hr]; simp
theorem last_dg {ys : List Nat} {r n : Nat} (h : ys ++ dg r = dg n) (hr : r < 10) : ys ++ [r % 10] = dg n := by
  rw [← h, dg_lo hr, Nat.mod_eq_of_lt hr]
theorem len_dg {ys : List Nat} {r n : Nat} (h : ys ++ dg r = dg n) (hn : n < 10 ^ 60) : ys.length < 60 := by
  have h1 := dg_len 59 n hn
  have h2 := congrArg List.length h
  have h3 := dg_pos r
  rw [List.length_append] at h2
  omega
end
/- Package number: Text. -/
section
open Go.RowKit

theorem wd_zero (k : Nat) : wd 0 k = 0 := by unfold wd; rw [Int.zero_ediv]; rfl
set_option maxRecDepth 100000 in
/-- a number against zero, as a walk comes to it -/
theorem eqz_six (u : Int) (hu : Rg u) (b : Bool) (hb : decide (u = 0) = b) (w : World) : (Op.equalIn 9999 171 (.agg #[.int .u32 (wd u 0), .int .u32 (wd u 1), .int .u32 (wd u 2), .int .u32 (wd u 3), .int .u32 (wd u 4), .int .u32 (wd u 5)]) (.agg #[.int .u32 0, .int .u32 0, .int .u32 0, .int .u32 0, .int .u32 0, .int .u32 0])).run Tryd.prog w = .ok b w := by
  have h := six_eq u 0 hu (by unfold Rg; decide)
  rw [wd_zero, wd_zero, wd_zero, wd_zero, wd_zero, wd_zero] at h
  rw [eqc_six 9997, h, hb]
def lenV : Value → Nat
  | .slice _ n _ => n
  | _ => 0
/-- the cells of digits as bytes -/
def tcs (ys : List Nat) : List Value := (tb ys).map (Value.int .u8)
theorem tcs_snoc (ys : List Nat) (d : Nat) : tcs (ys ++ [d]) = tcs ys ++ [.int .u8 (48 + (d : Int))] := by simp [tcs, tb_snoc]
theorem tcs_len (ys : List Nat) : (tcs ys).length = ys.length := by simp [tcs, tb_len]
structure TextAt (w : World) (z : Int) (r : Nat) (v : Value) (ys : List Nat) (w' : World) : Prop where
  below : Below w.heap.size w w'
  lt : w.heap.size + 2 ≤ w'.heap.size
  ra : RowAt w' w.heap.size 6 (wV z)
  rr : RowAt w' (w.heap.size + 1) 6 (wV r)
  own : w'.ownsRow (w.heap.size + 2) 5 1 v ys.length (tcs ys)
theorem byte_add (d : Nat) (h : d < 10) : IntKind.u8.wrap (48 + (d : Int)) = 48 + (d : Int) := by
  simp only [IntKind.wrap, IntKind.signed, IntKind.bits]
  simp; omega
theorem row6 {w : World} {b : Nat} {z : Int} {f : Nat → Value} (h : RowAt w b 6 f) : RowAt ((((((w.setCell ⟨b, 0, none⟩ (.int .u32 (wd z 0))).setCell ⟨b, 1, none⟩ (.int .u32 (wd z 1))).setCell ⟨b, 2, none⟩ (.int .u32 (wd z 2))).setCell ⟨b, 3, none⟩ (.int .u32 (wd z 3))).setCell ⟨b, 4, none⟩ (.int .u32 (wd z 4))).setCell ⟨b, 5, none⟩ (.int .u32 (wd z 5))) b 6 (wV z) :=
  RowAt.stored h.there (wV z)
theorem far6 {w : World} {b c : Nat} {f : Nat → Value} (h : RowAt w b 6 f) (hne : c ≠ b) (v0 v1 v2 v3 v4 v5 : Value) : RowAt ((((((w.setCell ⟨c, 0, none⟩ v0).setCell ⟨c, 1, none⟩ v1).setCell ⟨c, 2, none⟩ v2).setCell ⟨c, 3, none⟩ v3).setCell ⟨c, 4, none⟩ v4).setCell ⟨c, 5, none⟩ v5) b 6 f :=
  RowAt.farAll h hne 0 [v0, v1, v2, v3, v4, v5]
theorem grown6 (w : World) (c : Nat) (v0 v1 v2 v3 v4 v5 : Value) : w.grownBy ((((((w.setCell ⟨c, 0, none⟩ v0).setCell ⟨c, 1, none⟩ v1).setCell ⟨c, 2, none⟩ v2).setCell ⟨c, 3, none⟩ v3).setCell ⟨c, 4, none⟩ v4).setCell ⟨c, 5, none⟩ v5) (some c) := by
  have g : ∀ (w : World) (j : Nat) (v : Value), w.grownBy (w.setCell ⟨c, j, none⟩ v) (some c) := fun w j v => ⟨rfl, rfl, rfl, by rw [World.size_setCell]; exact Nat.le_refl _, fun k _ hk => heap_setCell_other w ⟨c, j, none⟩ k v (fun e => hk (by simp [e]))⟩
  exact grown_trans (grown_trans (grown_trans (grown_trans (grown_trans (g _ _ _) (g _ _ _)) (g _ _ _)) (g _ _ _)) (g _ _ _)) (g _ _ _)
theorem grown_of_below2 {w w' : World} (h : Below w.heap.size w w') (row : Option Nat) : w.grownBy w' row := ⟨h.os, h.tape, h.output, h.size, fun k hk _ => h.block k hk⟩
theorem own_block_ne {w : World} {B e sz n c : Nat} {v : Value} {l : List Value} (h : w.ownsRow B e sz v n l) (hc : c < B) : v.ownBlock = none ∨ v.ownBlock ≠ some c := by
  rcases h.2 with ⟨rfl, _⟩ | ⟨g, cap, cur, rfl, hb, _⟩
  · exact .inl rfl
  · refine .inr fun e => ?_
    injection e with e
    simp only at e
    omega
theorem own_below2 {w w' : World} {B e sz n : Nat} {v : Value} {l : List Value} (h : w.ownsRow B e sz v n l) (hb : Below w.heap.size w w') : w'.ownsRow B e sz v n l :=
  h.kept (grown_of_below2 hb none) (by cases v.ownBlock <;> simp)
theorem row_grown2 {w w' : World} {b n : Nat} {f : Nat → Value} {row : Option Nat} (h : RowAt w b n f) (hg : w.grownBy w' row) (hb : b < w.heap.size) (hr : some b ≠ row) : RowAt w' b n f :=
  ⟨fun i hi => by rw [World.cell?_of_block (a := ⟨b, i, none⟩) (hg.block b hb hr)]; exact h.cell i hi, fun i hi => by rw [World.frozen?_of_block (a := ⟨b, i, none⟩) (hg.block b hb hr)]; exact h.froz i hi⟩
theorem own_block_ge {w : World} {B e sz n k : Nat} {v : Value} {l : List Value} (h : w.ownsRow B e sz v n l) (hk : v.ownBlock = some k) : B ≤ k := by
  rcases h.2 with ⟨rfl, _⟩ | ⟨g, cap, cur, rfl, hb, _⟩
  · cases hk
  · injection hk with hk; simp only at hk; omega
theorem TextAt.app {w W W2 : World} {z : Int} {r d : Nat} {v v' : Value} {ys : List Nat} (h : TextAt w z r v ys W) (o : Obj)
    (hO : W2.ownsRow (w.heap.size + 2) 5 1 v' (ys.length + 1) (tcs ys ++ [.int .u8 (48 + (d : Int))])) (hg : (W.alloc o).grownBy W2 v.ownBlock) : TextAt w z r v' (ys ++ [d]) W2 := by
  have hl := h.lt
  have hne : ∀ c, c < w.heap.size + 2 → some c ≠ v.ownBlock := fun c hc e => by
    have := own_block_ge h.own e.symm
    omega
  have hb := h.below.alloc h.below.size o
  refine ⟨hb.grown hg hb.size (fun k hk => by have := own_block_ge h.own hk; omega), ?_, ?_, ?_, ?_⟩
  · have := hg.size; simp at this; omega
  · exact row_grown2 (h.ra.past (by omega) o) hg (by simp; omega) (hne _ (by omega))
  · exact row_grown2 (h.rr.past (by omega) o) hg (by simp; omega) (hne _ (by omega))
  · rw [tcs_snoc, List.length_append]; exact hO
theorem own_form2 {w : World} {B e sz n : Nat} {v : Value} {l : List Value} (h : w.ownsRow B e sz v n l) : ∃ A cap, v = .slice A n cap := by
  rcases h.2 with ⟨rfl, rfl⟩ | ⟨g, cap, cur, rfl, _⟩
  · exact ⟨_, _, rfl⟩
  · exact ⟨_, _, rfl⟩
theorem six_there {w : World} {b : Nat} {z : Int} (h : RowAt w b 6 (wV z)) :
    (w.cell? ⟨b, 0, none⟩ = some (.int .u32 (wd z 0)) ∧ w.cell? ⟨b, 1, none⟩ = some (.int .u32 (wd z 1)) ∧ w.cell? ⟨b, 2, none⟩ = some (.int .u32 (wd z 2)) ∧ w.cell? ⟨b, 3, none⟩ = some (.int .u32 (wd z 3)) ∧ w.cell? ⟨b, 4, none⟩ = some (.int .u32 (wd z 4)) ∧ w.cell? ⟨b, 5, none⟩ = some (.int .u32 (wd z 5))) ∧
    (w.frozen? ⟨b, 0, none⟩ = false ∧ w.frozen? ⟨b, 1, none⟩ = false ∧ w.frozen? ⟨b, 2, none⟩ = false ∧ w.frozen? ⟨b, 3, none⟩ = false ∧ w.frozen? ⟨b, 4, none⟩ = false ∧ w.frozen? ⟨b, 5, none⟩ = false) :=
  ⟨⟨h.cell 0 (by decide), h.cell 1 (by decide), h.cell 2 (by decide), h.cell 3 (by decide), h.cell 4 (by decide), h.cell 5 (by decide)⟩, h.froz 0 (by decide), h.froz 1 (by decide), h.froz 2 (by decide), h.froz 3 (by decide), h.froz 4 (by decide), h.froz 5 (by decide)⟩
end
/- Lists of decimal digits: sums, differences, order, leading zeros: no program in sight. -/
section
open Go.RowKit

/-- what digits are worth, the lowest one first -/
def dv : List Nat → Nat
  | [] => 0
  | d :: t => d + 10 * dv t
def Sm (l : List Nat) : Prop := ∀ x ∈ l, x < 10
theorem dv_append (a b : List Nat) : dv (a ++ b) = dv a + 10 ^ a.length * dv b := by
  induction a with
  | nil => simp [dv]
  | cons d t ih => simp only [List.cons_append, dv, ih, List.length_cons, Nat.pow_succ]; rw [Nat.mul_add, ← Nat.mul_assoc, Nat.mul_comm (10 ^ t.length) 10]; omega
theorem dv_snoc (a : List Nat) (d : Nat) : dv (a ++ [d]) = dv a + 10 ^ a.length * d := by rw [dv_append]; simp [dv]
theorem dv_lt {l : List Nat} (h : Sm l) : dv l < 10 ^ l.length := by
  induction l with
  | nil => simp [dv]
  | cons d t ih =>
    have h1 := ih (fun x hx => h x (List.mem_cons_of_mem _ hx))
    have h2 := h d (List.mem_cons_self ..)
    simp only [dv, List.length_cons, Nat.pow_succ]
    omega
theorem dv_dg (n : Nat) : dv (dg n) = n := by
  induction n using Nat.strongRecOn with
  | ind n ih =>
    by_cases h : n < 10
    · rw [dg_lo h]; simp [dv]
    · rw [dg_hi h]; simp only [dv]; rw [ih _ (by omega)]; omega
/-- the digits of n without leading zeros, none of 0 -/
def cd (n : Nat) : List Nat := if n = 0 then [] else dg n
theorem cd_0 : cd 0 = [] := by simp [cd]
theorem dv_cd (n : Nat) : dv (cd n) = n := by
  unfold cd; split
  · rename_i h; rw [h]; rfl
  · exact dv_dg n
theorem sm_cd (n : Nat) : Sm (cd n) := by
  unfold cd; split
  · intro x hx; cases hx
  · exact dg_lt n
theorem sm_take {l : List Nat} (h : Sm l) (k : Nat) : Sm (l.take k) := fun x hx => h x (List.mem_of_mem_take hx)
theorem sm_getD {l : List Nat} (h : Sm l) (k : Nat) : l.getD k 0 < 10 := by
  rw [List.getD_eq_getElem?_getD]
  cases e : l[k]? with
  | none => simp
  | some x => exact h x (List.mem_of_getElem? e)
theorem sm_snoc {l : List Nat} (h : Sm l) {d : Nat} (hd : d < 10) : Sm (l ++ [d]) := by
  intro x hx
  rcases List.mem_append.1 hx with hx | hx
  · exact h x hx
  · simp at hx; omega
theorem dv_take (l : List Nat) (k : Nat) : dv (l.take (k + 1)) = dv (l.take k) + 10 ^ k * l.getD k 0 := by
  by_cases h : k < l.length
  · rw [List.take_succ_eq_append_getElem h, dv_snoc, List.length_take, Nat.min_eq_left (by omega), List.getD_eq_getElem?_getD, List.getElem?_eq_getElem h]; rfl
  · rw [List.take_of_length_le (by omega), List.take_of_length_le (by omega), List.getD_eq_getElem?_getD, List.getElem?_eq_none (by omega)]; simp
theorem dv_dg_len (n : Nat) (h : n ≠ 0) : 10 ^ ((dg n).length - 1) ≤ n := by
  induction n using Nat.strongRecOn with
  | ind n ih =>
    by_cases h1 : n < 10
    · rw [dg_lo h1]; simp; omega
    · rw [dg_hi h1]
      have h2 := ih (n / 10) (by omega) (by omega)
      have h3 := dg_pos (n / 10)
      simp only [List.length_cons, Nat.add_sub_cancel]
      obtain ⟨k, hk⟩ : ∃ k, (dg (n / 10)).length = k + 1 := ⟨(dg (n / 10)).length - 1, by omega⟩
      rw [hk] at h2 ⊢
      simp only [Nat.add_sub_cancel] at h2
      rw [Nat.pow_succ]
      omega
theorem cd_len {n k : Nat} (h : n < 10 ^ k) : (cd n).length ≤ k := by
  unfold cd; split
  · simp
  · rename_i h0
    have h1 := dv_dg_len n h0
    have h2 := dg_pos n
    apply Nat.le_of_not_lt
    intro h3
    have : 10 ^ k ≤ 10 ^ ((dg n).length - 1) := Nat.pow_le_pow_right (by decide) (by omega)
    omega
theorem cd_len_lo {n : Nat} (h : n ≠ 0) : 0 < (cd n).length ∧ 10 ^ ((cd n).length - 1) ≤ n := by
  unfold cd; rw [if_neg h]; exact ⟨dg_pos n, dv_dg_len n h⟩
theorem cd_lt_of_len {a b : Nat} (h : (cd a).length < (cd b).length) : a < b := by
  have h1 := dv_lt (sm_cd a)
  rw [dv_cd] at h1
  have hb : b ≠ 0 := fun e => by rw [e, cd_0] at h; simp at h
  have h2 := (cd_len_lo hb).2
  have : 10 ^ (cd a).length ≤ 10 ^ ((cd b).length - 1) := Nat.pow_le_pow_right (by decide) (by omega)
  omega
theorem cd_len_le {a b : Nat} (h : a ≤ b) : (cd a).length ≤ (cd b).length := by
  apply Nat.le_of_not_lt
  intro h2
  have := cd_lt_of_len h2
  omega
/-- digits are told by their worth and their number -/
theorem dv_inj {a b : List Nat} (ha : Sm a) (hb : Sm b) (hl : a.length = b.length) (h : dv a = dv b) : a = b := by
  induction a generalizing b with
  | nil => cases b with
    | nil => rfl
    | cons _ _ => simp at hl
  | cons d t ih => cases b with
    | nil => simp at hl
    | cons e s =>
      have h1 := ha d (List.mem_cons_self ..)
      have h2 := hb e (List.mem_cons_self ..)
      simp only [dv] at h
      have e1 : d = e := by omega
      have e2 := ih (fun x hx => ha x (List.mem_cons_of_mem _ hx)) (fun x hx => hb x (List.mem_cons_of_mem _ hx)) (by simpa using hl) (b := s) (by omega)
      rw [e1, e2]
/-- digits without a leading zero are those of their worth -/
theorem cd_unique {l : List Nat} (h : Sm l) (k : Nat) (hk : l.length = k + 1) (hne : l.getD k 0 ≠ 0) : l = cd (dv l) := by
  have hlt := dv_lt h
  have hge : 10 ^ k ≤ dv l := by
    have e : l = l.take (k + 1) := (List.take_of_length_le (by omega)).symm
    have := dv_take l k
    rw [← e] at this
    have h1 : 10 ^ k * 1 ≤ 10 ^ k * l.getD k 0 := Nat.mul_le_mul_left _ (by omega)
    omega
  have h0 : dv l ≠ 0 := by have := Nat.pow_pos (n := k) (show 0 < 10 by decide); omega
  refine dv_inj h (sm_cd _) ?_ (dv_cd _).symm
  have u := cd_len (n := dv l) (k := l.length) hlt
  obtain ⟨l1, l2⟩ := cd_len_lo h0
  have l3 := dv_lt (sm_cd (dv l))
  rw [dv_cd] at l3
  apply Nat.le_antisymm _ u
  apply Nat.le_of_not_lt
  intro h2
  have : 10 ^ (cd (dv l)).length ≤ 10 ^ k := Nat.pow_le_pow_right (by decide) (by omega)
  omega
/-- a leading zero is worth nothing -/
theorem dv_drop_zero {l : List Nat} {k : Nat} (h : l.getD k 0 = 0) : dv (l.take k) = dv (l.take (k + 1)) := by rw [dv_take, h]; omega
/-- a step of a sum -/
theorem plus_step {o a b p c x y n : Nat} (h : o + c * p = a + b) (hn : n = x + y + c) : (o + p * (n % 10)) + (n / 10) * (p * 10) = (a + p * x) + (b + p * y) := by
  have e : n = 10 * (n / 10) + n % 10 := (Nat.div_add_mod n 10).symm
  have h2 : p * n = p * (x + y + c) := by rw [hn]
  rw [Nat.mul_add, Nat.mul_add] at h2
  have h3 : p * n = p * (10 * (n / 10)) + p * (n % 10) := by rw [← Nat.mul_add]; rw [← e]
  have h4 : (n / 10) * (p * 10) = p * (10 * (n / 10)) := by rw [Nat.mul_comm (n / 10), Nat.mul_assoc]
  rw [h4, Nat.mul_comm c p] at *
  omega
theorem dv_part_lt {l : List Nat} (h : Sm l) (k : Nat) (hk : l.length ≤ k) : dv l < 10 ^ k := Nat.lt_of_lt_of_le (dv_lt h) (Nat.pow_le_pow_right (by decide) hk)
theorem plus_end {o a b c m : Nat} (h : o + c * 10 ^ (m + 1) = a + b) (ha : a < 10 ^ m) (hb : b < 10 ^ m) : o = a + b := by
  have : c = 0 := by
    apply Nat.eq_zero_of_not_pos
    intro hc
    have : 1 * 10 ^ (m + 1) ≤ c * 10 ^ (m + 1) := Nat.mul_le_mul_right _ hc
    rw [Nat.pow_succ] at *
    omega
  rw [this] at h; omega
/-- a step of a difference -/
theorem minus_step {o a b p r x y d r' : Nat} (h : o + b = a + r * p) (hn : d + y + r = x + 10 * r') : (o + p * d) + (b + p * y) = (a + p * x) + r' * (p * 10) := by
  have h2 : p * (d + y + r) = p * (x + 10 * r') := by rw [hn]
  rw [Nat.mul_add, Nat.mul_add, Nat.mul_add] at h2
  have h4 : r' * (p * 10) = p * (10 * r') := by rw [Nat.mul_comm r', Nat.mul_assoc]
  rw [h4]; rw [Nat.mul_comm r p] at h
  omega
theorem minus_end {o a b r m : Nat} (h : o + b = a + r * 10 ^ m) (ho : o < 10 ^ m) (hb : b ≤ a) : o = a - b := by
  have : r = 0 := by
    apply Nat.eq_zero_of_not_pos
    intro hc
    have : 1 * 10 ^ m ≤ r * 10 ^ m := Nat.mul_le_mul_right _ hc
    omega
  rw [this] at h; omega
/-- the first digit from the top at which two part tells which is less -/
theorem dv_part (l : List Nat) (k : Nat) : dv l = dv (l.take (k + 1)) + 10 ^ (k + 1) * dv (l.drop (k + 1)) := by
  by_cases h : k + 1 ≤ l.length
  · have := dv_append (l.take (k + 1)) (l.drop (k + 1))
    rw [List.take_append_drop, List.length_take, Nat.min_eq_left h] at this
    exact this
  · rw [List.take_of_length_le (by omega), List.drop_eq_nil_of_le (by omega)]; simp [dv]
theorem dv_less {a b : List Nat} (ha : Sm a) (_hb : Sm b) (k : Nat) (hd : a.drop (k + 1) = b.drop (k + 1)) (hk : a.getD k 0 < b.getD k 0) : dv a < dv b := by
  rw [dv_part a k, dv_part b k, hd, dv_take, dv_take]
  have h1 : dv (a.take k) < 10 ^ k := by
    have h := dv_lt (sm_take ha k)
    exact Nat.lt_of_lt_of_le h (Nat.pow_le_pow_right (by decide) (by simp; omega))
  have h2 : 10 ^ k * (a.getD k 0 + 1) ≤ 10 ^ k * b.getD k 0 := Nat.mul_le_mul_left _ hk
  rw [Nat.mul_add, Nat.mul_one] at h2
  omega
theorem drop_eq {a b : List Nat} (hl : a.length = b.length) (k : Nat) (hd : a.drop (k + 1) = b.drop (k + 1)) (hk : a.getD k 0 = b.getD k 0) : a.drop k = b.drop k := by
  by_cases h : k < a.length
  · have h2 : k < b.length := by omega
    rw [List.drop_eq_getElem_cons h, List.drop_eq_getElem_cons h2, hd]
    rw [List.getD_eq_getElem?_getD, List.getD_eq_getElem?_getD, List.getElem?_eq_getElem h, List.getElem?_eq_getElem h2] at hk
    congr 1
  · rw [List.drop_eq_nil_of_le (by omega), List.drop_eq_nil_of_le (by omega)]
end
end Go.Proofs.YtodmkmoglchoeaaDoor
