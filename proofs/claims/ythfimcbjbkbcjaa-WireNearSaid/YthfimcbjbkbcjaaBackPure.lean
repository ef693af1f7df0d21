/- Canonical byte strings and numbers: plain facts; Bytes with its result's form. -/
import Derived.Test.YthfimcbjbkbcjaaParse
import Derived.Test.YthfimcbjbkbcjaaBegun
namespace Go.Proofs.Ythfimcbjbkbcjaa
open Go.RowKit

/-- Byte i of the canonical string of a. -/
def gb (a i : Nat) : Nat := a / 2 ^ (8 * (nb a - 1 - i)) % 256
theorem gb_lt (a i : Nat) : gb a i < 256 := Nat.mod_lt _ (by decide)
theorem byteOf_gb (a i : Nat) : byteOf a (nb a - 1 - i) = (gb a i : Nat) := rfl
theorem lt_nb (a : Nat) : a < 2 ^ (8 * nb a) := by
  have h := (bitLen_spec a).1
  refine Nat.lt_of_lt_of_le h (Nat.pow_le_pow_right (by decide) ?_)
  unfold nb; omega
theorem ge_nb (a : Nat) (h : 1 < nb a) : 2 ^ (8 * (nb a - 1)) ≤ a := by
  have h0 : a ≠ 0 := by
    rintro rfl
    have : nb 0 = 1 := by decide
    omega
  refine Nat.le_trans (Nat.pow_le_pow_right (by decide) ?_) ((bitLen_spec a).2 h0)
  unfold nb at h ⊢
  omega
theorem nb_of (y n : Nat) (hn : 1 ≤ n) (h1 : y < 2 ^ (8 * n)) (h2 : 1 < n → 2 ^ (8 * (n - 1)) ≤ y) : nb y = n := by
  have l1 : bitLen y ≤ 8 * n := by
    unfold bitLen
    split
    · omega
    · rename_i h0
      have := (Nat.log2_lt h0).2 h1
      omega
  by_cases h : 1 < n
  · have h3 := h2 h
    have h4 := (bitLen_spec y).1
    have : 8 * (n - 1) < bitLen y := by
      rcases Nat.lt_or_ge (8 * (n - 1)) (bitLen y) with h5 | h5
      · exact h5
      · have := Nat.pow_le_pow_right (n := 2) (by decide) h5
        omega
    unfold nb; omega
  · unfold nb; omega
theorem nb_mono (a b : Nat) (h : a ≤ b) : nb a ≤ nb b := by
  have h1 := (bitLen_spec b).1
  have : bitLen a ≤ bitLen b := by
    have h2 : a < 2 ^ bitLen b := by omega
    by_cases h0 : a = 0
    · subst h0; simp [bitLen]
    · have h3 := (bitLen_spec a).2 h0
      rcases Nat.lt_or_ge (bitLen b) (bitLen a) with h5 | h5
      · have := Nat.pow_le_pow_right (n := 2) (by decide) (show bitLen b ≤ bitLen a - 1 by omega)
        omega
      · exact h5
  unfold nb; omega

theorem numTo_gb (a : Nat) : ∀ k, k ≤ nb a → numTo (gb a) k = a / 2 ^ (8 * (nb a - k))
  | 0, _ => by rw [numTo, Nat.sub_zero, Nat.div_eq_of_lt (lt_nb a)]
  | k + 1, h => by
    rw [numTo, numTo_gb a k (by omega), gb]
    have e : 8 * (nb a - k) = 8 * (nb a - 1 - k) + 8 := by omega
    have e2 : nb a - (k + 1) = nb a - 1 - k := by omega
    rw [e, e2, Nat.pow_add, ← Nat.div_div_eq_div_mul]
    have : (2 : Nat) ^ 8 = 256 := by decide
    rw [this]
    generalize a / 2 ^ (8 * (nb a - 1 - k)) = q
    omega
theorem parse_gb (a : Nat) (ha : a < 2 ^ 128) : parseE (nb a) (gb a) = 0 ∧ parseV (nb a) (gb a) = a := by
  have h1 := nb_pos a
  have h2 := nb_le a ha
  have e : parseE (nb a) (gb a) = 0 := by
    have h3 : ¬ (1 < nb a ∧ gb a 0 = 0) := by
      rintro ⟨h4, h5⟩
      have h6 := ge_nb a h4
      have h7 := lt_nb a
      have hd : a / 2 ^ (8 * (nb a - 1)) < 256 := by
        rw [Nat.div_lt_iff_lt_mul (Nat.two_pow_pos _), show (256 : Nat) = 2 ^ 8 by decide, ← Nat.pow_add]
        rw [show 8 + 8 * (nb a - 1) = 8 * nb a by omega]; exact h7
      have hd2 : 1 ≤ a / 2 ^ (8 * (nb a - 1)) := (Nat.one_le_div_iff (Nat.two_pow_pos _)).2 h6
      unfold gb at h5
      rw [Nat.sub_zero, Nat.mod_eq_of_lt hd] at h5
      omega
    unfold parseE
    rw [if_neg (by omega), if_neg (by omega), if_neg h3]
  refine ⟨e, ?_⟩
  rw [parseV, if_pos e, numTo_gb a (nb a) (Nat.le_refl _), Nat.sub_self, Nat.mul_zero, Nat.pow_zero, Nat.div_one]

theorem numTo_div (g : Nat → Nat) (n : Nat) (hg : ∀ i, i < n → g i < 256) (k : Nat) : ∀ m, k + m ≤ n → numTo g (k + m) / 2 ^ (8 * m) = numTo g k
  | 0, _ => by simp
  | m + 1, h => by
    have h1 := hg (k + m) (by omega)
    have ih := numTo_div g n hg k m (by omega)
    rw [show k + (m + 1) = (k + m) + 1 by omega, numTo, show 8 * (m + 1) = 8 + 8 * m by omega, Nat.pow_add, ← Nat.div_div_eq_div_mul, show (2 : Nat) ^ 8 = 256 by decide]
    rw [show (numTo g (k + m) * 256 + g (k + m)) / 256 = numTo g (k + m) by omega, ih]
theorem parse_ok (n : Nat) (g : Nat → Nat) (hg : ∀ i, i < n → g i < 256) (h : parseE n g = 0) : 1 ≤ n ∧ n ≤ 16 ∧ numTo g n < 2 ^ 128 ∧ nb (numTo g n) = n ∧ ∀ i, i < n → gb (numTo g n) i = g i := by
  have h0 : n ≠ 0 := by
    rintro rfl
    simp [parseE] at h
  have h1 : ¬ 16 < n := by
    intro h1
    rw [parseE, if_neg h0, if_pos h1] at h
    cases h
  have h2 : ¬ (1 < n ∧ g 0 = 0) := by
    intro h2
    rw [parseE, if_neg h0, if_neg h1, if_pos h2] at h
    cases h
  have hlt := numTo_lt g n hg n (Nat.le_refl _)
  have hnb : nb (numTo g n) = n := nb_of _ n (by omega) hlt fun h3 => by
    have h4 := numTo_div g n hg 1 (n - 1) (by omega)
    rw [show 1 + (n - 1) = n by omega] at h4
    have h5 : 1 ≤ numTo g 1 := by
      have : g 0 ≠ 0 := fun e => h2 ⟨h3, e⟩
      simp [numTo]; omega
    rw [← h4] at h5
    exact (Nat.one_le_div_iff (Nat.two_pow_pos _)).1 h5
  refine ⟨by omega, by omega, Nat.lt_of_lt_of_le hlt (Nat.pow_le_pow_right (by decide) (by omega)), hnb, fun i hi => ?_⟩
  have h3 := hg i hi
  have h4 := numTo_div g n hg (i + 1) (n - 1 - i) (by omega)
  rw [show i + 1 + (n - 1 - i) = n by omega] at h4
  rw [gb, hnb, h4, numTo]
  omega

/-- The string of n bytes g. -/
def strG (n : Nat) (g : Nat → Nat) : ByteArray := strN ((List.range n).map fun i => (g i : Int))
theorem strG_congr {n : Nat} {g h : Nat → Nat} (e : ∀ i, i < n → g i = h i) : strG n g = strG n h := by
  unfold strG
  congr 1
  apply List.map_congr_left
  intro i hi
  rw [e i (List.mem_range.1 hi)]
theorem conv_reads {w : World} {A : Option Addr} {n cap : Nat} {g : Nat → Nat} (h : ReadsB w A n g) (hn : 1 ≤ n) :
    (convert 23 9 (.slice A n cap)).run Try.prog w = .ok (.string (strG n g)) w := by
  obtain ⟨b, o, rfl, hb, hc, hg⟩ := h.resolve_left (by omega)
  rw [run_convert_bytes_string w 23 9 5 _ _ _ Try.underlying23 Try.underlying5 Try.underlying9]
  refine run_bytesToString w ⟨b, o, none⟩ n cap ((List.range n).map fun i => (g i : Int)) ?_
  have e := run_loadCells (P := Try.prog) w ⟨b, o, none⟩ n (fun i => Value.int .u8 (g i)) (fun j hj => by rw [Addr.add_mid]; exact hc j hj)
  simpa [Function.comp_def] using e

/-- The call returns the canonical bytes of a, in a row of its own; nothing that there was is changed. -/
def RetB (a : Nat) (w : World) (e : Ending) (w' : World) : Prop := ∃ b cap : Nat, e = .returned (.slice (some ⟨b, 0, none⟩) (nb a) cap) ∧ ReadsB w' (some ⟨b, 0, none⟩) (nb a) (gb a) ∧ Below w.heap.size w w'
theorem bytes_form (a : Nat) (ha : a < 2 ^ 128) (w : World) :
    Calls Try.prog 55 #[.agg #[.int .u64 (hi a), .int .u64 (lo a)]] w (RetB a w) := by
  refine (bytes_any a ha w).mono ?_
  rintro e w' ⟨v, rfl, ⟨hl, ⟨rfl, h0⟩ | ⟨g, cap, cur, rfl, hb, hh, hc, hm, hs, ht⟩⟩, hB⟩
  · rw [byteCells_len] at h0
    have := nb_pos a
    omega
  · have hl2 := byteCells_len a
    refine ⟨g, cap, by rw [hl2], .inr ⟨g, 0, rfl, ?_, fun i hi => ?_, fun i _ => gb_lt a i⟩, hB⟩
    · rcases Nat.lt_or_ge g w'.heap.size with h | h
      · exact h
      · rw [Array.getElem?_eq_none h] at hh; cases hh
    · rw [cell_of_row w' g (0 + i) cur 5 (0, 0) hh, Nat.zero_add]
      have h1 : (byteCells a)[i]? = some (.int .u8 (gb a i)) := by rw [byteCells, rowL_get _ _ _ hi, byteOf_gb]
      rw [← ht, List.getElem?_take] at h1
      split at h1
      · simpa using h1
      · cases h1
theorem parse_canon (a b cap : Nat) (ha : a < 2 ^ 128) (w : World) (h : ReadsB w (some ⟨b, 0, none⟩) (nb a) (gb a)) :
    Calls Try.prog 65 #[.slice (some ⟨b, 0, none⟩) (nb a) cap] w (RetVE a 0 w) := by
  have e := parse_any (some ⟨b, 0, none⟩) (nb a) cap (gb a) w h (by have := nb_le a ha; omega)
  obtain ⟨h1, h2⟩ := parse_gb a ha
  rw [h1, h2] at e
  exact e
end Go.Proofs.Ythfimcbjbkbcjaa
