/- Contracts, joined: Begun, Parse, BackPure, RefParse, RefBytes. -/
import Derived.Test.YtldgjahpmlafgaaGreatJVal
import Derived.Test.YtldgjahpmlafgaaGreatJBits
import Derived.Deep.OwnRows
namespace Go.Proofs.YtldgjahpmlafgaaGreat
/- The sanity check 'begun' of the laws: it returns true. -/
section
open Go.RowKit

def byteNs (a : Nat) : List Int := (List.range (nb a)).map fun i => byteOf a (nb a - 1 - i)
set_option maxRecDepth 100000 in
theorem byteCells_ns (a : Nat) : byteCells a = (byteNs a).map (Value.int .u8) := by
  simp [byteCells, byteNs, rowL, Function.comp_def]
/-- The string of these bytes. -/
def strN (ns : List Int) : ByteArray := ns.foldl (fun r n => r.push (UInt8.ofNat n.toNat)) ByteArray.empty

set_option maxRecDepth 100000 in
theorem conv_row {w : World} {base n : Nat} {v : Value} (ns : List Int) (h : w.ownsRow base 5 1 v n (ns.map (Value.int .u8))) (hn : 1 ≤ n) :
    (convert 22 9 v).run Tryz.prog w = .ok (.string (strN ns)) w := by
  rcases h with ⟨hl, ⟨rfl, h0⟩ | ⟨g, cap, cur, rfl, hb, hh, hc, hm, hs, ht⟩⟩
  · omega
  · rw [run_convert_bytes_string w 22 9 5 _ _ _ Tryz.underlying22 Tryz.underlying5 Tryz.underlying9]
    refine run_bytesToString w ⟨g, 0, none⟩ n cap ns ?_
    have e := run_loadCells_list (P := Tryz.prog) w ⟨g, 0, none⟩ (ns.map (Value.int .u8)) (fun j u hu => by
      rw [Addr.add_mid, cell_of_row w g (0 + j) cur 5 (0, 0) hh, ← ht] at *
      simp only [List.getElem?_take] at hu
      split at hu
      · simpa using hu
      · cases hu)
    simpa [hl] using e

set_option maxRecDepth 100000 in
theorem conv_bytes {w : World} {base : Nat} {v : Value} {a : Nat} (h : w.ownsRow base 5 1 v (byteCells a).length (byteCells a)) :
    (convert 22 9 v).run Tryz.prog w = .ok (.string (strN (byteNs a))) w := by
  rw [byteCells_len] at h
  rw [byteCells_ns] at h
  exact conv_row (byteNs a) h (nb_pos a)
set_option maxRecDepth 100000 in
theorem str_256 : strN (byteNs 256) = ⟨#[1, 0]⟩ := by decide +kernel
set_option maxRecDepth 100000 in
theorem str_0 : strN (byteNs 0) = ⟨#[0]⟩ := by decide +kernel
end
/- Parse of package value: what it returns. -/
section
open Go.RowKit

/-- A slice of n bytes g that can be read; it is nil, or lies in an old block. -/
def ReadsB (w : World) (A : Option Addr) (n : Nat) (g : Nat → Nat) : Prop :=
  n = 0 ∨ ∃ b o : Nat, A = some ⟨b, o, none⟩ ∧ b < w.heap.size ∧ (∀ i, i < n → w.cell? ⟨b, o + i, none⟩ = some (.int .u8 (g i))) ∧ ∀ i, i < n → g i < 256
set_option maxRecDepth 100000 in
theorem ReadsB.below {w w' : World} {A : Option Addr} {n : Nat} {g : Nat → Nat} (h : ReadsB w A n g) (hx : Below w.heap.size w w') : ReadsB w' A n g := by
  rcases h with h | ⟨b, o, rfl, hb, hc, hg⟩
  · exact .inl h
  · exact .inr ⟨b, o, rfl, Nat.lt_of_lt_of_le hb hx.size, fun i hi => by rw [hx.cell (p := ⟨_, _, none⟩) hb]; exact hc i hi, hg⟩

/-- The number of the first k bytes. -/
def numTo (g : Nat → Nat) : Nat → Nat
  | 0 => 0
  | k + 1 => numTo g k * 256 + g k
set_option maxRecDepth 100000 in
theorem numTo_lt (g : Nat → Nat) (n : Nat) (hg : ∀ i, i < n → g i < 256) : ∀ k, k ≤ n → numTo g k < 2 ^ (8 * k)
  | 0, _ => by simp [numTo]
  | k + 1, h => by
    have ih := numTo_lt g n hg k (by omega)
    have hk := hg k (by omega)
    rw [show 8 * (k + 1) = 8 * k + 8 by omega, Nat.pow_add]
    simp only [numTo]
    omega
set_option maxRecDepth 100000 in
theorem numTo_step (a x : Nat) (k : Nat) (ha : a < 2 ^ (8 * k)) (hk : k < 16) (hx : x < 256) : vleft a 8 ||| x = a * 256 + x := by
  have h1 : a < 2 ^ 120 := Nat.lt_of_lt_of_le ha (Nat.pow_le_pow_right (by decide) (by omega))
  unfold vleft
  rw [Nat.mod_eq_of_lt (by omega)]
  have := Nat.two_pow_add_eq_or_of_lt (i := 8) (b := x) (by omega) a
  rw [Nat.mul_comm a, ← this]

/-- The code of Parse's error (0: none). -/
def parseE (n : Nat) (g : Nat → Nat) : Int := if n = 0 then 1 else if 16 < n then 3 else if 1 < n ∧ g 0 = 0 then 5 else 0
def parseV (n : Nat) (g : Nat → Nat) : Nat := if parseE n g = 0 then numTo g n else 0
/-- The call returns the value v with the code e; nothing that there was is changed. -/
def RetVE (v : Nat) (e : Int) (w : World) (en : Ending) (w' : World) : Prop := en = .returned (.tuple #[.agg #[.int .u64 (hi v), .int .u64 (lo v)], .int .i64 e]) ∧ Below w.heap.size w w'

/-- Where Parse is after k bytes. -/
structure ParseAt (w : World) (v : Nat) (w' : World) : Prop where
  below : Below w.heap.size w w'
  size : w.heap.size + 2 ≤ w'.heap.size
  r0 : w'.cell? ⟨w.heap.size, 0, none⟩ = some (.int .u64 0)
  r1 : w'.cell? ⟨w.heap.size, 1, none⟩ = some (.int .u64 0)
  q0 : w'.frozen? ⟨w.heap.size, 0, none⟩ = false
  q1 : w'.frozen? ⟨w.heap.size, 1, none⟩ = false
  a0 : w'.cell? ⟨w.heap.size + 1, 0, none⟩ = some (.int .u64 (hi v))
  a1 : w'.cell? ⟨w.heap.size + 1, 1, none⟩ = some (.int .u64 (lo v))
  f0 : w'.frozen? ⟨w.heap.size + 1, 0, none⟩ = false
  f1 : w'.frozen? ⟨w.heap.size + 1, 1, none⟩ = false
set_option maxRecDepth 100000 in
theorem ParseAt.next {w : World} {v : Nat} {W W' : World} (h : ParseAt w v W) (hx : Below W.heap.size W W') (u : Nat) :
    ParseAt w u ((W'.setCell ⟨w.heap.size + 1, 0, none⟩ (.int .u64 (hi u))).setCell ⟨w.heap.size + 1, 1, none⟩ (.int .u64 (lo u))) := by
  have hs := h.size
  have hs2 := hx.size
  have c0 : W'.cell? ⟨w.heap.size + 1, 0, none⟩ = some (.int .u64 (hi v)) := by rw [hx.cell (p := ⟨_, _, none⟩) (by simp; omega)]; exact h.a0
  have c1 : W'.cell? ⟨w.heap.size + 1, 1, none⟩ = some (.int .u64 (lo v)) := by rw [hx.cell (p := ⟨_, _, none⟩) (by simp; omega)]; exact h.a1
  exact {
    below := ((h.below.trans (hx.mono h.below.size)).setCell (by simp) _).setCell (by simp) _
    size := by have : w.heap.size + 2 ≤ W'.heap.size := by omega
               simpa [World.setCell] using this
    r0 := by rw [World.cell?_setCell_far _ _ _ _ (by simp), World.cell?_setCell_far _ _ _ _ (by simp), hx.cell (p := ⟨_, _, none⟩) (by simp; omega)]; exact h.r0
    r1 := by rw [World.cell?_setCell_far _ _ _ _ (by simp), World.cell?_setCell_far _ _ _ _ (by simp), hx.cell (p := ⟨_, _, none⟩) (by simp; omega)]; exact h.r1
    q0 := by rw [World.frozen?_setCell, World.frozen?_setCell, hx.frozen (p := ⟨_, _, none⟩) (by simp; omega)]; exact h.q0
    q1 := by rw [World.frozen?_setCell, World.frozen?_setCell, hx.frozen (p := ⟨_, _, none⟩) (by simp; omega)]; exact h.q1
    a0 := by rw [World.cell?_setCell_other _ _ _ _ (by simp)]; exact World.cell?_setCell_same' _ _ _ (by rw [c0]; rfl)
    a1 := World.cell?_setCell_same' _ _ _ (by rw [World.cell?_setCell_other _ _ _ _ (by simp), c1]; rfl)
    f0 := by rw [World.frozen?_setCell, World.frozen?_setCell, hx.frozen (p := ⟨_, _, none⟩) (by simp; omega)]; exact h.f0
    f1 := by rw [World.frozen?_setCell, World.frozen?_setCell, hx.frozen (p := ⟨_, _, none⟩) (by simp; omega)]; exact h.f1 }

set_option maxRecDepth 100000 in
theorem hi_zero : hi 0 = 0 := rfl
set_option maxRecDepth 100000 in
theorem lo_zero : lo 0 = 0 := rfl
end
/- Canonical byte strings and numbers: plain facts; Bytes with its result's form. -/
section
open Go.RowKit

/-- Byte i of the canonical string of a. -/
def gb (a i : Nat) : Nat := a / 2 ^ (8 * (nb a - 1 - i)) % 256
set_option maxRecDepth 100000 in
theorem gb_lt (a i : Nat) : gb a i < 256 := Nat.mod_lt _ (by decide)
set_option maxRecDepth 100000 in
theorem byteOf_gb (a i : Nat) : byteOf a (nb a - 1 - i) = (gb a i : Nat) := rfl
set_option maxRecDepth 100000 in
theorem lt_nb (a : Nat) : a < 2 ^ (8 * nb a) := by
  have h := (bitLen_spec a).1
  refine Nat.lt_of_lt_of_le h (Nat.pow_le_pow_right (by decide) ?_)
  unfold nb; omega
set_option maxRecDepth 100000 in
theorem ge_nb (a : Nat) (h : 1 < nb a) : 2 ^ (8 * (nb a - 1)) ≤ a := by
  have h0 : a ≠ 0 := by
    rintro rfl
    have : nb 0 = 1 := by decide
    omega
  refine Nat.le_trans (Nat.pow_le_pow_right (by decide) ?_) ((bitLen_spec a).2 h0)
  unfold nb at h ⊢
  omega
theorem nb_of (y n : Nat) (hn : 1 ≤ n) (h1 : y < 2 ^ (8 * n)) (h2 : 1 < n → 2 ^ (8 * (n - 1)) ≤ y) : nb y = n := by
  have l1 : bitLen y ≤ 8 * n := by
    unfold bitLen
    split
    · omega
    · rename_i h0
      have := (Nat.log2_lt h0).2 h1
      omega
  by_cases h : 1 < n
  · have h3 := h2 h
    have h4 := (bitLen_spec y).1
    have : 8 * (n - 1) < bitLen y := by
      rcases Nat.lt_or_ge (8 * (n - 1)) (bitLen y) with h5 | h5
      · exact h5
      · have := Nat.pow_le_pow_right (n := 2) (by decide) h5
        omega
    unfold nb; omega
  · unfold nb; omega
set_option maxRecDepth 100000 in
theorem nb_mono (a b : Nat) (h : a ≤ b) : nb a ≤ nb b := by
  have h1 := (bitLen_spec b).1
  have : bitLen a ≤ bitLen b := by
    have h2 : a < 2 ^ bitLen b := by omega
    by_cases h0 : a = 0
    · subst h0; simp [bitLen]
    · have h3 := (bitLen_spec a).2 h0
      rcases Nat.lt_or_ge (bitLen b) (bitLen a) with h5 | h5
      · have := Nat.pow_le_pow_right (n := 2) (by decide) (show bitLen b ≤ bitLen a - 1 by omega)
        omega
      · exact h5
  unfold nb; omega

set_option maxRecDepth 100000 in
theorem numTo_gb (a : Nat) : ∀ k, k ≤ nb a → numTo (gb a) k = a / 2 ^ (8 * (nb a - k))
  | 0, _ => by rw [numTo, Nat.sub_zero, Nat.div_eq_of_lt (lt_nb a)]
  | k + 1, h => by
    rw [numTo, numTo_gb a k (by omega), gb]
    have e : 8 * (nb a - k) = 8 * (nb a - 1 - k) + 8 := by omega
    have e2 : nb a - (k + 1) = nb a - 1 - k := by omega
    rw [e, e2, Nat.pow_add, ← Nat.div_div_eq_div_mul]
    have : (2 : Nat) ^ 8 = 256 := by decide
    rw [this]
    generalize a / 2 ^ (8 * (nb a - 1 - k)) = q
    omega
set_option maxRecDepth 100000 in
theorem parse_gb (a : Nat) (ha : a < 2 ^ 128) : parseE (nb a) (gb a) = 0 ∧ parseV (nb a) (gb a) = a := by
  have h1 := nb_pos a
  have h2 := nb_le a ha
  have e : parseE (nb a) (gb a) = 0 := by
    have h3 : ¬ (1 < nb a ∧ gb a 0 = 0) := by
      rintro ⟨h4, h5⟩
      have h6 := ge_nb a h4
      have h7 := lt_nb a
      have hd : a / 2 ^ (8 * (nb a - 1)) < 256 := by
        rw [Nat.div_lt_iff_lt_mul (Nat.two_pow_pos _), show (256 : Nat) = 2 ^ 8 by decide, ← Nat.pow_add]
        rw [show 8 + 8 * (nb a - 1) = 8 * nb a by omega]; exact h7
      have hd2 : 1 ≤ a / 2 ^ (8 * (nb a - 1)) := (Nat.one_le_div_iff (Nat.two_pow_pos _)).2 h6
      unfold gb at h5
      rw [Nat.sub_zero, Nat.mod_eq_of_lt hd] at h5
      omega
    unfold parseE
    rw [if_neg (by omega), if_neg (by omega), if_neg h3]
  refine ⟨e, ?_⟩
  rw [parseV, if_pos e, numTo_gb a (nb a) (Nat.le_refl _), Nat.sub_self, Nat.mul_zero, Nat.pow_zero, Nat.div_one]

set_option maxRecDepth 100000 in
theorem numTo_div (g : Nat → Nat) (n : Nat) (hg : ∀ i, i < n → g i < 256) (k : Nat) : ∀ m, k + m ≤ n → numTo g (k + m) / 2 ^ (8 * m) = numTo g k
  | 0, _ => by simp
  | m + 1, h => by
    have h1 := hg (k + m) (by omega)
    have ih := numTo_div g n hg k m (by omega)
    rw [show k + (m + 1) = (k + m) + 1 by omega, numTo, show 8 * (m + 1) = 8 + 8 * m by omega, Nat.pow_add, ← Nat.div_div_eq_div_mul, show (2 : Nat) ^ 8 = 256 by decide]
    rw [show (numTo g (k + m) * 256 + g (k + m)) / 256 = numTo g (k + m) by omega, ih]
set_option maxRecDepth 100000 in
theorem parse_ok (n : Nat) (g : Nat → Nat) (hg : ∀ i, i < n → g i < 256) (h : parseE n g = 0) : 1 ≤ n ∧ n ≤ 16 ∧ numTo g n < 2 ^ 128 ∧ nb (numTo g n) = n ∧ ∀ i, i < n → gb (numTo g n) i = g i := by
  have h0 : n ≠ 0 := by
    rintro rfl
    simp [parseE] at h
  have h1 : ¬ 16 < n := by
    intro h1
    rw [parseE, if_neg h0, if_pos h1] at h
    cases h
  have h2 : ¬ (1 < n ∧ g 0 = 0) := by
    intro h2
    rw [parseE, if_neg h0, if_neg h1, if_pos h2] at h
    cases h
  have hlt := numTo_lt g n hg n (Nat.le_refl _)
  have hnb : nb (numTo g n) = n := nb_of _ n (by omega) hlt fun h3 => by
    have h4 := numTo_div g n hg 1 (n - 1) (by omega)
    rw [show 1 + (n - 1) = n by omega] at h4
    have h5 : 1 ≤ numTo g 1 := by
      have : g 0 ≠ 0 := fun e => h2 ⟨h3, e⟩
      simp [numTo]; omega
    rw [← h4] at h5
    exact (Nat.one_le_div_iff (Nat.two_pow_pos _)).1 h5
  refine ⟨by omega, by omega, Nat.lt_of_lt_of_le hlt (Nat.pow_le_pow_right (by decide) (by omega)), hnb, fun i hi => ?_⟩
  have h3 := hg i hi
  have h4 := numTo_div g n hg (i + 1) (n - 1 - i) (by omega)
  rw [show i + 1 + (n - 1 - i) = n by omega] at h4
  rw [gb, hnb, h4, numTo]
  omega

/-- The string of n bytes g. -/
def strG (n : Nat) (g : Nat → Nat) : ByteArray := strN ((List.range n).map fun i => (g i : Int))
set_option maxRecDepth 100000 in
theorem strG_congr {n : Nat} {g h : Nat → Nat} (e : ∀ i, i < n → g i = h i) : strG n g = strG n h := by
  unfold strG
  congr 1
  apply List.map_congr_left
  intro i hi
  rw [e i (List.mem_range.1 hi)]
set_option maxRecDepth 100000 in
theorem conv_reads {w : World} {A : Option Addr} {n cap : Nat} {g : Nat → Nat} (h : ReadsB w A n g) (hn : 1 ≤ n) :
    (convert 22 9 (.slice A n cap)).run Tryz.prog w = .ok (.string (strG n g)) w := by
  obtain ⟨b, o, rfl, hb, hc, hg⟩ := h.resolve_left (by omega)
  rw [run_convert_bytes_string w 22 9 5 _ _ _ Tryz.underlying22 Tryz.underlying5 Tryz.underlying9]
  refine run_bytesToString w ⟨b, o, none⟩ n cap ((List.range n).map fun i => (g i : Int)) ?_
  have e := run_loadCells (P := Tryz.prog) w ⟨b, o, none⟩ n (fun i => Value.int .u8 (g i)) (fun j hj => by rw [Addr.add_mid]; exact hc j hj)
  simpa [Function.comp_def] using e

/-- The call returns the canonical bytes of a, in a row of its own; nothing that there was is changed. -/
def RetB (a : Nat) (w : World) (e : Ending) (w' : World) : Prop := ∃ b cap : Nat, e = .returned (.slice (some ⟨b, 0, none⟩) (nb a) cap) ∧ ReadsB w' (some ⟨b, 0, none⟩) (nb a) (gb a) ∧ Below w.heap.size w w'
end
/- matchguardref01.Parse: what it returns. -/
section
open Go.RowKit

/-- Bit j of the array after i bytes and k bits of the next one. -/
def pb (n : Nat) (g : Nat → Nat) (i k j : Nat) : Bool := decide (j / 8 < n ∧ (n - 1 - j / 8 < i ∨ n - 1 - j / 8 = i ∧ j % 8 < k)) && (g (n - 1 - j / 8)).testBit (j % 8)
set_option maxRecDepth 100000 in
theorem pb_start (n : Nat) (g : Nat → Nat) (j : Nat) : pb n g 0 0 j = false := by
  have h : ¬ (j / 8 < n ∧ (n - 1 - j / 8 < 0 ∨ n - 1 - j / 8 = 0 ∧ j % 8 < 0)) := by omega
  simp only [pb, decide_eq_false h, Bool.false_and]
set_option maxRecDepth 100000 in
theorem pb_row (n : Nat) (g : Nat → Nat) (i j : Nat) : pb n g i 8 j = pb n g (i + 1) 0 j := by
  unfold pb
  congr 1
  rw [decide_eq_decide]
  omega
set_option maxRecDepth 100000 in
theorem pb_step (n : Nat) (g : Nat → Nat) (i k j : Nat) (hi : i < n) (hk : k < 8) : pb n g i (k + 1) j = if j = 8 * (n - 1 - i) + k then (g i).testBit k else pb n g i k j := by
  by_cases h : j = 8 * (n - 1 - i) + k
  · subst h
    rw [if_pos rfl]
    have e1 : (8 * (n - 1 - i) + k) / 8 = n - 1 - i := by omega
    have e2 : (8 * (n - 1 - i) + k) % 8 = k := by omega
    have e3 : n - 1 - (n - 1 - i) = i := by omega
    have h1 : n - 1 - i < n ∧ (i < i ∨ i = i ∧ k < k + 1) := by omega
    unfold pb
    rw [e1, e2, e3, decide_eq_true h1, Bool.true_and]
  · rw [if_neg h]
    unfold pb
    congr 1
    rw [decide_eq_decide]
    omega
set_option maxRecDepth 100000 in
theorem testBit_byte (x r : Nat) (hr : r < 8) : x.testBit r = (x % 256).testBit r := by
  rw [show (256 : Nat) = 2 ^ 8 by decide, Nat.testBit_mod_two_pow]
  simp [hr]
set_option maxRecDepth 100000 in
theorem pb_end (n : Nat) (g : Nat → Nat) (hg : ∀ i, i < n → g i < 256) (j : Nat) : pb n g n 0 j = (numTo g n).testBit j := by
  by_cases h : j / 8 < n
  · have h1 : j / 8 < n ∧ (n - 1 - j / 8 < n ∨ n - 1 - j / 8 = n ∧ j % 8 < 0) := by omega
    have hd := numTo_div g n hg (n - j / 8) (j / 8) (by omega)
    rw [show n - j / 8 + j / 8 = n by omega] at hd
    have e : (numTo g n).testBit j = (numTo g (n - j / 8)).testBit (j % 8) := by
      rw [← hd, Nat.testBit_div_two_pow]
      congr 1
      omega
    rw [e, testBit_byte _ _ (Nat.mod_lt _ (by decide)), show n - j / 8 = (n - 1 - j / 8) + 1 by omega, numTo]
    have hb := hg (n - 1 - j / 8) (by omega)
    rw [show (numTo g (n - 1 - j / 8) * 256 + g (n - 1 - j / 8)) % 256 = g (n - 1 - j / 8) by omega]
    simp only [pb, decide_eq_true h1, Bool.true_and]
  · have h1 : ¬ (j / 8 < n ∧ (n - 1 - j / 8 < n ∨ n - 1 - j / 8 = n ∧ j % 8 < 0)) := by omega
    have hlt := numTo_lt g n hg n (Nat.le_refl _)
    rw [Nat.testBit_lt_two_pow (Nat.lt_of_lt_of_le hlt (Nat.pow_le_pow_right (by decide) (by omega)))]
    simp only [pb, decide_eq_false h1, Bool.false_and]
set_option maxRecDepth 100000 in
theorem ofBits_pb (n : Nat) (g : Nat → Nat) (hg : ∀ i, i < n → g i < 256) (hn : n ≤ 16) : ofBits (pb n g n 0) = numTo g n :=
  ofBits_eq (Nat.lt_of_lt_of_le (numTo_lt g n hg n (Nat.le_refl _)) (Nat.pow_le_pow_right (by decide) (by omega))) fun i _ => pb_end n g hg i
set_option maxRecDepth 100000 in
theorem bit_byte (x k : Nat) (hx : x < 256) : (bits .and .u8 ((x : Int) / 2 ^ k) 1 == 1) = x.testBit k := by
  rw [show ((2 : Int) ^ k) = ((2 ^ k : Nat) : Int) by simp, ← Int.natCast_ediv, show (1 : Int) = ((1 : Nat) : Int) from rfl,
    u8_and_nat _ _ (Nat.lt_of_le_of_lt (Nat.div_le_self _ _) hx) (by decide), Nat.and_one_is_mod, Bool.eq_iff_iff, Nat.testBit_eq_decide_div_mod_eq]
  simp only [beq_iff_eq, decide_eq_true_eq]
  omega

end
/- matchguardref01.Bytes: what it returns. -/
section
open Go.RowKit

/-- Byte q, the lowest one first, of the first i bits of a. -/
def bv (a i q : Nat) : Nat := a % 2 ^ i / 2 ^ (8 * q) % 256
set_option maxRecDepth 100000 in
theorem bv_lt (a i q : Nat) : bv a i q < 256 := Nat.mod_lt _ (by decide)
set_option maxRecDepth 100000 in
theorem bv_0 (a q : Nat) : bv a 0 q = 0 := by simp [bv, Nat.mod_one]
set_option maxRecDepth 100000 in
theorem testBit_bv (a i q r : Nat) : (bv a i q).testBit r = (decide (r < 8) && (decide (r + 8 * q < i) && a.testBit (r + 8 * q))) := by
  unfold bv
  rw [show (256 : Nat) = 2 ^ 8 by decide, Nat.testBit_mod_two_pow, Nat.testBit_div_two_pow, Nat.testBit_mod_two_pow]
set_option maxRecDepth 100000 in
theorem bv_yes (a i : Nat) (h : a.testBit i = true) : bv a (i + 1) (i / 8) = bv a i (i / 8) ||| 2 ^ (i % 8) := by
  apply Nat.eq_of_testBit_eq; intro r
  rw [Nat.testBit_or, testBit_bv, testBit_bv, Nat.testBit_two_pow]
  by_cases e : r = i % 8
  · subst e
    have e1 : i % 8 + 8 * (i / 8) = i := by omega
    have e2 : i % 8 < 8 := by omega
    rw [e1, h]
    simp [e2]
  · have e' : ¬ i % 8 = r := fun x => e x.symm
    by_cases e2 : r < 8
    · have e3 : decide (r + 8 * (i / 8) < i + 1) = decide (r + 8 * (i / 8) < i) := by rw [decide_eq_decide]; omega
      rw [e3]
      simp [e']
    · simp [e2, e']
set_option maxRecDepth 100000 in
theorem bv_other (a i q : Nat) (h : q ≠ i / 8) : bv a (i + 1) q = bv a i q := by
  apply Nat.eq_of_testBit_eq; intro r
  rw [testBit_bv, testBit_bv]
  by_cases e2 : r < 8
  · have e3 : decide (r + 8 * q < i + 1) = decide (r + 8 * q < i) := by rw [decide_eq_decide]; omega
    rw [e3]
  · simp [e2]
set_option maxRecDepth 100000 in
theorem bv_no (a i q : Nat) (h : a.testBit i = false) : bv a (i + 1) q = bv a i q := by
  apply Nat.eq_of_testBit_eq; intro r
  rw [testBit_bv, testBit_bv]
  by_cases e : r + 8 * q = i
  · rw [e, h]; simp
  · have e3 : decide (r + 8 * q < i + 1) = decide (r + 8 * q < i) := by rw [decide_eq_decide]; omega
    rw [e3]
set_option maxRecDepth 100000 in
theorem bv_end (a p : Nat) : bv a (8 * nb a) (nb a - 1 - p) = gb a p := by
  unfold bv gb
  rw [Nat.mod_eq_of_lt (lt_nb a)]
set_option maxRecDepth 100000 in
theorem bv_or (a i : Nat) (h : a.testBit i = true) : bits .or .u8 (bv a i (i / 8)) (2 ^ (i % 8)) = (bv a (i + 1) (i / 8) : Int) := by
  have h1 : 2 ^ (i % 8) < 256 := by
    rw [show (256 : Nat) = 2 ^ 8 by decide]; exact Nat.pow_lt_pow_right (by decide) (Nat.mod_lt _ (by decide))
  rw [show ((2 : Int) ^ (i % 8)) = ((2 ^ (i % 8) : Nat) : Int) by simp, u8_or_nat _ _ (bv_lt _ _ _) h1, bv_yes a i h]
set_option maxRecDepth 100000 in
theorem wrap_pow8 (k : Nat) (hk : k < 8) : IntKind.u8.wrap (2 ^ k) = 2 ^ k := by
  have h1 : 2 ^ k < 256 := by
    rw [show (256 : Nat) = 2 ^ 8 by decide]; exact Nat.pow_lt_pow_right (by decide) hk
  rw [IntKind.wrap_u8, show ((2 : Int) ^ k) = ((2 ^ k : Nat) : Int) by simp]
  generalize 2 ^ k = n at h1 ⊢
  omega
set_option maxRecDepth 100000 in
theorem made_row (z : Value) (n : Nat) : madeCells #[z] n = rowA n fun _ => z := by
  apply Array.ext'
  simp [madeCells, rowA, rowL, Nat.mod_one]
set_option maxRecDepth 100000 in
theorem info8 : (Tryz.prog.info? 5).map (fun i => (i.zero, i.size, i.bytes)) = some (some (.int .u8 0), 1, 1) := by kernel_rfl
set_option maxRecDepth 100000 in
theorem max_nb7 (a : Nat) : max (1 : Int) (((bitLen a : Int) + 7) / 8) = nb a := by
  unfold nb
  omega

/-- Where Bytes is after i bits: the bits lie in block X, the bytes in block O. -/
structure RB (w : World) (a n X O i : Nat) (W : World) : Prop where
  below : Below w.heap.size w W
  no : w.heap.size ≤ O
  ne : O ≠ X
  lo : O < W.heap.size
  arr : BitsAt W X a.testBit
  out : RowAt W O n fun p => .int .u8 (bv a i (n - 1 - p))
set_option maxRecDepth 100000 in
theorem RB.put {w : World} {a n X O i : Nat} {W : World} (h : RB w a n X O i W) (p q : Nat) (hp : p < n) (hq : q = n - 1 - p) (e : q = i / 8) : RB w a n X O (i + 1) (W.setCell ⟨O, p, none⟩ (.int .u8 (bv a (i + 1) q))) where
  below := h.below.setCell h.no _
  no := h.no
  ne := h.ne
  lo := by have := h.lo; simpa [World.setCell] using this
  arr := h.arr.far _ h.ne _
  out := h.out.put p hp _ fun k hk => by
    by_cases hkp : k = p
    · subst hkp
      rw [if_pos rfl, hq]
    · rw [if_neg hkp, bv_other _ _ _ (by omega)]
set_option maxRecDepth 100000 in
theorem RB.skip {w : World} {a n X O i : Nat} {W : World} (h : RB w a n X O i W) (hb : a.testBit i = false) : RB w a n X O (i + 1) W :=
  { h with out := h.out.congr fun k _ => by rw [bv_no _ _ _ hb] }

/-- The same with the block, which is new. -/
def RetBN (a : Nat) (w : World) (e : Ending) (w' : World) : Prop := ∃ b cap : Nat, e = .returned (.slice (some ⟨b, 0, none⟩) (nb a) cap) ∧ ReadsB w' (some ⟨b, 0, none⟩) (nb a) (gb a) ∧ Below w.heap.size w w' ∧ w.heap.size ≤ b
end
end Go.Proofs.YtldgjahpmlafgaaGreat
