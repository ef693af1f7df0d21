/- Contracts, joined: Begun, Parse, BackPure, RefParse, RefBytes. -/
import Derived.Test.YtljmiickhkkceaaJVal
import Derived.Test.YtljmiickhkkceaaJBits
import Derived.Deep.OwnRows
namespace Go.Proofs.Ytljmiickhkkceaa
/- The sanity check 'begun' of the laws: it returns true. -/
section
open Go.RowKit

def byteNs (a : Nat) : List Int := (List.range (nb a)).map fun i => byteOf a (nb a - 1 - i)
set_option maxRecDepth 100000 in
theorem byteCells_ns (a : Nat) : byteCells a = (byteNs a).map (Value.int .u8) := by
  simp [byteCells, byteNs, rowL, Function.comp_def]
/-- The string of these bytes. -/
def strN (ns : List Int) : ByteArray := ns.foldl (fun r n => r.push (UInt8.ofNat n.toNat)) ByteArray.empty

set_option maxRecDepth 100000 in
theorem conv_row {w : World} {base n : Nat} {v : Value} (ns : List Int) (h : w.ownsRow base 5 1 v n (ns.map (Value.int .u8))) (hn : 1 ≤ n) :
    (convert 32 9 v).run Try.prog w = .ok (.string (strN ns)) w := by
  rcases h with ⟨hl, ⟨rfl, h0⟩ | ⟨g, cap, cur, rfl, hb, hh, hc, hm, hs, ht⟩⟩
  · omega
  · rw [run_convert_bytes_string w 32 9 5 _ _ _ Try.underlying32 Try.underlying5 Try.underlying9]
    refine run_bytesToString w ⟨g, 0, none⟩ n cap ns ?_
    have e := run_loadCells_list (P := Try.prog) w ⟨g, 0, none⟩ (ns.map (Value.int .u8)) (fun j u hu => by
      rw [Addr.add_mid, cell_of_row w g (0 + j) cur 5 (0, 0) hh, ← ht] at *
      simp only [List.getElem?_take] at hu
      split at hu
      · simpa using hu
      · cases hu)
    simpa [hl] using e

set_option maxRecDepth 100000 in
theorem conv_bytes {w : World} {base : Nat} {v : Value} {a : Nat} (h : w.ownsRow base 5 1 v (byteCells a).length (byteCells a)) :
    (convert 32 9 v).run Try.prog w = .ok (.string (strN (byteNs a))) w := by
  rw [byteCells_len] at h
  rw [byteCells_ns] at h
  exact conv_row (byteNs a) h (nb_pos a)
set_option maxRecDepth 100000 in
theorem str_256 : strN (byteNs 256) = ⟨#[1, 0]⟩ := by decide +kernel
set_option maxRecDepth 100000 in
theorem str_0 : strN (byteNs 0) = ⟨#[0]⟩ := by decide +kernel
set_option maxRecDepth 100000 in
theorem bytes_zero (w : World) : Calls Try.prog 83 #[.agg #[.int .u64 0, .int .u64 0]] w (RetRow 5 (byteCells 0) w) := by
  have h := bytes_any 0 (by decide) w
  rw [show hi 0 = 0 from rfl, show lo 0 = 0 from rfl] at h
  exact h

end
/- Parse of package value: what it returns. -/
section
open Go.RowKit

/-- A slice of n bytes g that can be read; it is nil, or lies in an old block. -/
def ReadsB (w : World) (A : Option Addr) (n : Nat) (g : Nat → Nat) : Prop :=
  n = 0 ∨ ∃ b o : Nat, A = some ⟨b, o, none⟩ ∧ b < w.heap.size ∧ (∀ i, i < n → w.cell? ⟨b, o + i, none⟩ = some (.int .u8 (g i))) ∧ ∀ i, i < n → g i < 256
set_option maxRecDepth 100000 in
theorem ReadsB.below {w w' : World} {A : Option Addr} {n : Nat} {g : Nat → Nat} (h : ReadsB w A n g) (hx : Below w.heap.size w w') : ReadsB w' A n g := by
  rcases h with h | ⟨b, o, rfl, hb, hc, hg⟩
  · exact .inl h
  · exact .inr ⟨b, o, rfl, Nat.lt_of_lt_of_le hb hx.size, fun i hi => by rw [hx.cell (p := ⟨_, _, none⟩) hb]; exact hc i hi, hg⟩

/-- The number of the first k bytes. -/
def numTo (g : Nat → Nat) : Nat → Nat
  | 0 => 0
  | k + 1 => numTo g k * 256 + g k
set_option maxRecDepth 100000 in
theorem numTo_lt (g : Nat → Nat) (n : Nat) (hg : ∀ i, i < n → g i < 256) : ∀ k, k ≤ n → numTo g k < 2 ^ (8 * k)
  | 0, _ => by simp [numTo]
  | k + 1, h => by
    have ih := numTo_lt g n hg k (by omega)
    have hk := hg k (by omega)
    rw [show 8 * (k + 1) = 8 * k + 8 by omega, Nat.pow_add]
    simp only [numTo]
    omega
set_option maxRecDepth 100000 in
theorem numTo_step (a x : Nat) (k : Nat) (ha : a < 2 ^ (8 * k)) (hk : k < 16) (hx : x < 256) : vleft a 8 ||| x = a * 256 + x := by
  have h1 : a < 2 ^ 120 := Nat.lt_of_lt_of_le ha (Nat.pow_le_pow_right (by decide) (by omega))
  unfold vleft
  rw [Nat.mod_eq_of_lt (by omega)]
  have := Nat.two_pow_add_eq_or_of_lt (i := 8) (b := x) (by omega) a
  rw [Nat.mul_comm a, ← this]

/-- The code of Parse's error (0: none). -/
def parseE (n : Nat) (g : Nat → Nat) : Int := if n = 0 then 1 else if 16 < n then 3 else if 1 < n ∧ g 0 = 0 then 5 else 0
def parseV (n : Nat) (g : Nat → Nat) : Nat := if parseE n g = 0 then numTo g n else 0
/-- The call returns the value v with the code e; nothing that there was is changed. -/
def RetVE (v : Nat) (e : Int) (w : World) (en : Ending) (w' : World) : Prop := en = .returned (.tuple #[.agg #[.int .u64 (hi v), .int .u64 (lo v)], .int .i64 e]) ∧ Below w.heap.size w w'

/-- Where Parse is after k bytes. -/
structure ParseAt (w : World) (v : Nat) (w' : World) : Prop where
  below : Below w.heap.size w w'
  size : w.heap.size + 2 ≤ w'.heap.size
  r0 : w'.cell? ⟨w.heap.size, 0, none⟩ = some (.int .u64 0)
  r1 : w'.cell? ⟨w.heap.size, 1, none⟩ = some (.int .u64 0)
  q0 : w'.frozen? ⟨w.heap.size, 0, none⟩ = false
  q1 : w'.frozen? ⟨w.heap.size, 1, none⟩ = false
  a0 : w'.cell? ⟨w.heap.size + 1, 0, none⟩ = some (.int .u64 (hi v))
  a1 : w'.cell? ⟨w.heap.size + 1, 1, none⟩ = some (.int .u64 (lo v))
  f0 : w'.frozen? ⟨w.heap.size + 1, 0, none⟩ = false
  f1 : w'.frozen? ⟨w.heap.size + 1, 1, none⟩ = false
set_option maxRecDepth 100000 in
theorem ParseAt.next {w : World} {v : Nat} {W W' : World} (h : ParseAt w v W) (hx : Below W.heap.size W W') (u : Nat) :
    ParseAt w u ((W'.setCell ⟨w.heap.size + 1, 0, none⟩ (.int .u64 (hi u))).setCell ⟨w.heap.size + 1, 1, none⟩ (.int .u64 (lo u))) := by
  have hs := h.size
  have hs2 := hx.size
  have c0 : W'.cell? ⟨w.heap.size + 1, 0, none⟩ = some (.int .u64 (hi v)) := by rw [hx.cell (p := ⟨_, _, none⟩) (by simp; omega)]; exact h.a0
  have c1 : W'.cell? ⟨w.heap.size + 1, 1, none⟩ = some (.int .u64 (lo v)) := by rw [hx.cell (p := ⟨_, _, none⟩) (by simp; omega)]; exact h.a1
  exact {
    below := ((h.below.trans (hx.mono h.below.size)).setCell (by simp) _).setCell (by simp) _
    size := by have : w.heap.size + 2 ≤ W'.heap.size := by omega
               simpa [World.setCell] using this
    r0 := by rw [World.cell?_setCell_far _ _ _ _ (by simp), World.cell?_setCell_far _ _ _ _ (by simp), hx.cell (p := ⟨_, _, none⟩) (by simp; omega)]; exact h.r0
    r1 := by rw [World.cell?_setCell_far _ _ _ _ (by simp), World.cell?_setCell_far _ _ _ _ (by simp), hx.cell (p := ⟨_, _, none⟩) (by simp; omega)]; exact h.r1
    q0 := by rw [World.frozen?_setCell, World.frozen?_setCell, hx.frozen (p := ⟨_, _, none⟩) (by simp; omega)]; exact h.q0
    q1 := by rw [World.frozen?_setCell, World.frozen?_setCell, hx.frozen (p := ⟨_, _, none⟩) (by simp; omega)]; exact h.q1
    a0 := by rw [World.cell?_setCell_other _ _ _ _ (by simp)]; exact World.cell?_setCell_same' _ _ _ (by rw [c0]; rfl)
    a1 := World.cell?_setCell_same' _ _ _ (by rw [World.cell?_setCell_other _ _ _ _ (by simp), c1]; rfl)
    f0 := by rw [World.frozen?_setCell, World.frozen?_setCell, hx.frozen (p := ⟨_, _, none⟩) (by simp; omega)]; exact h.f0
    f1 := by rw [World.frozen?_setCell, World.frozen?_setCell, hx.frozen (p := ⟨_, _, none⟩) (by simp; omega)]; exact h.f1 }

set_option maxRecDepth 100000 in
theorem hi_zero : hi 0 = 0 := rfl
set_option maxRecDepth 100000 in
theorem lo_zero : lo 0 = 0 := rfl
set_option maxRecDepth 100000 in
set_option maxHeartbeats 4000000 in
theorem parse_any (A : Option Addr) (n cap : Nat) (g : Nat → Nat) (w : World) (hr : ReadsB w A n g) (hn : n ≤ 100) :
    Calls Try.prog 124 #[.slice A n cap] w (RetVE (parseV n g) (parseE n g) w) := by
  by_cases h0 : n = 0
  · have e1 : parseE n g = 1 := by simp [parseE, h0]
    have e2 : parseV n g = 0 := by simp [parseV, e1]
    rw [e1, e2]
    clear e1 e2 hr hn
    subst h0
    go_enter Try.func124, Try.ntmps124
    go_wp2
    refine bodyPost_ret (v := .tuple #[.agg #[.int .u64 (hi 0), .int .u64 (lo 0)], .int .i64 1]) (by simp [results, Try.results124, go_sem, hi_zero, lo_zero]) rfl ⟨rfl, ?_⟩
    exact (Below.refl _ _).alloc (by simp) _
  · obtain ⟨b, o, rfl, hb, hc, hg⟩ := hr.resolve_left h0
    have n0 : ((n : Int) == 0) = false := by simp; omega
    by_cases h1 : 16 < n
    · have e1 : parseE n g = 3 := by simp [parseE, h0, h1]
      have e2 : parseV n g = 0 := by simp [parseV, e1]
      rw [e1, e2]
      have h1' : (16 : Int) < (n : Int) := by omega
      clear e1 e2 hr hc hg h0 h1
      go_enter Try.func124, Try.ntmps124
      go_wp2
      refine bodyPost_ret (v := .tuple #[.agg #[.int .u64 (hi 0), .int .u64 (lo 0)], .int .i64 3]) (by simp [results, Try.results124, go_sem, hi_zero, lo_zero]) rfl ⟨rfl, ?_⟩
      exact (Below.refl _ _).alloc (by simp) _
    · have h1' : (n : Int) ≤ 16 := by omega
      have hc0 := hc 0 (by omega)
      rw [Nat.add_zero] at hc0
      by_cases h2 : 1 < n ∧ g 0 = 0
      · have e1 : parseE n g = 5 := by simp [parseE, h0, h1, h2]
        have e2 : parseV n g = 0 := by simp [parseV, e1]
        rw [e1, e2]
        obtain ⟨h3, h4⟩ := h2
        rw [h4] at hc0
        have h3' : (1 : Int) < (n : Int) := by omega
        have h5 : (0 : Int) < (n : Int) := by omega
        clear e1 e2 hr hc hg h0 h1 h3 h4 hn
        go_enter Try.func124, Try.ntmps124
        go_wp2
        refine bodyPost_ret (v := .tuple #[.agg #[.int .u64 (hi 0), .int .u64 (lo 0)], .int .i64 5]) (by simp [results, Try.results124, go_sem, hi_zero, lo_zero]) rfl ⟨rfl, ?_⟩
        exact (Below.refl _ _).alloc (by simp) _
      · have e1 : parseE n g = 0 := by simp [parseE, h0, h1, h2]
        have e2 : parseV n g = numTo g n := by simp [parseV, e1]
        rw [e1, e2]
        have h6 : decide ((16 : Int) < (n : Int)) = false := by simp; omega
        have HE := Lib.hid h2
        have h5 : (0 : Int) < (n : Int) := by omega
        have HC := Lib.hid hc
        have HG := Lib.hid hg
        have hlt := numTo_lt g n hg
        have HL := Lib.hid hlt
        clear e1 e2 hr hc hg h0 h1 h2 hlt
        have key : Calls Try.prog 124 #[.slice (some ⟨b, o, none⟩) n cap] w (RetVE (numTo g n) 0 w) := by
          by_cases h3 : (1 : Int) < (n : Int)
          · have h4 : ((g 0 : Int) == 0) = false := by have := HE.out; simp; omega
            go_enter Try.func124, Try.ntmps124
            go_wp2
            go_loopw [30] (fun i w' => ∃ k : Nat, k ≤ n ∧ i = .int .i64 k ∧ ParseAt w (numTo g k) w') (fun i _ => 16 - (intOf i).toNat)
            case atStart => exact ⟨0, by omega, rfl, ((Below.refl _ _).alloc (by simp) _).alloc (by simp) _, by simp, by simp [go_sem], by simp [go_sem], by simp [go_sem], by simp [go_sem], by simp [go_sem, numTo, hi_zero], by simp [go_sem, numTo, lo_zero], by simp [go_sem], by simp [go_sem]⟩
            case round =>
              obtain ⟨k, hk, rfl, hR⟩ := hrel
              have hs := hR.size
              by_cases hlt : (k : Int) < n
              · have i0 : wr.cell? ⟨b, o + k, none⟩ = some (.int .u8 (g k)) := by rw [hR.below.cell (p := ⟨_, _, none⟩) hb]; exact HC.out k (by omega)
                have a0 := hR.a0
                have a1 := hR.a1
                have f0 := hR.f0
                have f1 := hR.f1
                have HX := Lib.hid (HG.out k (by omega))
                have HS := Lib.hid (numTo_step (numTo g k) (g k) k (HL.out k hk) (by omega) (HG.out k (by omega)))
                have HV : Hid (numTo g k < 2 ^ 128) := Lib.hid (Nat.lt_of_lt_of_le (HL.out k hk) (Nat.pow_le_pow_right (by decide) (by omega)))
                have HU : Hid (numTo g (k + 1) = numTo g k * 256 + g k) := Lib.hid rfl
                have wx : IntKind.u64.wrap (g k : Int) = (g k : Int) := by rw [IntKind.wrap_u64]; have := HX.out; omega
                generalize numTo g k = v at hR a0 a1 HS HV HU
                generalize g k = x at i0 HX HS HU wx
                go_wp2_with (first
                  | (go_at_call 133; refine (left_any v 8 HV.out (by decide) _).mono ?_; rintro e w1 ⟨rfl, hx1⟩)
                  | (go_at_call 134; refine (of_any x (by have := HX.out; omega) _).mono ?_; rintro e w2 ⟨rfl, hx2⟩)
                  | (go_at_call 132; refine (or_any _ _ _).mono ?_; rintro e w3 ⟨rfl, hx3⟩; have hB3 : Below wr.heap.size wr w3 := (hx1.trans (hx2.mono hx1.size)).trans (hx3.mono (Nat.le_trans hx1.size hx2.size)); obtain ⟨hc3, hf3, hz3⟩ := after (w.heap.size + 2) hB3 hs hs; have k0 := (hc3 (w.heap.size + 1) 0 (by omega)).trans a0; have k1 := (hc3 (w.heap.size + 1) 1 (by omega)).trans a1; have m0 := (hf3 (w.heap.size + 1) 0 (by omega)).trans hR.f0; have m1 := (hf3 (w.heap.size + 1) 1 (by omega)).trans hR.f1))
                go_roundw
                all_goals go_light
                case measure => simp [intOf]; omega
                refine ⟨k + 1, by omega, by simp, ?_⟩
                have hN := hR.next hB3 (numTo g (k + 1))
                rw [HU.out, ← HS.out] at hN ⊢
                exact hN
              · have e : k = n := by omega
                subst e
                have a0 := hR.a0
                have a1 := hR.a1
                have r0 := hR.r0
                have r1 := hR.r1
                have q0 := hR.q0
                have q1 := hR.q1
                generalize numTo g k = v at *
                go_wp2
                refine bodyPost_ret (v := .tuple #[.agg #[.int .u64 (hi v), .int .u64 (lo v)], .int .i64 0]) (by simp [results, Try.results124, go_sem, r0, r1]) rfl ⟨rfl, ?_⟩
                exact (hR.below.setCell (by simp) _).setCell (by simp) _
          · have h4 : decide ((1 : Int) < (n : Int)) = false := by simp; omega
            go_enter Try.func124, Try.ntmps124
            go_wp2
            go_loopw [30] (fun i w' => ∃ k : Nat, k ≤ n ∧ i = .int .i64 k ∧ ParseAt w (numTo g k) w') (fun i _ => 16 - (intOf i).toNat)
            case atStart => exact ⟨0, by omega, rfl, ((Below.refl _ _).alloc (by simp) _).alloc (by simp) _, by simp, by simp [go_sem], by simp [go_sem], by simp [go_sem], by simp [go_sem], by simp [go_sem, numTo, hi_zero], by simp [go_sem, numTo, lo_zero], by simp [go_sem], by simp [go_sem]⟩
            case round =>
              obtain ⟨k, hk, rfl, hR⟩ := hrel
              have hs := hR.size
              by_cases hlt : (k : Int) < n
              · have i0 : wr.cell? ⟨b, o + k, none⟩ = some (.int .u8 (g k)) := by rw [hR.below.cell (p := ⟨_, _, none⟩) hb]; exact HC.out k (by omega)
                have a0 := hR.a0
                have a1 := hR.a1
                have f0 := hR.f0
                have f1 := hR.f1
                have HX := Lib.hid (HG.out k (by omega))
                have HS := Lib.hid (numTo_step (numTo g k) (g k) k (HL.out k hk) (by omega) (HG.out k (by omega)))
                have HV : Hid (numTo g k < 2 ^ 128) := Lib.hid (Nat.lt_of_lt_of_le (HL.out k hk) (Nat.pow_le_pow_right (by decide) (by omega)))
                have HU : Hid (numTo g (k + 1) = numTo g k * 256 + g k) := Lib.hid rfl
                have wx : IntKind.u64.wrap (g k : Int) = (g k : Int) := by rw [IntKind.wrap_u64]; have := HX.out; omega
                generalize numTo g k = v at hR a0 a1 HS HV HU
                generalize g k = x at i0 HX HS HU wx
                go_wp2_with (first
                  | (go_at_call 133; refine (left_any v 8 HV.out (by decide) _).mono ?_; rintro e w1 ⟨rfl, hx1⟩)
                  | (go_at_call 134; refine (of_any x (by have := HX.out; omega) _).mono ?_; rintro e w2 ⟨rfl, hx2⟩)
                  | (go_at_call 132; refine (or_any _ _ _).mono ?_; rintro e w3 ⟨rfl, hx3⟩; have hB3 : Below wr.heap.size wr w3 := (hx1.trans (hx2.mono hx1.size)).trans (hx3.mono (Nat.le_trans hx1.size hx2.size)); obtain ⟨hc3, hf3, hz3⟩ := after (w.heap.size + 2) hB3 hs hs; have k0 := (hc3 (w.heap.size + 1) 0 (by omega)).trans a0; have k1 := (hc3 (w.heap.size + 1) 1 (by omega)).trans a1; have m0 := (hf3 (w.heap.size + 1) 0 (by omega)).trans hR.f0; have m1 := (hf3 (w.heap.size + 1) 1 (by omega)).trans hR.f1))
                go_roundw
                all_goals go_light
                case measure => simp [intOf]; omega
                refine ⟨k + 1, by omega, by simp, ?_⟩
                have hN := hR.next hB3 (numTo g (k + 1))
                rw [HU.out, ← HS.out] at hN ⊢
                exact hN
              · have e : k = n := by omega
                subst e
                have a0 := hR.a0
                have a1 := hR.a1
                have r0 := hR.r0
                have r1 := hR.r1
                have q0 := hR.q0
                have q1 := hR.q1
                generalize numTo g k = v at *
                go_wp2
                refine bodyPost_ret (v := .tuple #[.agg #[.int .u64 (hi v), .int .u64 (lo v)], .int .i64 0]) (by simp [results, Try.results124, go_sem, r0, r1]) rfl ⟨rfl, ?_⟩
                exact (hR.below.setCell (by simp) _).setCell (by simp) _
        exact key
end
/- Canonical byte strings and numbers: plain facts; Bytes with its result's form. -/
section
open Go.RowKit

/-- Byte i of the canonical string of a. -/
def gb (a i : Nat) : Nat := a / 2 ^ (8 * (nb a - 1 - i)) % 256
set_option maxRecDepth 100000 in
theorem gb_lt (a i : Nat) : gb a i < 256 := Nat.mod_lt _ (by decide)
set_option maxRecDepth 100000 in
theorem byteOf_gb (a i : Nat) : byteOf a (nb a - 1 - i) = (gb a i : Nat) := rfl
set_option maxRecDepth 100000 in
theorem lt_nb (a : Nat) : a < 2 ^ (8 * nb a) := by
  have h := (bitLen_spec a).1
  refine Nat.lt_of_lt_of_le h (Nat.pow_le_pow_right (by decide) ?_)
  unfold nb; omega
set_option maxRecDepth 100000 in
theorem ge_nb (a : Nat) (h : 1 < nb a) : 2 ^ (8 * (nb a - 1)) ≤ a := by
  have h0 : a ≠ 0 := by
    rintro rfl
    have : nb 0 = 1 := by decide
    omega
  refine Nat.le_trans (Nat.pow_le_pow_right (by decide) ?_) ((bitLen_spec a).2 h0)
  unfold nb at h ⊢
  omega
theorem nb_of (y n : Nat) (hn : 1 ≤ n) (h1 : y < 2 ^ (8 * n)) (h2 : 1 < n → 2 ^ (8 * (n - 1)) ≤ y) : nb y = n := by
  have l1 : bitLen y ≤ 8 * n := by
    unfold bitLen
    split
    · omega
    · rename_i h0
      have := (Nat.log2_lt h0).2 h1
      omega
  by_cases h : 1 < n
  · have h3 := h2 h
    have h4 := (bitLen_spec y).1
    have : 8 * (n - 1) < bitLen y := by
      rcases Nat.lt_or_ge (8 * (n - 1)) (bitLen y) with h5 | h5
      · exact h5
      · have := Nat.pow_le_pow_right (n := 2) (by decide) h5
        omega
    unfold nb; omega
  · unfold nb; omega
set_option maxRecDepth 100000 in
theorem nb_mono (a b : Nat) (h : a ≤ b) : nb a ≤ nb b := by
  have h1 := (bitLen_spec b).1
  have : bitLen a ≤ bitLen b := by
    have h2 : a < 2 ^ bitLen b := by omega
    by_cases h0 : a = 0
    · subst h0; simp [bitLen]
    · have h3 := (bitLen_spec a).2 h0
      rcases Nat.lt_or_ge (bitLen b) (bitLen a) with h5 | h5
      · have := Nat.pow_le_pow_right (n := 2) (by decide) (show bitLen b ≤ bitLen a - 1 by omega)
        omega
      · exact h5
  unfold nb; omega

set_option maxRecDepth 100000 in
theorem numTo_gb (a : Nat) : ∀ k, k ≤ nb a → numTo (gb a) k = a / 2 ^ (8 * (nb a - k))
  | 0, _ => by rw [numTo, Nat.sub_zero, Nat.div_eq_of_lt (lt_nb a)]
  | k + 1, h => by
    rw [numTo, numTo_gb a k (by omega), gb]
    have e : 8 * (nb a - k) = 8 * (nb a - 1 - k) + 8 := by omega
    have e2 : nb a - (k + 1) = nb a - 1 - k := by omega
    rw [e, e2, Nat.pow_add, ← Nat.div_div_eq_div_mul]
    have : (2 : Nat) ^ 8 = 256 := by decide
    rw [this]
    generalize a / 2 ^ (8 * (nb a - 1 - k)) = q
    omega
set_option maxRecDepth 100000 in
theorem parse_gb (a : Nat) (ha : a < 2 ^ 128) : parseE (nb a) (gb a) = 0 ∧ parseV (nb a) (gb a) = a := by
  have h1 := nb_pos a
  have h2 := nb_le a ha
  have e : parseE (nb a) (gb a) = 0 := by
    have h3 : ¬ (1 < nb a ∧ gb a 0 = 0) := by
      rintro ⟨h4, h5⟩
      have h6 := ge_nb a h4
      have h7 := lt_nb a
      have hd : a / 2 ^ (8 * (nb a - 1)) < 256 := by
        rw [Nat.div_lt_iff_lt_mul (Nat.two_pow_pos _), show (256 : Nat) = 2 ^ 8 by decide, ← Nat.pow_add]
        rw [show 8 + 8 * (nb a - 1) = 8 * nb a by omega]; exact h7
      have hd2 : 1 ≤ a / 2 ^ (8 * (nb a - 1)) := (Nat.one_le_div_iff (Nat.two_pow_pos _)).2 h6
      unfold gb at h5
      rw [Nat.sub_zero, Nat.mod_eq_of_lt hd] at h5
      omega
    unfold parseE
    rw [if_neg (by omega), if_neg (by omega), if_neg h3]
  refine ⟨e, ?_⟩
  rw [parseV, if_pos e, numTo_gb a (nb a) (Nat.le_refl _), Nat.sub_self, Nat.mul_zero, Nat.pow_zero, Nat.div_one]

set_option maxRecDepth 100000 in
theorem numTo_div (g : Nat → Nat) (n : Nat) (hg : ∀ i, i < n → g i < 256) (k : Nat) : ∀ m, k + m ≤ n → numTo g (k + m) / 2 ^ (8 * m) = numTo g k
  | 0, _ => by simp
  | m + 1, h => by
    have h1 := hg (k + m) (by omega)
    have ih := numTo_div g n hg k m (by omega)
    rw [show k + (m + 1) = (k + m) + 1 by omega, numTo, show 8 * (m + 1) = 8 + 8 * m by omega, Nat.pow_add, ← Nat.div_div_eq_div_mul, show (2 : Nat) ^ 8 = 256 by decide]
    rw [show (numTo g (k + m) * 256 + g (k + m)) / 256 = numTo g (k + m) by omega, ih]
set_option maxRecDepth 100000 in
theorem parse_ok (n : Nat) (g : Nat → Nat) (hg : ∀ i, i < n → g i < 256) (h : parseE n g = 0) : 1 ≤ n ∧ n ≤ 16 ∧ numTo g n < 2 ^ 128 ∧ nb (numTo g n) = n ∧ ∀ i, i < n → gb (numTo g n) i = g i := by
  have h0 : n ≠ 0 := by
    rintro rfl
    simp [parseE] at h
  have h1 : ¬ 16 < n := by
    intro h1
    rw [parseE, if_neg h0, if_pos h1] at h
    cases h
  have h2 : ¬ (1 < n ∧ g 0 = 0) := by
    intro h2
    rw [parseE, if_neg h0, if_neg h1, if_pos h2] at h
    cases h
  have hlt := numTo_lt g n hg n (Nat.le_refl _)
  have hnb : nb (numTo g n) = n := nb_of _ n (by omega) hlt fun h3 => by
    have h4 := numTo_div g n hg 1 (n - 1) (by omega)
    rw [show 1 + (n - 1) = n by omega] at h4
    have h5 : 1 ≤ numTo g 1 := by
      have : g 0 ≠ 0 := fun e => h2 ⟨h3, e⟩
      simp [numTo]; omega
    rw [← h4] at h5
    exact (Nat.one_le_div_iff (Nat.two_pow_pos _)).1 h5
  refine ⟨by omega, by omega, Nat.lt_of_lt_of_le hlt (Nat.pow_le_pow_right (by decide) (by omega)), hnb, fun i hi => ?_⟩
  have h3 := hg i hi
  have h4 := numTo_div g n hg (i + 1) (n - 1 - i) (by omega)
  rw [show i + 1 + (n - 1 - i) = n by omega] at h4
  rw [gb, hnb, h4, numTo]
  omega

/-- The string of n bytes g. -/
def strG (n : Nat) (g : Nat → Nat) : ByteArray := strN ((List.range n).map fun i => (g i : Int))
set_option maxRecDepth 100000 in
theorem strG_congr {n : Nat} {g h : Nat → Nat} (e : ∀ i, i < n → g i = h i) : strG n g = strG n h := by
  unfold strG
  congr 1
  apply List.map_congr_left
  intro i hi
  rw [e i (List.mem_range.1 hi)]
set_option maxRecDepth 100000 in
theorem conv_reads {w : World} {A : Option Addr} {n cap : Nat} {g : Nat → Nat} (h : ReadsB w A n g) (hn : 1 ≤ n) :
    (convert 32 9 (.slice A n cap)).run Try.prog w = .ok (.string (strG n g)) w := by
  obtain ⟨b, o, rfl, hb, hc, hg⟩ := h.resolve_left (by omega)
  rw [run_convert_bytes_string w 32 9 5 _ _ _ Try.underlying32 Try.underlying5 Try.underlying9]
  refine run_bytesToString w ⟨b, o, none⟩ n cap ((List.range n).map fun i => (g i : Int)) ?_
  have e := run_loadCells (P := Try.prog) w ⟨b, o, none⟩ n (fun i => Value.int .u8 (g i)) (fun j hj => by rw [Addr.add_mid]; exact hc j hj)
  simpa [Function.comp_def] using e

/-- The call returns the canonical bytes of a, in a row of its own; nothing that there was is changed. -/
def RetB (a : Nat) (w : World) (e : Ending) (w' : World) : Prop := ∃ b cap : Nat, e = .returned (.slice (some ⟨b, 0, none⟩) (nb a) cap) ∧ ReadsB w' (some ⟨b, 0, none⟩) (nb a) (gb a) ∧ Below w.heap.size w w'
set_option maxRecDepth 100000 in
theorem bytes_form (a : Nat) (ha : a < 2 ^ 128) (w : World) :
    Calls Try.prog 83 #[.agg #[.int .u64 (hi a), .int .u64 (lo a)]] w (RetB a w) := by
  refine (bytes_any a ha w).mono ?_
  rintro e w' ⟨v, rfl, ⟨hl, ⟨rfl, h0⟩ | ⟨g, cap, cur, rfl, hb, hh, hc, hm, hs, ht⟩⟩, hB⟩
  · rw [byteCells_len] at h0
    have := nb_pos a
    omega
  · have hl2 := byteCells_len a
    refine ⟨g, cap, by rw [hl2], .inr ⟨g, 0, rfl, ?_, fun i hi => ?_, fun i _ => gb_lt a i⟩, hB⟩
    · rcases Nat.lt_or_ge g w'.heap.size with h | h
      · exact h
      · rw [Array.getElem?_eq_none h] at hh; cases hh
    · rw [cell_of_row w' g (0 + i) cur 5 (0, 0) hh, Nat.zero_add]
      have h1 : (byteCells a)[i]? = some (.int .u8 (gb a i)) := by rw [byteCells, rowL_get _ _ _ hi, byteOf_gb]
      rw [← ht, List.getElem?_take] at h1
      split at h1
      · simpa using h1
      · cases h1
theorem parse_canon (a b cap : Nat) (ha : a < 2 ^ 128) (w : World) (h : ReadsB w (some ⟨b, 0, none⟩) (nb a) (gb a)) :
    Calls Try.prog 124 #[.slice (some ⟨b, 0, none⟩) (nb a) cap] w (RetVE a 0 w) := by
  have e := parse_any (some ⟨b, 0, none⟩) (nb a) cap (gb a) w h (by have := nb_le a ha; omega)
  obtain ⟨h1, h2⟩ := parse_gb a ha
  rw [h1, h2] at e
  exact e
end
/- matchguardref01.Parse: what it returns. -/
section
open Go.RowKit

/-- Bit j of the array after i bytes and k bits of the next one. -/
def pb (n : Nat) (g : Nat → Nat) (i k j : Nat) : Bool := decide (j / 8 < n ∧ (n - 1 - j / 8 < i ∨ n - 1 - j / 8 = i ∧ j % 8 < k)) && (g (n - 1 - j / 8)).testBit (j % 8)
set_option maxRecDepth 100000 in
theorem pb_start (n : Nat) (g : Nat → Nat) (j : Nat) : pb n g 0 0 j = false := by
  have h : ¬ (j / 8 < n ∧ (n - 1 - j / 8 < 0 ∨ n - 1 - j / 8 = 0 ∧ j % 8 < 0)) := by omega
  simp only [pb, decide_eq_false h, Bool.false_and]
set_option maxRecDepth 100000 in
theorem pb_row (n : Nat) (g : Nat → Nat) (i j : Nat) : pb n g i 8 j = pb n g (i + 1) 0 j := by
  unfold pb
  congr 1
  rw [decide_eq_decide]
  omega
set_option maxRecDepth 100000 in
theorem pb_step (n : Nat) (g : Nat → Nat) (i k j : Nat) (hi : i < n) (hk : k < 8) : pb n g i (k + 1) j = if j = 8 * (n - 1 - i) + k then (g i).testBit k else pb n g i k j := by
  by_cases h : j = 8 * (n - 1 - i) + k
  · subst h
    rw [if_pos rfl]
    have e1 : (8 * (n - 1 - i) + k) / 8 = n - 1 - i := by omega
    have e2 : (8 * (n - 1 - i) + k) % 8 = k := by omega
    have e3 : n - 1 - (n - 1 - i) = i := by omega
    have h1 : n - 1 - i < n ∧ (i < i ∨ i = i ∧ k < k + 1) := by omega
    unfold pb
    rw [e1, e2, e3, decide_eq_true h1, Bool.true_and]
  · rw [if_neg h]
    unfold pb
    congr 1
    rw [decide_eq_decide]
    omega
set_option maxRecDepth 100000 in
theorem testBit_byte (x r : Nat) (hr : r < 8) : x.testBit r = (x % 256).testBit r := by
  rw [show (256 : Nat) = 2 ^ 8 by decide, Nat.testBit_mod_two_pow]
  simp [hr]
set_option maxRecDepth 100000 in
theorem pb_end (n : Nat) (g : Nat → Nat) (hg : ∀ i, i < n → g i < 256) (j : Nat) : pb n g n 0 j = (numTo g n).testBit j := by
  by_cases h : j / 8 < n
  · have h1 : j / 8 < n ∧ (n - 1 - j / 8 < n ∨ n - 1 - j / 8 = n ∧ j % 8 < 0) := by omega
    have hd := numTo_div g n hg (n - j / 8) (j / 8) (by omega)
    rw [show n - j / 8 + j / 8 = n by omega] at hd
    have e : (numTo g n).testBit j = (numTo g (n - j / 8)).testBit (j % 8) := by
      rw [← hd, Nat.testBit_div_two_pow]
      congr 1
      omega
    rw [e, testBit_byte _ _ (Nat.mod_lt _ (by decide)), show n - j / 8 = (n - 1 - j / 8) + 1 by omega, numTo]
    have hb := hg (n - 1 - j / 8) (by omega)
    rw [show (numTo g (n - 1 - j / 8) * 256 + g (n - 1 - j / 8)) % 256 = g (n - 1 - j / 8) by omega]
    simp only [pb, decide_eq_true h1, Bool.true_and]
  · have h1 : ¬ (j / 8 < n ∧ (n - 1 - j / 8 < n ∨ n - 1 - j / 8 = n ∧ j % 8 < 0)) := by omega
    have hlt := numTo_lt g n hg n (Nat.le_refl _)
    rw [Nat.testBit_lt_two_pow (Nat.lt_of_lt_of_le hlt (Nat.pow_le_pow_right (by decide) (by omega)))]
    simp only [pb, decide_eq_false h1, Bool.false_and]
set_option maxRecDepth 100000 in
theorem ofBits_pb (n : Nat) (g : Nat → Nat) (hg : ∀ i, i < n → g i < 256) (hn : n ≤ 16) : ofBits (pb n g n 0) = numTo g n :=
  ofBits_eq (Nat.lt_of_lt_of_le (numTo_lt g n hg n (Nat.le_refl _)) (Nat.pow_le_pow_right (by decide) (by omega))) fun i _ => pb_end n g hg i
set_option maxRecDepth 100000 in
theorem bit_byte (x k : Nat) (hx : x < 256) : (bits .and .u8 ((x : Int) / 2 ^ k) 1 == 1) = x.testBit k := by
  rw [show ((2 : Int) ^ k) = ((2 ^ k : Nat) : Int) by simp, ← Int.natCast_ediv, show (1 : Int) = ((1 : Nat) : Int) from rfl,
    u8_and_nat _ _ (Nat.lt_of_le_of_lt (Nat.div_le_self _ _) hx) (by decide), Nat.and_one_is_mod, Bool.eq_iff_iff, Nat.testBit_eq_decide_div_mod_eq]
  simp only [beq_iff_eq, decide_eq_true_eq]
  omega

end
/- matchguardref01.Bytes: what it returns. -/
section
open Go.RowKit

/-- Byte q, the lowest one first, of the first i bits of a. -/
def bv (a i q : Nat) : Nat := a % 2 ^ i / 2 ^ (8 * q) % 256
set_option maxRecDepth 100000 in
theorem bv_lt (a i q : Nat) : bv a i q < 256 := Nat.mod_lt _ (by decide)
set_option maxRecDepth 100000 in
theorem bv_0 (a q : Nat) : bv a 0 q = 0 := by simp [bv, Nat.mod_one]
set_option maxRecDepth 100000 in
theorem testBit_bv (a i q r : Nat) : (bv a i q).testBit r = (decide (r < 8) && (decide (r + 8 * q < i) && a.testBit (r + 8 * q))) := by
  unfold bv
  rw [show (256 : Nat) = 2 ^ 8 by decide, Nat.testBit_mod_two_pow, Nat.testBit_div_two_pow, Nat.testBit_mod_two_pow]
set_option maxRecDepth 100000 in
theorem bv_yes (a i : Nat) (h : a.testBit i = true) : bv a (i + 1) (i / 8) = bv a i (i / 8) ||| 2 ^ (i % 8) := by
  apply Nat.eq_of_testBit_eq; intro r
  rw [Nat.testBit_or, testBit_bv, testBit_bv, Nat.testBit_two_pow]
  by_cases e : r = i % 8
  · subst e
    have e1 : i % 8 + 8 * (i / 8) = i := by omega
    have e2 : i % 8 < 8 := by omega
    rw [e1, h]
    simp [e2]
  · have e' : ¬ i % 8 = r := fun x => e x.symm
    by_cases e2 : r < 8
    · have e3 : decide (r + 8 * (i / 8) < i + 1) = decide (r + 8 * (i / 8) < i) := by rw [decide_eq_decide]; omega
      rw [e3]
      simp [e']
    · simp [e2, e']
set_option maxRecDepth 100000 in
theorem bv_other (a i q : Nat) (h : q ≠ i / 8) : bv a (i + 1) q = bv a i q := by
  apply Nat.eq_of_testBit_eq; intro r
  rw [testBit_bv, testBit_bv]
  by_cases e2 : r < 8
  · have e3 : decide (r + 8 * q < i + 1) = decide (r + 8 * q < i) := by rw [decide_eq_decide]; omega
    rw [e3]
  · simp [e2]
set_option maxRecDepth 100000 in
theorem bv_no (a i q : Nat) (h : a.testBit i = false) : bv a (i + 1) q = bv a i q := by
  apply Nat.eq_of_testBit_eq; intro r
  rw [testBit_bv, testBit_bv]
  by_cases e : r + 8 * q = i
  · rw [e, h]; simp
  · have e3 : decide (r + 8 * q < i + 1) = decide (r + 8 * q < i) := by rw [decide_eq_decide]; omega
    rw [e3]
set_option maxRecDepth 100000 in
theorem bv_end (a p : Nat) : bv a (8 * nb a) (nb a - 1 - p) = gb a p := by
  unfold bv gb
  rw [Nat.mod_eq_of_lt (lt_nb a)]
set_option maxRecDepth 100000 in
theorem bv_or (a i : Nat) (h : a.testBit i = true) : bits .or .u8 (bv a i (i / 8)) (2 ^ (i % 8)) = (bv a (i + 1) (i / 8) : Int) := by
  have h1 : 2 ^ (i % 8) < 256 := by
    rw [show (256 : Nat) = 2 ^ 8 by decide]; exact Nat.pow_lt_pow_right (by decide) (Nat.mod_lt _ (by decide))
  rw [show ((2 : Int) ^ (i % 8)) = ((2 ^ (i % 8) : Nat) : Int) by simp, u8_or_nat _ _ (bv_lt _ _ _) h1, bv_yes a i h]
set_option maxRecDepth 100000 in
theorem wrap_pow8 (k : Nat) (hk : k < 8) : IntKind.u8.wrap (2 ^ k) = 2 ^ k := by
  have h1 : 2 ^ k < 256 := by
    rw [show (256 : Nat) = 2 ^ 8 by decide]; exact Nat.pow_lt_pow_right (by decide) hk
  rw [IntKind.wrap_u8, show ((2 : Int) ^ k) = ((2 ^ k : Nat) : Int) by simp]
  generalize 2 ^ k = n at h1 ⊢
  omega
set_option maxRecDepth 100000 in
theorem made_row (z : Value) (n : Nat) : madeCells #[z] n = rowA n fun _ => z := by
  apply Array.ext'
  simp [madeCells, rowA, rowL, Nat.mod_one]
set_option maxRecDepth 100000 in
theorem info8 : (Try.prog.info? 5).map (fun i => (i.zero, i.size, i.bytes)) = some (some (.int .u8 0), 1, 1) := by kernel_rfl
set_option maxRecDepth 100000 in
theorem max_nb7 (a : Nat) : max (1 : Int) (((bitLen a : Int) + 7) / 8) = nb a := by
  unfold nb
  omega

/-- Where Bytes is after i bits: the bits lie in block X, the bytes in block O. -/
structure RB (w : World) (a n X O i : Nat) (W : World) : Prop where
  below : Below w.heap.size w W
  no : w.heap.size ≤ O
  ne : O ≠ X
  lo : O < W.heap.size
  arr : BitsAt W X a.testBit
  out : RowAt W O n fun p => .int .u8 (bv a i (n - 1 - p))
set_option maxRecDepth 100000 in
theorem RB.put {w : World} {a n X O i : Nat} {W : World} (h : RB w a n X O i W) (p q : Nat) (hp : p < n) (hq : q = n - 1 - p) (e : q = i / 8) : RB w a n X O (i + 1) (W.setCell ⟨O, p, none⟩ (.int .u8 (bv a (i + 1) q))) where
  below := h.below.setCell h.no _
  no := h.no
  ne := h.ne
  lo := by have := h.lo; simpa [World.setCell] using this
  arr := h.arr.far _ h.ne _
  out := h.out.put p hp _ fun k hk => by
    by_cases hkp : k = p
    · subst hkp
      rw [if_pos rfl, hq]
    · rw [if_neg hkp, bv_other _ _ _ (by omega)]
set_option maxRecDepth 100000 in
theorem RB.skip {w : World} {a n X O i : Nat} {W : World} (h : RB w a n X O i W) (hb : a.testBit i = false) : RB w a n X O (i + 1) W :=
  { h with out := h.out.congr fun k _ => by rw [bv_no _ _ _ hb] }

/-- The same with the block, which is new. -/
def RetBN (a : Nat) (w : World) (e : Ending) (w' : World) : Prop := ∃ b cap : Nat, e = .returned (.slice (some ⟨b, 0, none⟩) (nb a) cap) ∧ ReadsB w' (some ⟨b, 0, none⟩) (nb a) (gb a) ∧ Below w.heap.size w w' ∧ w.heap.size ≤ b
set_option maxRecDepth 100000 in
set_option maxHeartbeats 4000000 in
theorem rbytesn_any (a : Nat) (ha : a < 2 ^ 128) (w : World) :
    Calls Try.prog 120 #[.agg #[.int .u64 (hi a), .int .u64 (lo a)]] w (RetBN a w) := by
  have hn2 := nb_le a ha
  have hn1 := nb_pos a
  have hl := len_le a ha
  have hmax := max_nb7 a
  have HA := Lib.hid ha
  have HN := Lib.hid (fun p => bv_end a p)
  have hmk : ∀ w : World, (Instr.makeSlice 32 (.int .i64 (nb a : Int)) (.int .i64 (nb a : Int))).run Try.prog w = .ok (.slice (some ⟨w.heap.size, 0, none⟩) (nb a) (nb a)) (w.alloc (.cells (rowA (nb a) fun _ => .int .u8 0) 5)) := fun w => by
    rw [← made_row]
    exact run_make_row' 32 5 (.int .u8 0) 1 Try.underlying32 info8 rfl .i64 .i64 (nb a) (by omega) (by omega) w
  have w0 : IntKind.i64.wrap ((bitLen a : Int) + 7) = (bitLen a : Int) + 7 := IntWalk.i64_in _ (by omega)
  clear ha
  have HF : Hid (RetBN a = fun w e w' => ∃ b cap : Nat, e = .returned (.slice (some ⟨b, 0, none⟩) (nb a) cap) ∧ ReadsB w' (some ⟨b, 0, none⟩) (nb a) (gb a) ∧ Below w.heap.size w w' ∧ w.heap.size ≤ b) := Lib.hid rfl
  generalize nb a = n at *
  go_enter Try.func120, Try.ntmps120
  go_wp2_with (first
    | (go_at_call 130; refine (read_any _ _).mono ?_; rintro e w1 ⟨rfl, hx⟩; obtain ⟨hc1, hf1, hz1⟩ := after (w.heap.size + 1) hx (by simp) (by simp))
    | (go_at_call 131; refine (rlen_any _ HA.out _).mono ?_; rintro e w2 ⟨rfl, hx2⟩)
    | refine wpList_store_newbits rfl rfl rfl rfl ?_)
  have w8 : IntKind.i64.wrap (8 * (n : Int)) = 8 * (n : Int) := IntWalk.i64_in _ (by omega)
  have w1n : IntKind.i64.wrap ((n : Int) - 1) = (n : Int) - 1 := IntWalk.i64_in _ (by omega)
  have l1 : w.heap.size < w1.heap.size := hz1 _ (by omega)
  have l2 : w1.heap.size < w2.heap.size := by have := hx2.size; simp at this; omega
  have hB : Below w.heap.size w w2 := (((Below.refl _ _).alloc (by simp) _).trans ((hx.mono (by simp)))).trans (((Below.refl _ _).alloc (by omega) _).trans (hx2.mono (by simp; omega)))
  have hR0 : RB w a n w1.heap.size w2.heap.size 0 (w2.alloc (.cells (rowA n fun _ => .int .u8 0) 5)) :=
    ⟨hB.alloc (by omega) _, by omega, by omega, by simp, ((BitsAt.new w1 a.testBit 229).below hx2 (by simp)).past l2 _, (RowAt.new w2 n _ _).congr fun p _ => by rw [bv_0]; rfl⟩
  clear hx hx2 hc1 hf1 hz1 hB
  generalize (w2.alloc (.cells (rowA n fun _ => .int .u8 0) 5)) = W0 at hR0 ⊢
  generalize w1.heap.size = X at hR0 ⊢
  generalize w2.heap.size = O at hR0 ⊢
  go_loopw [6] (fun v w' => ∃ i : Nat, i ≤ 8 * n ∧ v = .int .i64 i ∧ RB w a n X O i w') (fun v _ => 128 - (intOf v).toNat)
  case atStart => exact ⟨0, by omega, rfl, hR0⟩
  case round =>
    obtain ⟨i, hin, rfl, hR⟩ := hrel
    by_cases hlt : (i : Int) < 8 * (n : Int)
    · have x0 : wr.cell? ⟨X, i, none⟩ = some _ := hR.arr.cell i (by omega)
      have i128 : (i : Int) < 128 := by omega
      by_cases hbit : a.testBit i = true
      · rw [hbit] at x0
        obtain ⟨q, hq⟩ : ∃ q : Nat, q = i / 8 := ⟨_, rfl⟩
        obtain ⟨r, hr⟩ : ∃ r : Nat, r = i % 8 := ⟨_, rfl⟩
        obtain ⟨p, hp⟩ : ∃ p : Nat, p = n - 1 - q := ⟨_, rfl⟩
        have hor := bv_or a i hbit
        rw [← hq, ← hr] at hor
        have hpn : p < n := by omega
        have hqp : q = n - 1 - p := by omega
        have o0 : wr.cell? ⟨O, p, none⟩ = some _ := hR.out.cell p hpn
        have o1 : wr.frozen? ⟨O, p, none⟩ = false := hR.out.froz p hpn
        rw [← hqp] at o0
        have hN := hR.put p q hpn hqp hq
        have d1 : (i : Int) / 8 = (q : Int) := by omega
        have d2 : (i : Int) % 8 = (r : Int) := by omega
        have w2n : IntKind.i64.wrap ((n : Int) - 1 - (q : Int)) = (p : Int) := by rw [IntWalk.i64_in _ (by omega)]; omega
        have wp := wrap_pow8 r (by omega)
        have hr8 : (r : Int) < 8 := by omega
        have hpn2 : (p : Int) < (n : Int) := by omega
        have HN2 := Lib.hid hN
        clear hN hq hr hp hqp
        generalize bv a i q = y at o0 hor
        generalize bv a (i + 1) q = z at HN2 hor
        go_wp2
        go_roundw
        all_goals go_light
        case measure => simp [intOf]; omega
        exact ⟨i + 1, by omega, by simp, HN2.out⟩
      · have hbf : a.testBit i = false := by simpa using hbit
        rw [hbf] at x0
        have HN2 := Lib.hid (hR.skip hbf)
        clear hbit hbf
        go_wp2
        go_roundw
        all_goals go_light
        case measure => simp [intOf]; omega
        exact ⟨i + 1, by omega, by simp, HN2.out⟩
    · have e : i = 8 * n := by omega
      subst e
      go_wp2
      go_ret
      rw [HF.out]
      refine ⟨O, n, rfl, .inr ⟨O, 0, rfl, hR.lo, fun p hp => ?_, fun p _ => gb_lt a p⟩, hR.below, hR.no⟩
      have := hR.out.cell p hp
      rw [HN.out p] at this
      rw [Nat.zero_add]
      exact this
theorem rbytes_any (a : Nat) (ha : a < 2 ^ 128) (w : World) :
    Calls Try.prog 120 #[.agg #[.int .u64 (hi a), .int .u64 (lo a)]] w (RetB a w) :=
  (rbytesn_any a ha w).mono fun _ _ ⟨b, cap, h1, h2, h3, _⟩ => ⟨b, cap, h1, h2, h3⟩
end
end Go.Proofs.Ytljmiickhkkceaa
