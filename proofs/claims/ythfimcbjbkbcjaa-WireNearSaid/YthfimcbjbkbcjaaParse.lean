/- Parse of package value: what it returns. -/
import Derived.Test.YthfimcbjbkbcjaaBytes
namespace Go.Proofs.Ythfimcbjbkbcjaa
open Go.RowKit

/-- A slice of n bytes g that can be read; it is nil, or lies in an old block. -/
def ReadsB (w : World) (A : Option Addr) (n : Nat) (g : Nat → Nat) : Prop :=
  n = 0 ∨ ∃ b o : Nat, A = some ⟨b, o, none⟩ ∧ b < w.heap.size ∧ (∀ i, i < n → w.cell? ⟨b, o + i, none⟩ = some (.int .u8 (g i))) ∧ ∀ i, i < n → g i < 256
theorem ReadsB.below {w w' : World} {A : Option Addr} {n : Nat} {g : Nat → Nat} (h : ReadsB w A n g) (hx : Below w.heap.size w w') : ReadsB w' A n g := by
  rcases h with h | ⟨b, o, rfl, hb, hc, hg⟩
  · exact .inl h
  · exact .inr ⟨b, o, rfl, Nat.lt_of_lt_of_le hb hx.size, fun i hi => by rw [hx.cell (p := ⟨_, _, none⟩) hb]; exact hc i hi, hg⟩

/-- The number of the first k bytes. -/
def numTo (g : Nat → Nat) : Nat → Nat
  | 0 => 0
  | k + 1 => numTo g k * 256 + g k
theorem numTo_lt (g : Nat → Nat) (n : Nat) (hg : ∀ i, i < n → g i < 256) : ∀ k, k ≤ n → numTo g k < 2 ^ (8 * k)
  | 0, _ => by simp [numTo]
  | k + 1, h => by
    have ih := numTo_lt g n hg k (by omega)
    have hk := hg k (by omega)
    rw [show 8 * (k + 1) = 8 * k + 8 by omega, Nat.pow_add]
    simp only [numTo]
    omega
theorem numTo_step (a x : Nat) (k : Nat) (ha : a < 2 ^ (8 * k)) (hk : k < 16) (hx : x < 256) : vleft a 8 ||| x = a * 256 + x := by
  have h1 : a < 2 ^ 120 := Nat.lt_of_lt_of_le ha (Nat.pow_le_pow_right (by decide) (by omega))
  unfold vleft
  rw [Nat.mod_eq_of_lt (by omega)]
  have := Nat.two_pow_add_eq_or_of_lt (i := 8) (b := x) (by omega) a
  rw [Nat.mul_comm a, ← this]

/-- The code of Parse's error (0: none). -/
def parseE (n : Nat) (g : Nat → Nat) : Int := if n = 0 then 1 else if 16 < n then 3 else if 1 < n ∧ g 0 = 0 then 5 else 0
def parseV (n : Nat) (g : Nat → Nat) : Nat := if parseE n g = 0 then numTo g n else 0
/-- The call returns the value v with the code e; nothing that there was is changed. -/
def RetVE (v : Nat) (e : Int) (w : World) (en : Ending) (w' : World) : Prop := en = .returned (.tuple #[.agg #[.int .u64 (hi v), .int .u64 (lo v)], .int .i64 e]) ∧ Below w.heap.size w w'

/-- Where Parse is after k bytes. -/
structure ParseAt (w : World) (v : Nat) (w' : World) : Prop where
  below : Below w.heap.size w w'
  size : w.heap.size + 2 ≤ w'.heap.size
  r0 : w'.cell? ⟨w.heap.size, 0, none⟩ = some (.int .u64 0)
  r1 : w'.cell? ⟨w.heap.size, 1, none⟩ = some (.int .u64 0)
  q0 : w'.frozen? ⟨w.heap.size, 0, none⟩ = false
  q1 : w'.frozen? ⟨w.heap.size, 1, none⟩ = false
  a0 : w'.cell? ⟨w.heap.size + 1, 0, none⟩ = some (.int .u64 (hi v))
  a1 : w'.cell? ⟨w.heap.size + 1, 1, none⟩ = some (.int .u64 (lo v))
  f0 : w'.frozen? ⟨w.heap.size + 1, 0, none⟩ = false
  f1 : w'.frozen? ⟨w.heap.size + 1, 1, none⟩ = false
theorem ParseAt.next {w : World} {v : Nat} {W W' : World} (h : ParseAt w v W) (hx : Below W.heap.size W W') (u : Nat) :
    ParseAt w u ((W'.setCell ⟨w.heap.size + 1, 0, none⟩ (.int .u64 (hi u))).setCell ⟨w.heap.size + 1, 1, none⟩ (.int .u64 (lo u))) := by
  have hs := h.size
  have hs2 := hx.size
  have c0 : W'.cell? ⟨w.heap.size + 1, 0, none⟩ = some (.int .u64 (hi v)) := by rw [hx.cell (p := ⟨_, _, none⟩) (by simp; omega)]; exact h.a0
  have c1 : W'.cell? ⟨w.heap.size + 1, 1, none⟩ = some (.int .u64 (lo v)) := by rw [hx.cell (p := ⟨_, _, none⟩) (by simp; omega)]; exact h.a1
  exact {
    below := ((h.below.trans (hx.mono h.below.size)).setCell (by simp) _).setCell (by simp) _
    size := by have : w.heap.size + 2 ≤ W'.heap.size := by omega
               simpa [World.setCell] using this
    r0 := by rw [World.cell?_setCell_far _ _ _ _ (by simp), World.cell?_setCell_far _ _ _ _ (by simp), hx.cell (p := ⟨_, _, none⟩) (by simp; omega)]; exact h.r0
    r1 := by rw [World.cell?_setCell_far _ _ _ _ (by simp), World.cell?_setCell_far _ _ _ _ (by simp), hx.cell (p := ⟨_, _, none⟩) (by simp; omega)]; exact h.r1
    q0 := by rw [World.frozen?_setCell, World.frozen?_setCell, hx.frozen (p := ⟨_, _, none⟩) (by simp; omega)]; exact h.q0
    q1 := by rw [World.frozen?_setCell, World.frozen?_setCell, hx.frozen (p := ⟨_, _, none⟩) (by simp; omega)]; exact h.q1
    a0 := by rw [World.cell?_setCell_other _ _ _ _ (by simp)]; exact World.cell?_setCell_same' _ _ _ (by rw [c0]; rfl)
    a1 := World.cell?_setCell_same' _ _ _ (by rw [World.cell?_setCell_other _ _ _ _ (by simp), c1]; rfl)
    f0 := by rw [World.frozen?_setCell, World.frozen?_setCell, hx.frozen (p := ⟨_, _, none⟩) (by simp; omega)]; exact h.f0
    f1 := by rw [World.frozen?_setCell, World.frozen?_setCell, hx.frozen (p := ⟨_, _, none⟩) (by simp; omega)]; exact h.f1 }

theorem hi_zero : hi 0 = 0 := rfl
theorem lo_zero : lo 0 = 0 := rfl
set_option maxRecDepth 100000 in
set_option maxHeartbeats 4000000 in
theorem parse_any (A : Option Addr) (n cap : Nat) (g : Nat → Nat) (w : World) (hr : ReadsB w A n g) (hn : n ≤ 100) :
    Calls Try.prog 65 #[.slice A n cap] w (RetVE (parseV n g) (parseE n g) w) := by
  by_cases h0 : n = 0
  · have e1 : parseE n g = 1 := by simp [parseE, h0]
    have e2 : parseV n g = 0 := by simp [parseV, e1]
    rw [e1, e2]
    clear e1 e2 hr hn
    subst h0
    go_enter Try.func65, Try.ntmps65
    go_wp2
    refine bodyPost_ret (v := .tuple #[.agg #[.int .u64 (hi 0), .int .u64 (lo 0)], .int .i64 1]) (by simp [results, Try.results65, go_sem, hi_zero, lo_zero]) rfl ⟨rfl, ?_⟩
    exact (Below.refl _ _).alloc (by simp) _
  · obtain ⟨b, o, rfl, hb, hc, hg⟩ := hr.resolve_left h0
    have n0 : ((n : Int) == 0) = false := by simp; omega
    by_cases h1 : 16 < n
    · have e1 : parseE n g = 3 := by simp [parseE, h0, h1]
      have e2 : parseV n g = 0 := by simp [parseV, e1]
      rw [e1, e2]
      have h1' : (16 : Int) < (n : Int) := by omega
      clear e1 e2 hr hc hg h0 h1
      go_enter Try.func65, Try.ntmps65
      go_wp2
      refine bodyPost_ret (v := .tuple #[.agg #[.int .u64 (hi 0), .int .u64 (lo 0)], .int .i64 3]) (by simp [results, Try.results65, go_sem, hi_zero, lo_zero]) rfl ⟨rfl, ?_⟩
      exact (Below.refl _ _).alloc (by simp) _
    · have h1' : (n : Int) ≤ 16 := by omega
      have hc0 := hc 0 (by omega)
      rw [Nat.add_zero] at hc0
      by_cases h2 : 1 < n ∧ g 0 = 0
      · have e1 : parseE n g = 5 := by simp [parseE, h0, h1, h2]
        have e2 : parseV n g = 0 := by simp [parseV, e1]
        rw [e1, e2]
        obtain ⟨h3, h4⟩ := h2
        rw [h4] at hc0
        have h3' : (1 : Int) < (n : Int) := by omega
        have h5 : (0 : Int) < (n : Int) := by omega
        clear e1 e2 hr hc hg h0 h1 h3 h4 hn
        go_enter Try.func65, Try.ntmps65
        go_wp2
        refine bodyPost_ret (v := .tuple #[.agg #[.int .u64 (hi 0), .int .u64 (lo 0)], .int .i64 5]) (by simp [results, Try.results65, go_sem, hi_zero, lo_zero]) rfl ⟨rfl, ?_⟩
        exact (Below.refl _ _).alloc (by simp) _
      · have e1 : parseE n g = 0 := by simp [parseE, h0, h1, h2]
        have e2 : parseV n g = numTo g n := by simp [parseV, e1]
        rw [e1, e2]
        have h6 : decide ((16 : Int) < (n : Int)) = false := by simp; omega
        have HE := Lib.hid h2
        have h5 : (0 : Int) < (n : Int) := by omega
        have HC := Lib.hid hc
        have HG := Lib.hid hg
        have hlt := numTo_lt g n hg
        have HL := Lib.hid hlt
        clear e1 e2 hr hc hg h0 h1 h2 hlt
        have key : Calls Try.prog 65 #[.slice (some ⟨b, o, none⟩) n cap] w (RetVE (numTo g n) 0 w) := by
          by_cases h3 : (1 : Int) < (n : Int)
          · have h4 : ((g 0 : Int) == 0) = false := by have := HE.out; simp; omega
            go_enter Try.func65, Try.ntmps65
            go_wp2
            go_loopw [30] (fun i w' => ∃ k : Nat, k ≤ n ∧ i = .int .i64 k ∧ ParseAt w (numTo g k) w') (fun i _ => 16 - (intOf i).toNat)
            case atStart => exact ⟨0, by omega, rfl, ((Below.refl _ _).alloc (by simp) _).alloc (by simp) _, by simp, by simp [go_sem], by simp [go_sem], by simp [go_sem], by simp [go_sem], by simp [go_sem, numTo, hi_zero], by simp [go_sem, numTo, lo_zero], by simp [go_sem], by simp [go_sem]⟩
            case round =>
              obtain ⟨k, hk, rfl, hR⟩ := hrel
              have hs := hR.size
              by_cases hlt : (k : Int) < n
              · have i0 : wr.cell? ⟨b, o + k, none⟩ = some (.int .u8 (g k)) := by rw [hR.below.cell (p := ⟨_, _, none⟩) hb]; exact HC.out k (by omega)
                have a0 := hR.a0
                have a1 := hR.a1
                have f0 := hR.f0
                have f1 := hR.f1
                have HX := Lib.hid (HG.out k (by omega))
                have HS := Lib.hid (numTo_step (numTo g k) (g k) k (HL.out k hk) (by omega) (HG.out k (by omega)))
                have HV : Hid (numTo g k < 2 ^ 128) := Lib.hid (Nat.lt_of_lt_of_le (HL.out k hk) (Nat.pow_le_pow_right (by decide) (by omega)))
                have HU : Hid (numTo g (k + 1) = numTo g k * 256 + g k) := Lib.hid rfl
                have wx : IntKind.u64.wrap (g k : Int) = (g k : Int) := by rw [IntKind.wrap_u64]; have := HX.out; omega
                generalize numTo g k = v at hR a0 a1 HS HV HU
                generalize g k = x at i0 HX HS HU wx
                go_wp2_with (first
                  | (go_at_call 72; refine (left_any v 8 HV.out (by decide) _).mono ?_; rintro e w1 ⟨rfl, hx1⟩)
                  | (go_at_call 73; refine (of_any x (by have := HX.out; omega) _).mono ?_; rintro e w2 ⟨rfl, hx2⟩)
                  | (go_at_call 71; refine (or_any _ _ _).mono ?_; rintro e w3 ⟨rfl, hx3⟩; have hB3 : Below wr.heap.size wr w3 := (hx1.trans (hx2.mono hx1.size)).trans (hx3.mono (Nat.le_trans hx1.size hx2.size)); obtain ⟨hc3, hf3, hz3⟩ := after (w.heap.size + 2) hB3 hs hs; have k0 := (hc3 (w.heap.size + 1) 0 (by omega)).trans a0; have k1 := (hc3 (w.heap.size + 1) 1 (by omega)).trans a1; have m0 := (hf3 (w.heap.size + 1) 0 (by omega)).trans hR.f0; have m1 := (hf3 (w.heap.size + 1) 1 (by omega)).trans hR.f1))
                go_roundw
                all_goals go_light
                case measure => simp [intOf]; omega
                refine ⟨k + 1, by omega, by simp, ?_⟩
                have hN := hR.next hB3 (numTo g (k + 1))
                rw [HU.out, ← HS.out] at hN ⊢
                exact hN
              · have e : k = n := by omega
                subst e
                have a0 := hR.a0
                have a1 := hR.a1
                have r0 := hR.r0
                have r1 := hR.r1
                have q0 := hR.q0
                have q1 := hR.q1
                generalize numTo g k = v at *
                go_wp2
                refine bodyPost_ret (v := .tuple #[.agg #[.int .u64 (hi v), .int .u64 (lo v)], .int .i64 0]) (by simp [results, Try.results65, go_sem, r0, r1]) rfl ⟨rfl, ?_⟩
                exact (hR.below.setCell (by simp) _).setCell (by simp) _
          · have h4 : decide ((1 : Int) < (n : Int)) = false := by simp; omega
            go_enter Try.func65, Try.ntmps65
            go_wp2
            go_loopw [30] (fun i w' => ∃ k : Nat, k ≤ n ∧ i = .int .i64 k ∧ ParseAt w (numTo g k) w') (fun i _ => 16 - (intOf i).toNat)
            case atStart => exact ⟨0, by omega, rfl, ((Below.refl _ _).alloc (by simp) _).alloc (by simp) _, by simp, by simp [go_sem], by simp [go_sem], by simp [go_sem], by simp [go_sem], by simp [go_sem, numTo, hi_zero], by simp [go_sem, numTo, lo_zero], by simp [go_sem], by simp [go_sem]⟩
            case round =>
              obtain ⟨k, hk, rfl, hR⟩ := hrel
              have hs := hR.size
              by_cases hlt : (k : Int) < n
              · have i0 : wr.cell? ⟨b, o + k, none⟩ = some (.int .u8 (g k)) := by rw [hR.below.cell (p := ⟨_, _, none⟩) hb]; exact HC.out k (by omega)
                have a0 := hR.a0
                have a1 := hR.a1
                have f0 := hR.f0
                have f1 := hR.f1
                have HX := Lib.hid (HG.out k (by omega))
                have HS := Lib.hid (numTo_step (numTo g k) (g k) k (HL.out k hk) (by omega) (HG.out k (by omega)))
                have HV : Hid (numTo g k < 2 ^ 128) := Lib.hid (Nat.lt_of_lt_of_le (HL.out k hk) (Nat.pow_le_pow_right (by decide) (by omega)))
                have HU : Hid (numTo g (k + 1) = numTo g k * 256 + g k) := Lib.hid rfl
                have wx : IntKind.u64.wrap (g k : Int) = (g k : Int) := by rw [IntKind.wrap_u64]; have := HX.out; omega
                generalize numTo g k = v at hR a0 a1 HS HV HU
                generalize g k = x at i0 HX HS HU wx
                go_wp2_with (first
                  | (go_at_call 72; refine (left_any v 8 HV.out (by decide) _).mono ?_; rintro e w1 ⟨rfl, hx1⟩)
                  | (go_at_call 73; refine (of_any x (by have := HX.out; omega) _).mono ?_; rintro e w2 ⟨rfl, hx2⟩)
                  | (go_at_call 71; refine (or_any _ _ _).mono ?_; rintro e w3 ⟨rfl, hx3⟩; have hB3 : Below wr.heap.size wr w3 := (hx1.trans (hx2.mono hx1.size)).trans (hx3.mono (Nat.le_trans hx1.size hx2.size)); obtain ⟨hc3, hf3, hz3⟩ := after (w.heap.size + 2) hB3 hs hs; have k0 := (hc3 (w.heap.size + 1) 0 (by omega)).trans a0; have k1 := (hc3 (w.heap.size + 1) 1 (by omega)).trans a1; have m0 := (hf3 (w.heap.size + 1) 0 (by omega)).trans hR.f0; have m1 := (hf3 (w.heap.size + 1) 1 (by omega)).trans hR.f1))
                go_roundw
                all_goals go_light
                case measure => simp [intOf]; omega
                refine ⟨k + 1, by omega, by simp, ?_⟩
                have hN := hR.next hB3 (numTo g (k + 1))
                rw [HU.out, ← HS.out] at hN ⊢
                exact hN
              · have e : k = n := by omega
                subst e
                have a0 := hR.a0
                have a1 := hR.a1
                have r0 := hR.r0
                have r1 := hR.r1
                have q0 := hR.q0
                have q1 := hR.q1
                generalize numTo g k = v at *
                go_wp2
                refine bodyPost_ret (v := .tuple #[.agg #[.int .u64 (hi v), .int .u64 (lo v)], .int .i64 0]) (by simp [results, Try.results65, go_sem, r0, r1]) rfl ⟨rfl, ?_⟩
                exact (hR.below.setCell (by simp) _).setCell (by simp) _
        exact key
end Go.Proofs.Ythfimcbjbkbcjaa
