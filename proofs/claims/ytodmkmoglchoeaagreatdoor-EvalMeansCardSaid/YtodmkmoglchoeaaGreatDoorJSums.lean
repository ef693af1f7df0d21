/- Contracts, joined: Sum, Sums. -/
import Derived.Test.YtodmkmoglchoeaaGreatDoorJBits
import Derived.Test.YtodmkmoglchoeaaGreatDoorRings
import Derived.BigRegion
import Derived.Test.YtodmkmoglchoeaaGreatDoorRef
import Derived.Deep.DeepCutAuto
namespace Go.Proofs.YtodmkmoglchoeaaGreatDoor
/- matchguardref01.sum: the bits of a sum. -/
section
open Go.RowKit

/-- The carry into bit i. -/
def car (a b : Nat) (c : Bool) (i : Nat) : Bool := decide (2 ^ i ≤ a % 2 ^ i + b % 2 ^ i + c.toNat)
set_option maxRecDepth 100000 in
theorem car_0 (a b : Nat) (c : Bool) : car a b c 0 = c := by
  unfold car
  rw [Nat.pow_zero, Nat.mod_one, Nat.mod_one]
  cases c <;> rfl
set_option maxRecDepth 100000 in
theorem div_one_of {r P : Nat} (h1 : P ≤ r) (h2 : r < 2 * P) : r / P = 1 := by
  have hP : 0 < P := by omega
  have e : r = P * 1 + (r - P) := by omega
  rw [e, Nat.mul_add_div hP, Nat.div_eq_of_lt (by omega)]
set_option maxRecDepth 100000 in
theorem parity (A B : Nat) (s : Bool) : decide ((A + B + s.toNat) % 2 = 1) = (decide (A % 2 = 1) ^^ decide (B % 2 = 1) ^^ s) := by
  rcases Nat.mod_two_eq_zero_or_one A with h1 | h1 <;> rcases Nat.mod_two_eq_zero_or_one B with h2 | h2 <;> cases s <;> simp [Nat.add_mod, h1, h2]
set_option maxRecDepth 100000 in
theorem r_lt {x y P : Nat} {c : Bool} (hx : x < P) (hy : y < P) : x + y + c.toNat < 2 * P := by
  cases c <;> simp <;> omega
set_option maxRecDepth 100000 in
theorem bit_sum (a b i : Nat) (c : Bool) : (a + b + c.toNat).testBit i = (a.testBit i ^^ b.testBit i ^^ car a b c i) := by
  rw [Nat.testBit_eq_decide_div_mod_eq, Nat.testBit_eq_decide_div_mod_eq, Nat.testBit_eq_decide_div_mod_eq, car]
  have hP : 0 < 2 ^ i := Nat.two_pow_pos i
  generalize 2 ^ i = P at hP ⊢
  have ha := Nat.div_add_mod a P
  have hb := Nat.div_add_mod b P
  have ra := Nat.mod_lt a hP
  have rb := Nat.mod_lt b hP
  have hc : c.toNat ≤ 1 := by cases c <;> decide
  have e : a + b + c.toNat = P * (a / P + b / P) + (a % P + b % P + c.toNat) := by rw [Nat.mul_add]; omega
  rw [e, Nat.mul_add_div hP]
  have p := parity (a / P) (b / P) (decide (P ≤ a % P + b % P + c.toNat))
  rw [← p]
  by_cases h : P ≤ a % P + b % P + c.toNat
  · rw [div_one_of h (r_lt ra rb), decide_eq_true h]; rfl
  · rw [Nat.div_eq_of_lt (Nat.lt_of_not_le h), decide_eq_false h]; rfl
/-- How many of three are true. -/
def cnt (u v c : Bool) : Nat := u.toNat + v.toNat + c.toNat
set_option maxRecDepth 100000 in
theorem car_succ (a b i : Nat) (c : Bool) : car a b c (i + 1) = decide (1 < cnt (a.testBit i) (b.testBit i) (car a b c i)) := by
  rw [Nat.testBit_eq_decide_div_mod_eq, Nat.testBit_eq_decide_div_mod_eq]
  unfold car cnt
  have hP : 0 < 2 ^ i := Nat.two_pow_pos i
  rw [Nat.pow_succ]
  generalize 2 ^ i = P at hP ⊢
  rw [Nat.mod_mul, Nat.mod_mul]
  have ra := Nat.mod_lt a hP
  have rb := Nat.mod_lt b hP
  have hc : c.toNat ≤ 1 := by cases c <;> decide
  have h1 : a / P % 2 = 0 ∨ a / P % 2 = 1 := by omega
  have h2 : b / P % 2 = 0 ∨ b / P % 2 = 1 := by omega
  rcases h1 with h1 | h1 <;> rcases h2 with h2 | h2 <;> rw [h1, h2] <;> by_cases h : P ≤ a % P + b % P + c.toNat <;> simp [h] <;> omega

set_option maxRecDepth 100000 in
theorem cnt_odd (u v c : Bool) : (((cnt u v c : Nat) : Int) % 2 == 1) = (u ^^ v ^^ c) := by cases u <;> cases v <;> cases c <;> rfl
set_option maxRecDepth 100000 in
theorem cnt_big (u v c : Bool) : decide ((1 : Int) < ((cnt u v c : Nat) : Int)) = decide (1 < cnt u v c) := by rw [decide_eq_decide]; omega
/-- How many of the first j of three are true. -/
def cntTo (u v c : Bool) (j : Nat) : Nat := (if 0 < j then u.toNat else 0) + (if 1 < j then v.toNat else 0) + (if 2 < j then c.toNat else 0)
def third (u v c : Bool) (j : Nat) : Bool := if j = 0 then u else if j = 1 then v else c
set_option maxRecDepth 100000 in
theorem cntTo_succ (u v c : Bool) (j : Nat) (h : j < 3) : cntTo u v c (j + 1) = cntTo u v c j + (third u v c j).toNat := by
  have : j = 0 ∨ j = 1 ∨ j = 2 := by omega
  rcases this with rfl | rfl | rfl <;> simp [cntTo, third]
set_option maxRecDepth 100000 in
theorem cntTo_le (u v c : Bool) (j : Nat) : cntTo u v c j ≤ 3 := by
  unfold cntTo
  have hu : u.toNat ≤ 1 := by cases u <;> decide
  have hv : v.toNat ≤ 1 := by cases v <;> decide
  have hc : c.toNat ≤ 1 := by cases c <;> decide
  split <;> split <;> split <;> omega
set_option maxRecDepth 100000 in
theorem cntTo_3 (u v c : Bool) : cntTo u v c 3 = cnt u v c := by simp [cntTo, cnt]

/-- Bit i of the sum, of m bits. -/
def sumB (a b : Nat) (c : Bool) (m i : Nat) : Bool := decide (i < m) && (a.testBit i ^^ b.testBit i ^^ car a b c i)
structure SumAtR (w : World) (a b : Nat) (c : Bool) (k : Nat) (w' : World) : Prop where
  below : Below w.heap.size w w'
  size : w.heap.size + 4 ≤ w'.heap.size
  x : BitsAt w' w.heap.size a.testBit
  y : BitsAt w' (w.heap.size + 1) b.testBit
  res : BitsAt w' (w.heap.size + 2) fun _ => false
  out : BitsAt w' (w.heap.size + 3) (sumB a b c k)
set_option maxRecDepth 100000 in
theorem SumAtR.step {w : World} {a b : Nat} {c : Bool} {k : Nat} {W W' : World} (h : SumAtR w a b c k W) (hx : Below W.heap.size W W') : SumAtR w a b c k W' := by
  have hs := h.size
  exact ⟨h.below.trans (hx.mono h.below.size), Nat.le_trans hs hx.size, h.x.below hx (by omega), h.y.below hx (by omega), h.res.below hx (by omega), h.out.below hx (by omega)⟩
set_option maxRecDepth 100000 in
theorem SumAtR.put {w : World} {a b : Nat} {c : Bool} {k : Nat} {W : World} (h : SumAtR w a b c k W) (hk : k < 128) (v : Bool) (hv : v = (a.testBit k ^^ b.testBit k ^^ car a b c k)) : SumAtR w a b c (k + 1) (W.setCell ⟨w.heap.size + 3, k, none⟩ (.bool v)) where
  below := h.below.setCell (by simp) _
  size := by have := h.size; simpa [World.setCell] using this
  x := h.x.far _ (by simp) _
  y := h.y.far _ (by simp) _
  res := h.res.far _ (by simp) _
  out := h.out.put k hk v fun i _ => by
    subst hv
    unfold sumB
    by_cases e : i = k
    · subst e; simp
    · rw [if_neg e]
      congr 1
      rw [decide_eq_decide]; omega

set_option maxRecDepth 100000 in
set_option maxHeartbeats 4000000 in
theorem rsum_any (a b : Nat) (c : Bool) (n : Int) (w : World) :
    Calls Tryz.prog 187 #[.agg (bitsA a.testBit), .agg (bitsA b.testBit), .bool c, .int .i64 n] w (RetX (.agg (bitsA (sumB a b c (cl n)))) w) := by
  have hm := cl_le n
  go_enter Tryz.func187, Tryz.ntmps187
  go_wp2_with (simp only [zero_bits])
  have hc0 := car_0 a b c
  have HC0 := Lib.hid hc0
  clear hc0
  go_loopw [10, 2] (fun i s w' => ∃ k : Nat, k ≤ cl n ∧ i = .int .i64 k ∧ s = .bool (car a b c k) ∧ SumAtR w a b c k w') (fun i _ _ => 128 - (intOf i).toNat)
  case atStart =>
    refine ⟨0, by omega, rfl, by rw [HC0.out], ((((Below.refl _ _).alloc (by simp) _).alloc (by simp) _).alloc (by simp; omega) _).alloc (by simp; omega) _, by simp, ?_, ?_, ?_, ?_⟩
    · exact (((BitsAt.new w _ _).past (by simp) _).past (by simp; omega) _).past (by simp; omega) _
    · have h1 := BitsAt.new (w.alloc (.cells (bitsA a.testBit) 175)) b.testBit 175
      simp only [World.size_alloc] at h1
      exact (h1.past (by simp) _).past (by simp) _
    · have h1 := BitsAt.new ((w.alloc (.cells (bitsA a.testBit) 175)).alloc (.cells (bitsA b.testBit) 175)) (fun _ => false) 175
      simp only [World.size_alloc] at h1
      exact h1.past (by simp) _
    · have h1 := BitsAt.new (((w.alloc (.cells (bitsA a.testBit) 175)).alloc (.cells (bitsA b.testBit) 175)).alloc (.cells (bitsA fun _ => false) 175)) (fun _ => false) 175
      simp only [World.size_alloc] at h1
      exact h1.congr fun i _ => by simp [sumB]
  case round =>
    obtain ⟨k, hk, rfl, rfl, hR⟩ := hrel
    clear HC0
    by_cases hlt : (k : Int) < cl n
    · have hs := hR.size
      have i0 := hR.x.cell k (by omega)
      have j0 := hR.y.cell k (by omega)
      have HC := Lib.hid (car_succ a b k c)
      have HV : Hid ((a.testBit k ^^ b.testBit k ^^ car a b c k) = (a.testBit k ^^ b.testBit k ^^ car a b c k)) := Lib.hid rfl
      generalize hu : a.testBit k = u at i0 HC
      generalize hv : b.testBit k = v at j0 HC
      generalize hcc : car a b c k = cc at HC ⊢
      have HU := Lib.hid hu
      have HW := Lib.hid hv
      have HCC := Lib.hid hcc
      clear hu hv hcc HV
      go_wp2_with (go_at_call 75; refine (rclamp_any _ _).mono ?_; rintro e w' ⟨rfl, rfl⟩)
      go_region
      go_wp2
      have hx : Below wr.heap.size wr (wr.alloc (.cells #[.bool u, .bool v, .bool cc] 4)).drew := ((Below.refl _ _).alloc (by simp) _).drew
      have hrow : ∀ j, j < 3 → (wr.alloc (.cells #[.bool u, .bool v, .bool cc] 4)).drew.cell? ⟨wr.heap.size, j, none⟩ = some (.bool (third u v cc j)) := fun j hj => by
        have : j = 0 ∨ j = 1 ∨ j = 2 := by omega
        rcases this with rfl | rfl | rfl <;> simp [third]
      have hS := hR.step hx
      generalize (wr.alloc (.cells #[.bool u, .bool v, .bool cc] 4)).drew = W2 at hrow hS ⊢
      generalize wr.heap.size = g at hrow ⊢
      clear hx hR i0 j0
      go_loop [29, 11] (fun i s => ∃ j : Nat, j ≤ 3 ∧ i = .int .i64 j ∧ s = .int .i64 (cntTo u v cc j : Nat)) (fun i _ => 3 - (intOf i).toNat)
      case atStart => exact ⟨0, by omega, rfl, by simp [cntTo]⟩
      case round =>
        obtain ⟨j, hj, rfl, rfl⟩ := hrel
        have hle := cntTo_le u v cc j
        by_cases hj3 : (j : Int) < 3
        · have r0 := hrow j (by omega)
          have HS := Lib.hid (cntTo_succ u v cc j (by omega))
          generalize third u v cc j = t at r0 HS
          generalize cntTo u v cc j = m at hle HS ⊢
          cases t
          all_goals
            go_wp2
            go_round
          all_goals go_light
          all_goals try (case measure => simp [intOf]; omega)
          all_goals exact ⟨j + 1, by omega, by simp, by rw [HS.out]; simp⟩
        · have e : j = 3 := by omega
          subst e
          have HS := Lib.hid (cntTo_3 u v cc)
          have HB := Lib.hid (cnt_odd u v cc)
          have HG := Lib.hid (cnt_big u v cc)
          generalize cntTo u v cc 3 = m at hle HS ⊢
          have o0 := hS.out.cell k (by omega)
          have o1 := hS.out.froz k (by omega)
          go_wp2
          go_roundw
          all_goals go_light
          case measure => simp [intOf]; omega
          refine ⟨k + 1, by omega, by simp, by rw [HC.out, HS.out, HG.out], hS.put (by omega) _ ?_⟩
          rw [HS.out, HB.out, HU.out, HW.out, HCC.out]
    · have e : k = cl n := by omega
      subst e
      go_wp2_with (first | (go_at_call 75; refine (rclamp_any _ _).mono ?_; rintro e w' ⟨rfl, rfl⟩) | refine wpList_load_bits rfl rfl rfl hR.out ?_ | refine wpList_store_bits rfl rfl rfl rfl hR.res.there ?_)
      go_light
      have hB := BitsAt.stored hR.res.there (sumB a b c (cl n))
      refine bodyPost_ret (v := .agg (bitsA (sumB a b c (cl n)))) (results_bits rfl rfl hB) rfl ⟨rfl, ?_⟩
      exact Below.setCells hR.below (by omega) _ _

set_option maxRecDepth 100000 in
theorem add_of (a b : Nat) (n : Int) : ofBits (sumB a b false (cl n)) = vadd n a b := by
  have hc := cl_le n
  refine ofBits_eq (vadd_lt n a b) fun i hi => ?_
  have := bit_sum a b i false
  rw [vadd, Nat.testBit_mod_two_pow, sumB, ← this]
  rfl
end
/- matchguardref01.Add and Sub: what they return. -/
section
open Go.RowKit

/-- A result's block that nothing has been stored into. -/
structure ResAtS (W : World) (r : Nat) : Prop where
  lt : r < W.heap.size
  r0 : W.cell? ⟨r, 0, none⟩ = some (.int .u64 0)
  r1 : W.cell? ⟨r, 1, none⟩ = some (.int .u64 0)
  q0 : W.frozen? ⟨r, 0, none⟩ = false
  q1 : W.frozen? ⟨r, 1, none⟩ = false
set_option maxRecDepth 100000 in
theorem ResAtS.call {W W' : World} {r : Nat} (h : ResAtS W r) (hx : Below W.heap.size W W') : ResAtS W' r :=
  ⟨Nat.lt_of_lt_of_le h.lt hx.size, by rw [hx.cell (p := ⟨_, _, none⟩) h.lt]; exact h.r0, by rw [hx.cell (p := ⟨_, _, none⟩) h.lt]; exact h.r1, by rw [hx.frozen (p := ⟨_, _, none⟩) h.lt]; exact h.q0, by rw [hx.frozen (p := ⟨_, _, none⟩) h.lt]; exact h.q1⟩
set_option maxRecDepth 100000 in
theorem keepN {W0 W : World} {n p q : Nat} {x0 x1 y0 y1 : Value} (hp : p < n) (hq : q < n) (c0 : W0.cell? ⟨p, 0, none⟩ = some x0) (c1 : W0.cell? ⟨p, 1, none⟩ = some x1) (c2 : W0.cell? ⟨q, 0, none⟩ = some y0) (c3 : W0.cell? ⟨q, 1, none⟩ = some y1) (hb : Below n W0 W) :
    Below n W0 W ∧ W.cell? ⟨p, 0, none⟩ = some x0 ∧ W.cell? ⟨p, 1, none⟩ = some x1 ∧ W.cell? ⟨q, 0, none⟩ = some y0 ∧ W.cell? ⟨q, 1, none⟩ = some y1 :=
  ⟨hb, by rw [hb.cell (p := ⟨_, _, none⟩) hp]; exact c0, by rw [hb.cell (p := ⟨_, _, none⟩) hp]; exact c1, by rw [hb.cell (p := ⟨_, _, none⟩) hq]; exact c2, by rw [hb.cell (p := ⟨_, _, none⟩) hq]; exact c3⟩
set_option maxRecDepth 100000 in
theorem belowCallN {W0 W W' : World} {n : Nat} {R : Prop} (hn : n ≤ W0.heap.size) (hx : Below W.heap.size W W') (h : Below n W0 W ∧ R) : Below n W0 W' := h.1.trans (hx.mono (Nat.le_trans hn h.1.size))
set_option maxRecDepth 100000 in
set_option maxHeartbeats 4000000 in
theorem radd_any (a b : Nat) (n : Int) (ha : a < 2 ^ 128) (hb : b < 2 ^ 128) (w : World) :
    Calls Tryz.prog 184 #[.agg #[.int .u64 (hi a), .int .u64 (lo a)], .agg #[.int .u64 (hi b), .int .u64 (lo b)], .int .i64 n] w (RetV (vadd n a b) w) := by
  have _ := ha; have _ := hb
  have HO := Lib.hid (add_of a b n)
  clear ha hb
  go_enter Tryz.func184, Tryz.ntmps184
  go_wp2
  have c0 : (((w.alloc (.cells #[.int .u64 (hi a), .int .u64 (lo a)] 103)).alloc (.cells #[.int .u64 (hi b), .int .u64 (lo b)] 103)).alloc (.cells #[.int .u64 0, .int .u64 0] 103)).cell? ⟨w.heap.size, 0, none⟩ = some (.int .u64 (hi a)) := by simp [go_sem]
  have c1 : (((w.alloc (.cells #[.int .u64 (hi a), .int .u64 (lo a)] 103)).alloc (.cells #[.int .u64 (hi b), .int .u64 (lo b)] 103)).alloc (.cells #[.int .u64 0, .int .u64 0] 103)).cell? ⟨w.heap.size, 1, none⟩ = some (.int .u64 (lo a)) := by simp [go_sem]
  have c2 : (((w.alloc (.cells #[.int .u64 (hi a), .int .u64 (lo a)] 103)).alloc (.cells #[.int .u64 (hi b), .int .u64 (lo b)] 103)).alloc (.cells #[.int .u64 0, .int .u64 0] 103)).cell? ⟨w.heap.size + 1, 0, none⟩ = some (.int .u64 (hi b)) := by simp [go_sem]
  have c3 : (((w.alloc (.cells #[.int .u64 (hi a), .int .u64 (lo a)] 103)).alloc (.cells #[.int .u64 (hi b), .int .u64 (lo b)] 103)).alloc (.cells #[.int .u64 0, .int .u64 0] 103)).cell? ⟨w.heap.size + 1, 1, none⟩ = some (.int .u64 (lo b)) := by simp [go_sem]
  have hr : ResAtS (((w.alloc (.cells #[.int .u64 (hi a), .int .u64 (lo a)] 103)).alloc (.cells #[.int .u64 (hi b), .int .u64 (lo b)] 103)).alloc (.cells #[.int .u64 0, .int .u64 0] 103)) (w.heap.size + 1 + 1) := ⟨by simp, by simp [go_sem], by simp [go_sem], by simp [go_sem], by simp [go_sem]⟩
  have sz : (((w.alloc (.cells #[.int .u64 (hi a), .int .u64 (lo a)] 103)).alloc (.cells #[.int .u64 (hi b), .int .u64 (lo b)] 103)).alloc (.cells #[.int .u64 0, .int .u64 0] 103)).heap.size = w.heap.size + 3 := by simp
  have bl : Below w.heap.size w (((w.alloc (.cells #[.int .u64 (hi a), .int .u64 (lo a)] 103)).alloc (.cells #[.int .u64 (hi b), .int .u64 (lo b)] 103)).alloc (.cells #[.int .u64 0, .int .u64 0] 103)) := (((Below.refl _ _).alloc (by simp) _).alloc (by simp) _).alloc (by simp; omega) _
  generalize hW : (((w.alloc (.cells #[.int .u64 (hi a), .int .u64 (lo a)] 103)).alloc (.cells #[.int .u64 (hi b), .int .u64 (lo b)] 103)).alloc (.cells #[.int .u64 0, .int .u64 0] 103)) = W0 at c0 c1 c2 c3 hr sz bl ⊢
  clear hW
  have hn : w.heap.size + 2 ≤ W0.heap.size := by omega
  have hp : w.heap.size < w.heap.size + 2 := by omega
  have hq : w.heap.size + 1 < w.heap.size + 2 := by omega
  clear sz
  have hr := hr.call (Below.drew (Below.refl _ W0))
  go_region_held3 (fun w' => Below (w.heap.size + 2) W0 w' ∧ w'.cell? ⟨w.heap.size, 0, none⟩ = some (.int .u64 (hi a)) ∧ w'.cell? ⟨w.heap.size, 1, none⟩ = some (.int .u64 (lo a)) ∧
        w'.cell? ⟨w.heap.size + 1, 0, none⟩ = some (.int .u64 (hi b)) ∧ w'.cell? ⟨w.heap.size + 1, 1, none⟩ = some (.int .u64 (lo b)))
      (first
        | exact keepN hp hq c0 c1 c2 c3 (Below.drew (Below.refl _ _))
        | exact keepN hp hq c0 c1 c2 c3 (belowCallN hn (by assumption) (by assumption))
        | exact keepN hp hq c0 c1 c2 c3 (Below.setCell (Below.setCell (And.left (by assumption)) (by simp) _) (by simp) _))
      (first
        | (go_at_call 150; refine (read_any _ _).mono ?_; rintro e w' ⟨rfl, hx⟩; have hr := hr.call hx)
        | (go_at_call 187; refine (rsum_any _ _ _ _ _).mono ?_; rintro e w' ⟨rfl, hx⟩; have hr := hr.call hx)
        | (go_at_call 76; refine (make_any _ _).mono ?_; rintro e w' ⟨rfl, hx⟩; obtain ⟨_, r0, r1, q0, q1⟩ := hr.call hx))
  all_goals go_wp2
  all_goals go_light
  all_goals
    refine bodyPost_ret (v := .agg #[.int .u64 (hi (vadd n a b)), .int .u64 (lo (vadd n a b))]) (by rw [← HO.out]; simp [results, Tryz.results184, go_sem, r0, r1]) rfl ⟨rfl, ?_⟩
    exact bl.trans (Below.mono (And.left (by assumption : Below (w.heap.size + 2) W0 _ ∧ _)) (by omega))
end
end Go.Proofs.YtodmkmoglchoeaaGreatDoor
