/- NumberValues, its walk. -/
import Derived.Test.YtbacclhnbecojaaNOrdersW
import Derived.Test.YtbacclhnbecojaaNLim
namespace Go.Proofs.Ytbacclhnbecojaa
open Go.RowKit

/-- two cells -/
structure Two (w : World) (P : Nat) (x y : Value) : Prop where
  lt : P < w.heap.size
  c0 : w.cell? ⟨P, 0, none⟩ = some x
  c1 : w.cell? ⟨P, 1, none⟩ = some y
theorem Two.call {w w' : World} {P : Nat} {x y : Value} (h : Two w P x y) (hb : Below w.heap.size w w') : Two w' P x y :=
  ⟨Nat.lt_of_lt_of_le h.lt hb.size, by rw [hb.cell (p := ⟨P, 0, none⟩) h.lt]; exact h.c0, by rw [hb.cell (p := ⟨P, 1, none⟩) h.lt]; exact h.c1⟩
theorem Two.alloc {w : World} {P : Nat} {x y : Value} (h : Two w P x y) (o : Obj) : Two (w.alloc o) P x y := h.call ((Below.refl _ _).alloc (by simp) _)
theorem Two.drew {w : World} {P : Nat} {x y : Value} (h : Two w P x y) : Two w.drew P x y := ⟨h.lt, h.c0, h.c1⟩
theorem Two.new (w : World) (x y : Value) (t : TypeId) : Two (w.alloc (.cells #[x, y] t)) w.heap.size x y := ⟨by simp, by simp [go_sem], by simp [go_sem]⟩
/-- the law's world: the value in its box, the Int, what Value handed back -/
structure ValW (w : World) (P Y V : Nat) (m0 m1 v0 v1 : Value) (a : Int) (s : Bool) (A : Option Addr) (n c : Nat) (w' : World) : Prop where
  below : Below w.heap.size w w'
  tp : Two w' P m0 m1
  tv : Two w' V v0 v1
  bx : BoxI w' Y s A n c a
theorem ValW.call {w w1 w2 : World} {P Y V : Nat} {m0 m1 v0 v1 : Value} {a : Int} {s : Bool} {A : Option Addr} {n c : Nat} (h : ValW w P Y V m0 m1 v0 v1 a s A n c w1) (hb : Below w1.heap.size w1 w2) : ValW w P Y V m0 m1 v0 v1 a s A n c w2 :=
  ⟨h.below.trans (hb.mono h.below.size), h.tp.call hb, h.tv.call hb, h.bx.call hb⟩
theorem ValW.drew {w w1 : World} {P Y V : Nat} {m0 m1 v0 v1 : Value} {a : Int} {s : Bool} {A : Option Addr} {n c : Nat} (h : ValW w P Y V m0 m1 v0 v1 a s A n c w1) : ValW w P Y V m0 m1 v0 v1 a s A n c w1.drew := ⟨h.below.drew, h.tp.drew, h.tv.drew, h.bx.drew⟩
theorem ValW.all {w w' : World} {P Y V : Nat} {m0 m1 v0 v1 : Value} {a : Int} {s : Bool} {A : Option Addr} {n c : Nat} (h : ValW w P Y V m0 m1 v0 v1 a s A n c w') : ValW w P Y V m0 m1 v0 v1 a s A n c w' ∧ w'.cell? ⟨P, 0, none⟩ = some m0 ∧ w'.cell? ⟨P, 1, none⟩ = some m1 ∧ w'.cell? ⟨V, 0, none⟩ = some v0 ∧ w'.cell? ⟨V, 1, none⟩ = some v1 ∧ w'.cell? ⟨Y, 0, none⟩ = some (.bool s) ∧ w'.cell? ⟨Y, 1, none⟩ = some (.slice A n c) := ⟨h, h.tp.c0, h.tp.c1, h.tv.c0, h.tv.c1, h.bx.c0, h.bx.c1⟩
theorem Sb.bd_lim {a : Int} (ha : Sb a) : Bd (a - 340282366920938463463374607431768211456) := by
  unfold Sb at ha; unfold Bd
  have : (a - 340282366920938463463374607431768211456).natAbs < 2 ^ 140 := by omega
  exact Nat.lt_trans this (by decide +kernel)
theorem nn_fromC (v : Nat) (x y : Int) (hv : v < 2 ^ 128) (hx : hi v = x) (hy : lo v = y) (w : World) : Calls Try.prog 24 #[.agg #[.int .u64 x, .int .u64 y]] w (RetN v w) := by
  rw [← hx, ← hy]; exact nn_from v hv w
theorem nn_valC (v : Nat) (x y : Int) (hv : v < 2 ^ 128) (hx : hi v = x) (hy : lo v = y) (w : World) : Calls Try.prog 21 #[.agg #[.int .u32 (wd v 0), .int .u32 (wd v 1), .int .u32 (wd v 2), .int .u32 (wd v 3), .int .u32 (wd v 4), .int .u32 (wd v 5)]] w (fun e w' => e = .returned (.tuple #[.agg #[.int .u64 x, .int .u64 y], .bool true]) ∧ Below w.heap.size w w') := by
  rw [← hx, ← hy]; exact nn_val_yes v hv w
theorem nn_valN (z : Int) (h : Rg z) (hI : isV z = false) (w : World) : Calls Try.prog 21 #[.agg #[.int .u32 (wd z 0), .int .u32 (wd z 1), .int .u32 (wd z 2), .int .u32 (wd z 3), .int .u32 (wd z 4), .int .u32 (wd z 5)]] w (fun e w' => e = .returned (.tuple #[.agg #[.int .u64 0, .int .u64 0], .bool false]) ∧ Below w.heap.size w w') := nn_val_no z h hI w

set_option maxRecDepth 100000 in
set_option maxHeartbeats 8000000 in
theorem nvals_any (w : World) (A1 B1 : Option Addr) (n1 m1 c1 d1 : Nat) (f1 : Nat → Nat) (g1 : Nat → Bool) (v : Nat) (hv : v < 2 ^ 128) (hn1 : n1 ≤ 9223372036854775807) (hm1 : m1 ≤ 9223372036854775807) (hc1 : n1 ≤ c1)
    (hf1 : ∀ i, f1 i < 2 ^ 128) (hA1 : ValsB w A1 n1 f1) (hB1 : BoolsB w B1 m1 g1) :
    Calls Try.prog 5 #[.slice A1 n1 c1, .slice B1 m1 d1, .agg #[.int .u64 (hi v), .int .u64 (lo v)]] w (RetX (.bool true) w) := by
  obtain ⟨a, ha⟩ : ∃ x, x = sm f1 g1 m1 (min n1 20) := ⟨_, rfl⟩
  have S1 : Hid (∀ W, Below w.heap.size w W → Calls Try.prog 8 #[.slice A1 n1 c1, .slice B1 m1 d1] W (RetSum a W)) := Lib.hid fun W h => by rw [ha]; exact ns_sum W A1 B1 n1 m1 c1 d1 f1 g1 hn1 hm1 hc1 hf1 (hA1.below h) (hB1.below h)
  have SA := Lib.hid (show Sb a by rw [ha]; exact sm_sb f1 g1 m1 hf1 n1)
  clear ha hA1 hB1 hf1 hn1 hm1 hc1
  obtain ⟨x0, hx0⟩ : ∃ x, hi v = x := ⟨_, rfl⟩
  obtain ⟨x1, hx1⟩ : ∃ x, lo v = x := ⟨_, rfl⟩
  obtain ⟨vz, hvz⟩ : ∃ x : Int, x = (v : Int) := ⟨_, rfl⟩
  obtain ⟨u, hu⟩ : ∃ x : Int, x = 340282366920938463463374607431768211455 := ⟨_, rfl⟩
  obtain ⟨u1, hu1⟩ : ∃ x : Int, x = u - (-1) := ⟨_, rfl⟩
  obtain ⟨q, hq⟩ : ∃ x : Int, x = vz + u1 := ⟨_, rfl⟩
  have KF : Hid (∀ W, Calls Try.prog 24 #[.agg #[.int .u64 x0, .int .u64 x1]] W (RetN vz W)) := Lib.hid fun W => by rw [hvz]; exact nn_fromC v x0 x1 hv hx0 hx1 W
  have KM : Hid (∀ W, Calls Try.prog 24 #[.agg #[.int .u64 18446744073709551615, .int .u64 18446744073709551615]] W (RetN u W)) := Lib.hid fun W => by rw [hu]; exact nn_fromC 340282366920938463463374607431768211455 _ _ (by decide) (by decide) (by decide) W
  have KV : Hid (∀ W, Calls Try.prog 21 #[.agg #[.int .u32 (wd vz 0), .int .u32 (wd vz 1), .int .u32 (wd vz 2), .int .u32 (wd vz 3), .int .u32 (wd vz 4), .int .u32 (wd vz 5)]] W (fun e w' => e = .returned (.tuple #[.agg #[.int .u64 x0, .int .u64 x1], .bool true]) ∧ Below W.heap.size W w')) := Lib.hid fun W => by rw [hvz]; exact nn_valC v x0 x1 hv hx0 hx1 W
  have KO : Hid (∀ W, Calls Try.prog 13 #[.int .i64 (-1)] W (RetN (-1) W)) := Lib.hid fun W => nn_of (-1) (by decide) (by decide) W
  have KS : Hid (∀ W, Calls Try.prog 20 #[.agg #[.int .u32 (wd u 0), .int .u32 (wd u 1), .int .u32 (wd u 2), .int .u32 (wd u 3), .int .u32 (wd u 4), .int .u32 (wd u 5)], .agg #[.int .u32 (wd (-1) 0), .int .u32 (wd (-1) 1), .int .u32 (wd (-1) 2), .int .u32 (wd (-1) 3), .int .u32 (wd (-1) 4), .int .u32 (wd (-1) 5)]] W (RetN u1 W)) := Lib.hid fun W => by rw [hu1]; exact nn_subL u (-1) W
  have KA : Hid (∀ W, Calls Try.prog 15 #[.agg #[.int .u32 (wd vz 0), .int .u32 (wd vz 1), .int .u32 (wd vz 2), .int .u32 (wd vz 3), .int .u32 (wd vz 4), .int .u32 (wd vz 5)], .agg #[.int .u32 (wd u1 0), .int .u32 (wd u1 1), .int .u32 (wd u1 2), .int .u32 (wd u1 3), .int .u32 (wd u1 4), .int .u32 (wd u1 5)]] W (RetN q W)) := Lib.hid fun W => by rw [hq]; exact nn_addL vz u1 W
  have KB : Hid (∀ W, Calls Try.prog 21 #[.agg #[.int .u32 (wd q 0), .int .u32 (wd q 1), .int .u32 (wd q 2), .int .u32 (wd q 3), .int .u32 (wd q 4), .int .u32 (wd q 5)]] W (fun e w' => e = .returned (.tuple #[.agg #[.int .u64 0, .int .u64 0], .bool false]) ∧ Below W.heap.size W w')) := Lib.hid fun W => nn_valN q (by rw [hq, hu1, hu, hvz]; unfold Rg; omega) (by rw [hq, hu1, hu, hvz]; unfold isV; rw [decide_eq_false_iff_not]; omega) W
  have KFit : Hid (∀ W s A n c, IntS W s A n c a → Calls Try.prog 22 #[.agg #[.bool s, .slice A n c]] W (RetX (.bool (isV a)) W)) := Lib.hid fun W s A n c h => ri_fits W s A n c a (SA.out.bd_lim) h
  rw [hx0, hx1]
  clear hx0 hx1 hv hvz hu hu1 hq
  cases hok : isV a
  · have KW : Hid (∀ W, Calls Try.prog 21 #[.agg #[.int .u32 (wd a 0), .int .u32 (wd a 1), .int .u32 (wd a 2), .int .u32 (wd a 3), .int .u32 (wd a 4), .int .u32 (wd a 5)]] W (fun e w' => e = .returned (.tuple #[.agg #[.int .u64 0, .int .u64 0], .bool false]) ∧ Below W.heap.size W w')) := Lib.hid fun W => nn_valN a SA.out.rg hok W
    rw [hok] at KFit
    clear SA hok
    go_enter Try.func5, Try.ntmps5
    go_wp2_with fail
    go_at_call 8
    refine (S1.out _ ((Below.refl _ _).alloc (by simp) _)).mono ?_
    rintro e w1 ⟨s, A, n, c, rfl, hI1, hb1⟩
    have hs1 := hb1.size
    have t1 := (Two.new w (.int .u64 x0) (.int .u64 x1) 48).call hb1
    have hb1' : Below w.heap.size w w1 := ((Below.refl _ _).alloc (by simp) _).trans (hb1.mono (by simp))
    have HB1 := Lib.hid hb1'
    have HT1 := Lib.hid t1
    have HI1 := Lib.hid hI1
    clear hb1 hb1' t1 hI1
    go_wp2_with fail
    go_at_call 21
    refine (KW.out _).mono ?_
    rintro e w2 ⟨rfl, hb2⟩
    have b1 := BoxI.new (HI1.out.alloc (.cells #[.int .u32 (wd a 0), .int .u32 (wd a 1), .int .u32 (wd a 2), .int .u32 (wd a 3), .int .u32 (wd a 4), .int .u32 (wd a 5)] 27))
    simp only [World.size_alloc] at b1
    have b2 := b1.call hb2
    have t2 := ((HT1.out.alloc _).alloc _).call hb2
    have hb2' := ((HB1.out.alloc HB1.out.size (.cells #[.int .u32 (wd a 0), .int .u32 (wd a 1), .int .u32 (wd a 2), .int .u32 (wd a 3), .int .u32 (wd a 4), .int .u32 (wd a 5)] 27)).alloc (by have := HB1.out.size; simp; omega) (.cells #[.bool s, .slice A n c] 30)).trans (hb2.mono (by have := HB1.out.size; simp; omega))
    have hsz2 := hb2'.size
    have HW := Lib.hid (show ValW w w.heap.size (w1.heap.size + 1) w2.heap.size (.int .u64 x0) (.int .u64 x1) (.int .u64 0) (.int .u64 0) a s A n c (w2.alloc (.cells #[.int .u64 0, .int .u64 0] 48)) from ⟨hb2'.alloc hsz2 _, t2.alloc _, Two.new _ _ _ _, b2.call ((Below.refl _ _).alloc (by simp) _)⟩)
    clear b1 b2 t2 hb2 hb2' HB1 HT1 HI1 S1 KW
    go_upto_region 3 with fail
    generalize w1.heap.size + 1 = Y at HW ⊢
    generalize w1.heap.size = X at ⊢
    generalize w2.heap.size = V at HW ⊢
    generalize w2.alloc (.cells #[.int .u64 0, .int .u64 0] 48) = w4 at HW ⊢
    have hI0 := HW.out.drew.bx.v
    clear hs1 hsz2
    refine wp_region_noPanic ?_
    refine wp_region_held_drew (S := fun w' => ValW w w.heap.size Y V (.int .u64 x0) (.int .u64 x1) (.int .u64 0) (.int .u64 0) a s A n c w' ∧ w'.cell? ⟨w.heap.size, 0, none⟩ = some (.int .u64 x0) ∧ w'.cell? ⟨w.heap.size, 1, none⟩ = some (.int .u64 x1) ∧ w'.cell? ⟨V, 0, none⟩ = some (.int .u64 0) ∧ w'.cell? ⟨V, 1, none⟩ = some (.int .u64 0) ∧ w'.cell? ⟨Y, 0, none⟩ = some (.bool s) ∧ w'.cell? ⟨Y, 1, none⟩ = some (.slice A n c)) (by kernel_rfl) (ValW.drew HW.out).all (fun hHeld => ?_)
    refine wpAnyH_take (i := 0) (oi := ({ dst := some 26, op := Op.move (Operand.tmp 10), type := _, pos := "law.go:49", after := _, guard := none } : Oper)) (v := ?_) rfl (by kernel_rfl) (by kernel_rfl) (by kernel_rfl) (fun _ _ _ h => h) (Or.inl ⟨by rfl, ?_⟩) hHeld ?_
    rotate_left
    · (intro w1 hSw; (try dsimp only at hSw); go_simp; all_goals with_reducible rfl)
    (try simp only [Act.put, List.setIfInBounds_toArray, List.set_cons_zero, List.set_cons_succ])
    refine wpAnyH_take (i := 1) (oi := ({ dst := some 27, op := Op.load 30 (Operand.tmp 8), type := _, pos := "law.go:49", after := _, guard := none } : Oper)) (v := ?_) rfl (by kernel_rfl) (by kernel_rfl) (by kernel_rfl) (fun _ _ _ h => h) (Or.inl ⟨by rfl, ?_⟩) hHeld ?_
    rotate_left
    · (intro w1 hSw; (try dsimp only at hSw); go_simp; all_goals with_reducible rfl)
    (try simp only [Act.put, List.setIfInBounds_toArray, List.set_cons_zero, List.set_cons_succ])
    refine wpAnyH_ready (rs := [2]) (by kernel_rfl) (by simp) ?_
    refine AllReadyH.cons (o := ({ dst := some 28, op := Op.call { callee := Callee.value (Operand.func 22), args := #[Operand.tmp 27], argTypes := _ }, type := _, pos := "law.go:49", after := _, guard := none } : Oper)) rfl (fun K hK => ?_) AllReadyH.nil
    go_simp
    go_wp2_with (go_at_call 22; refine (KFit.out _ _ _ _ _ ?_).mono ?_; (focus ((repeat (first | assumption | refine IntS.below ?_ (by assumption))); done)); rintro e w5 ⟨rfl, hw5⟩; have HV := Lib.hid (ValW.call (And.left hHeld) hw5))
    refine hK.out _ _ ?_ (fun hHeld2 => ?_)
    · exact (ValW.call (And.left hHeld) (by assumption)).all
    clear hK K hHeld
    have hHeld := hHeld2
    clear hHeld2
    (try simp only [Act.put, List.setIfInBounds_toArray, List.set_cons_zero, List.set_cons_succ])
    refine wpAnyH_take (i := 3) (oi := ({ dst := some 29, op := Op.binOp BinOp.neq 4 (Operand.tmp 26) (Operand.tmp 28) 4, type := _, pos := "law.go:49", after := _, guard := none } : Oper)) (v := ?_) rfl (by kernel_rfl) (by kernel_rfl) (by kernel_rfl) (fun _ _ _ h => h) (Or.inl ⟨by rfl, ?_⟩) hHeld ?_
    rotate_left
    · (intro w1 hSw; (try dsimp only at hSw); go_simp; all_goals with_reducible rfl)
    (try simp only [Act.put, List.setIfInBounds_toArray, List.set_cons_zero, List.set_cons_succ])
    refine wpAnyH_take (i := 4) (oi := ({ dst := some 30, op := Op.move (Operand.tmp 29), type := _, pos := "law.go:49", after := _, guard := none } : Oper)) (v := ?_) rfl (by kernel_rfl) (by kernel_rfl) (by kernel_rfl) (fun _ _ _ h => h) (Or.inl ⟨by rfl, ?_⟩) hHeld ?_
    rotate_left
    · (intro w1 hSw; (try dsimp only at hSw); go_simp; all_goals with_reducible rfl)
    (try simp only [Act.put, List.setIfInBounds_toArray, List.set_cons_zero, List.set_cons_succ])
    refine wpAnyH_take (i := 5) (oi := ({ dst := some 31, op := Op.move (Operand.tmp 10), type := _, pos := "law.go:49", after := _, guard := some (4, false) } : Oper)) (v := ?_) rfl (by kernel_rfl) (by kernel_rfl) (by kernel_rfl) (fun _ _ _ h => h) (Or.inl ⟨by rfl, ?_⟩) hHeld ?_
    rotate_left
    · (intro w1 hSw; (try dsimp only at hSw); go_simp; all_goals with_reducible rfl)
    (try simp only [Act.put, List.setIfInBounds_toArray, List.set_cons_zero, List.set_cons_succ])
    refine wpAnyH_take (i := 6) (oi := ({ dst := some 32, op := Op.move (Operand.tmp 31), type := _, pos := "law.go:49", after := _, guard := some (4, false) } : Oper)) (v := ?_) rfl (by kernel_rfl) (by kernel_rfl) (by kernel_rfl) (fun _ _ _ h => h) (Or.inl ⟨by rfl, ?_⟩) hHeld ?_
    rotate_left
    · (intro w1 hSw; (try dsimp only at hSw); go_simp; all_goals with_reducible rfl)
    (try simp only [Act.put, List.setIfInBounds_toArray, List.set_cons_zero, List.set_cons_succ])
    refine wpAnyH_take (i := 7) (oi := ({ dst := some 33, op := Op.load 48 (Operand.tmp 9), type := _, pos := "law.go:49", after := _, guard := some (6, true) } : Oper)) (v := undef) rfl (by kernel_rfl) (by kernel_rfl) (by kernel_rfl) (fun _ _ _ h => h) (Or.inr ⟨by rfl, rfl⟩) hHeld ?_
    (try simp only [Act.put, List.setIfInBounds_toArray, List.set_cons_zero, List.set_cons_succ])
    refine wpAnyH_take (i := 8) (oi := ({ dst := some 34, op := Op.call { callee := Callee.value (Operand.func 23), args := #[Operand.tmp 33], argTypes := _ }, type := _, pos := "law.go:49", after := _, guard := some (6, true) } : Oper)) (v := undef) rfl (by kernel_rfl) (by kernel_rfl) (by kernel_rfl) (fun _ _ _ h => h) (Or.inr ⟨by rfl, rfl⟩) hHeld ?_
    (try simp only [Act.put, List.setIfInBounds_toArray, List.set_cons_zero, List.set_cons_succ])
    refine wpAnyH_take (i := 9) (oi := ({ dst := some 35, op := Op.call { callee := Callee.value (Operand.func 10), args := #[Operand.tmp 34], argTypes := _ }, type := _, pos := "law.go:49", after := _, guard := some (6, true) } : Oper)) (v := undef) rfl (by kernel_rfl) (by kernel_rfl) (by kernel_rfl) (fun _ _ _ h => h) (Or.inr ⟨by rfl, rfl⟩) hHeld ?_
    (try simp only [Act.put, List.setIfInBounds_toArray, List.set_cons_zero, List.set_cons_succ])
    refine wpAnyH_take (i := 10) (oi := ({ dst := some 36, op := Op.load 30 (Operand.tmp 8), type := _, pos := "law.go:49", after := _, guard := some (6, true) } : Oper)) (v := undef) rfl (by kernel_rfl) (by kernel_rfl) (by kernel_rfl) (fun _ _ _ h => h) (Or.inr ⟨by rfl, rfl⟩) hHeld ?_
    (try simp only [Act.put, List.setIfInBounds_toArray, List.set_cons_zero, List.set_cons_succ])
    refine wpAnyH_take (i := 11) (oi := ({ dst := some 37, op := Op.call { callee := Callee.value (Operand.func 10), args := #[Operand.tmp 36], argTypes := _ }, type := _, pos := "law.go:49", after := _, guard := some (6, true) } : Oper)) (v := undef) rfl (by kernel_rfl) (by kernel_rfl) (by kernel_rfl) (fun _ _ _ h => h) (Or.inr ⟨by rfl, rfl⟩) hHeld ?_
    (try simp only [Act.put, List.setIfInBounds_toArray, List.set_cons_zero, List.set_cons_succ])
    refine wpAnyH_take (i := 12) (oi := ({ dst := some 38, op := Op.binOp BinOp.neq 9 (Operand.tmp 35) (Operand.tmp 37) 9, type := _, pos := "law.go:49", after := _, guard := some (6, true) } : Oper)) (v := undef) rfl (by kernel_rfl) (by kernel_rfl) (by kernel_rfl) (fun _ _ _ h => h) (Or.inr ⟨by rfl, rfl⟩) hHeld ?_
    (try simp only [Act.put, List.setIfInBounds_toArray, List.set_cons_zero, List.set_cons_succ])
    refine wpAnyH_take (i := 13) (oi := ({ dst := some 39, op := Op.pick (Operand.tmp 32) (Operand.tmp 38) (Operand.const (Value.bool false)), type := _, pos := "law.go:49", after := _, guard := some (4, false) } : Oper)) (v := ?_) rfl (by kernel_rfl) (by kernel_rfl) (by kernel_rfl) (fun _ _ _ h => h) (Or.inl ⟨by rfl, ?_⟩) hHeld ?_
    rotate_left
    · (intro w1 hSw; (try dsimp only at hSw); go_simp; all_goals with_reducible rfl)
    (try simp only [Act.put, List.setIfInBounds_toArray, List.set_cons_zero, List.set_cons_succ])
    refine wpAnyH_take (i := 14) (oi := ({ dst := some 40, op := Op.pick (Operand.tmp 30) (Operand.const (Value.bool true)) (Operand.tmp 39), type := _, pos := "law.go:49", after := _, guard := none } : Oper)) (v := ?_) rfl (by kernel_rfl) (by kernel_rfl) (by kernel_rfl) (fun _ _ _ h => h) (Or.inl ⟨by rfl, ?_⟩) hHeld ?_
    rotate_left
    · (intro w1 hSw; (try dsimp only at hSw); go_simp; all_goals with_reducible rfl)
    (try simp only [Act.put, List.setIfInBounds_toArray, List.set_cons_zero, List.set_cons_succ])
    refine wpAnyH_take (i := 15) (oi := ({ dst := some 41, op := Op.move (Operand.tmp 40), type := _, pos := "law.go:49", after := _, guard := none } : Oper)) (v := ?_) rfl (by kernel_rfl) (by kernel_rfl) (by kernel_rfl) (fun _ _ _ h => h) (Or.inl ⟨by rfl, ?_⟩) hHeld ?_
    rotate_left
    · (intro w1 hSw; (try dsimp only at hSw); go_simp; all_goals with_reducible rfl)
    (try simp only [Act.put, List.setIfInBounds_toArray, List.set_cons_zero, List.set_cons_succ])
    refine wpAnyH_take (i := 16) (oi := ({ dst := some 42, op := Op.move (Operand.tmp 10), type := _, pos := "law.go:49", after := _, guard := some (15, false) } : Oper)) (v := ?_) rfl (by kernel_rfl) (by kernel_rfl) (by kernel_rfl) (fun _ _ _ h => h) (Or.inl ⟨by rfl, ?_⟩) hHeld ?_
    rotate_left
    · (intro w1 hSw; (try dsimp only at hSw); go_simp; all_goals with_reducible rfl)
    (try simp only [Act.put, List.setIfInBounds_toArray, List.set_cons_zero, List.set_cons_succ])
    refine wpAnyH_take (i := 17) (oi := ({ dst := some 43, op := Op.unOp UnOp.not 4 (Operand.tmp 42), type := _, pos := "law.go:49", after := _, guard := some (15, false) } : Oper)) (v := ?_) rfl (by kernel_rfl) (by kernel_rfl) (by kernel_rfl) (fun _ _ _ h => h) (Or.inl ⟨by rfl, ?_⟩) hHeld ?_
    rotate_left
    · (intro w1 hSw; (try dsimp only at hSw); go_simp; all_goals with_reducible rfl)
    (try simp only [Act.put, List.setIfInBounds_toArray, List.set_cons_zero, List.set_cons_succ])
    refine wpAnyH_take (i := 18) (oi := ({ dst := some 44, op := Op.move (Operand.tmp 43), type := _, pos := "law.go:49", after := _, guard := some (15, false) } : Oper)) (v := ?_) rfl (by kernel_rfl) (by kernel_rfl) (by kernel_rfl) (fun _ _ _ h => h) (Or.inl ⟨by rfl, ?_⟩) hHeld ?_
    rotate_left
    · (intro w1 hSw; (try dsimp only at hSw); go_simp; all_goals with_reducible rfl)
    (try simp only [Act.put, List.setIfInBounds_toArray, List.set_cons_zero, List.set_cons_succ])
    refine wpAnyH_take (i := 19) (oi := ({ dst := some 45, op := Op.load 48 (Operand.tmp 9), type := _, pos := "law.go:49", after := _, guard := some (18, true) } : Oper)) (v := ?_) rfl (by kernel_rfl) (by kernel_rfl) (by kernel_rfl) (fun _ _ _ h => h) (Or.inl ⟨by rfl, ?_⟩) hHeld ?_
    rotate_left
    · (intro w1 hSw; (try dsimp only at hSw); go_simp; all_goals with_reducible rfl)
    (try simp only [Act.put, List.setIfInBounds_toArray, List.set_cons_zero, List.set_cons_succ])
    refine wpAnyH_take (i := 20) (oi := ({ dst := some 46, op := Op.build 48 #[], type := _, pos := "law.go:49", after := _, guard := some (18, true) } : Oper)) (v := ?_) rfl (by kernel_rfl) (by kernel_rfl) (by kernel_rfl) (fun _ _ _ h => h) (Or.inl ⟨by rfl, ?_⟩) hHeld ?_
    rotate_left
    · (intro w1 hSw; (try dsimp only at hSw); go_simp; all_goals with_reducible rfl)
    (try simp only [Act.put, List.setIfInBounds_toArray, List.set_cons_zero, List.set_cons_succ])
    refine wpAnyH_take (i := 21) (oi := ({ dst := some 47, op := Op.binOp BinOp.neq 48 (Operand.tmp 45) (Operand.tmp 46) 48, type := _, pos := "law.go:49", after := _, guard := some (18, true) } : Oper)) (v := ?_) rfl (by kernel_rfl) (by kernel_rfl) (by kernel_rfl) (fun _ _ _ h => h) (Or.inl ⟨by rfl, ?_⟩) hHeld ?_
    rotate_left
    · (intro w1 hSw; (try dsimp only at hSw); go_simp; all_goals with_reducible rfl)
    (try simp only [Act.put, List.setIfInBounds_toArray, List.set_cons_zero, List.set_cons_succ])
    refine wpAnyH_take (i := 22) (oi := ({ dst := some 48, op := Op.pick (Operand.tmp 44) (Operand.tmp 47) (Operand.const (Value.bool false)), type := _, pos := "law.go:49", after := _, guard := some (15, false) } : Oper)) (v := ?_) rfl (by kernel_rfl) (by kernel_rfl) (by kernel_rfl) (fun _ _ _ h => h) (Or.inl ⟨by rfl, ?_⟩) hHeld ?_
    rotate_left
    · (intro w1 hSw; (try dsimp only at hSw); go_simp; all_goals with_reducible rfl)
    (try simp only [Act.put, List.setIfInBounds_toArray, List.set_cons_zero, List.set_cons_succ])
    refine wpAnyH_take (i := 23) (oi := ({ dst := some 49, op := Op.pick (Operand.tmp 41) (Operand.const (Value.bool true)) (Operand.tmp 48), type := _, pos := "law.go:49", after := _, guard := none } : Oper)) (v := ?_) rfl (by kernel_rfl) (by kernel_rfl) (by kernel_rfl) (fun _ _ _ h => h) (Or.inl ⟨by rfl, ?_⟩) hHeld ?_
    rotate_left
    · (intro w1 hSw; (try dsimp only at hSw); go_simp; all_goals with_reducible rfl)
    (try simp only [Act.put, List.setIfInBounds_toArray, List.set_cons_zero, List.set_cons_succ])
    refine wpAnyH_done (by kernel_rfl) ?_ _
    refine NoPanic.normal ?_
    all_goals have p0 := HV.out.tp.c0
    all_goals have p1 := HV.out.tp.c1
    all_goals go_wp2_with fail
    all_goals go_at_call 24
    all_goals refine (KF.out _).mono ?_
    all_goals rintro e w6 ⟨rfl, hw6⟩
    all_goals have HV6 := Lib.hid (HV.out.call hw6)
    all_goals clear hw6 p0 p1
    all_goals go_wp2_with fail
    all_goals go_at_call 21
    all_goals refine (KV.out _).mono ?_
    all_goals rintro e w7 ⟨rfl, hw7⟩
    all_goals have HV7 := Lib.hid (HV6.out.call hw7)
    all_goals clear hw7
    all_goals have t7 := HV7.out.tp.alloc (.cells #[.int .u64 x0, .int .u64 x1] 48)
    all_goals have p0 := t7.c0
    all_goals have p1 := t7.c1
    all_goals clear t7
    all_goals go_wp2_with fail
    all_goals have T7 := Lib.hid (HV7.out.tp.alloc (.cells #[.int .u64 x0, .int .u64 x1] 48))
    all_goals have U7 := Lib.hid (Two.new w7 (.int .u64 x0) (.int .u64 x1) 48)
    all_goals have B7 := Lib.hid (HV7.out.below.alloc HV7.out.below.size (.cells #[.int .u64 x0, .int .u64 x1] 48))
    all_goals clear p0 p1
    all_goals go_at_call 24
    all_goals refine (KF.out _).mono ?_
    all_goals rintro e w8 ⟨rfl, hw8⟩
    all_goals have T8 := Lib.hid (T7.out.call hw8)
    all_goals have U8 := Lib.hid (U7.out.call hw8)
    all_goals have B8 := Lib.hid (B7.out.trans (hw8.mono B7.out.size))
    all_goals clear hw8 T7 U7 B7
    all_goals go_wp2_with fail
    all_goals go_at_call 24
    all_goals refine (KM.out _).mono ?_
    all_goals rintro e w9 ⟨rfl, hw9⟩
    all_goals have T9 := Lib.hid (T8.out.call hw9)
    all_goals have U9 := Lib.hid (U8.out.call hw9)
    all_goals have B9 := Lib.hid (B8.out.trans (hw9.mono B8.out.size))
    all_goals clear hw9 T8 U8 B8
    all_goals go_wp2_with fail
    all_goals go_at_call 13
    all_goals refine (KO.out _).mono ?_
    all_goals rintro e w10 ⟨rfl, hw10⟩
    all_goals have T10 := Lib.hid (T9.out.call hw10)
    all_goals have U10 := Lib.hid (U9.out.call hw10)
    all_goals have B10 := Lib.hid (B9.out.trans (hw10.mono B9.out.size))
    all_goals clear hw10 T9 U9 B9
    all_goals go_wp2_with fail
    all_goals go_at_call 20
    all_goals refine (KS.out _).mono ?_
    all_goals rintro e w11 ⟨rfl, hw11⟩
    all_goals have T11 := Lib.hid (T10.out.call hw11)
    all_goals have U11 := Lib.hid (U10.out.call hw11)
    all_goals have B11 := Lib.hid (B10.out.trans (hw11.mono B10.out.size))
    all_goals clear hw11 T10 U10 B10
    all_goals go_wp2_with fail
    all_goals go_at_call 15
    all_goals refine (KA.out _).mono ?_
    all_goals rintro e w12 ⟨rfl, hw12⟩
    all_goals have T12 := Lib.hid (T11.out.call hw12)
    all_goals have U12 := Lib.hid (U11.out.call hw12)
    all_goals have B12 := Lib.hid (B11.out.trans (hw12.mono B11.out.size))
    all_goals clear hw12 T11 U11 B11
    all_goals go_wp2_with fail
    all_goals go_at_call 21
    all_goals refine (KB.out _).mono ?_
    all_goals rintro e w13 ⟨rfl, hw13⟩
    all_goals have T13 := Lib.hid (T12.out.call hw13)
    all_goals have U13 := Lib.hid (U12.out.call hw13)
    all_goals have B13 := Lib.hid (B12.out.trans (hw13.mono B12.out.size))
    all_goals clear hw13 T12 U12 B12
    all_goals have p0 := (T13.out.alloc (.cells #[.int .u64 0, .int .u64 0] 48)).c0
    all_goals have p1 := (T13.out.alloc (.cells #[.int .u64 0, .int .u64 0] 48)).c1
    all_goals have q0 := (U13.out.alloc (.cells #[.int .u64 0, .int .u64 0] 48)).c0
    all_goals have q1 := (U13.out.alloc (.cells #[.int .u64 0, .int .u64 0] 48)).c1
    all_goals have hb13 := B13.out.alloc B13.out.size (.cells #[.int .u64 0, .int .u64 0] 48)
    all_goals have HB13 := Lib.hid hb13
    all_goals clear hb13
    all_goals go_wp2_with (go_at_call 17; refine (nb_begun _).mono ?_; rintro e w14 ⟨rfl, hw14⟩; have HF := Lib.hid (HB13.out.trans (hw14.mono HB13.out.size)))
    all_goals go_ret
    all_goals exact ⟨by first | rfl | simp, HF.out⟩
  · have hb0 : 0 ≤ a ∧ a < 340282366920938463463374607431768211456 := by unfold isV at hok; exact of_decide_eq_true hok
    obtain ⟨nn, rfl⟩ := Int.eq_ofNat_of_zero_le hb0.1
    have hnn : nn < 2 ^ 128 := by omega
    obtain ⟨y0, hy0⟩ : ∃ x, hi nn = x := ⟨_, rfl⟩
    obtain ⟨y1, hy1⟩ : ∃ x, lo nn = x := ⟨_, rfl⟩
    have KW : Hid (∀ W, Calls Try.prog 21 #[.agg #[.int .u32 (wd nn 0), .int .u32 (wd nn 1), .int .u32 (wd nn 2), .int .u32 (wd nn 3), .int .u32 (wd nn 4), .int .u32 (wd nn 5)]] W (fun e w' => e = .returned (.tuple #[.agg #[.int .u64 y0, .int .u64 y1], .bool true]) ∧ Below W.heap.size W w')) := Lib.hid fun W => nn_valC nn y0 y1 hnn hy0 hy1 W
    have KR : Hid (∀ W, Calls Try.prog 23 #[.agg #[.int .u64 y0, .int .u64 y1]] W (RetF (nn : Int) W)) := Lib.hid fun W => by rw [← hy0, ← hy1]; exact ri_from nn hnn W
    obtain ⟨T, hT⟩ : ∃ x, x = strN (tl nn) := ⟨_, rfl⟩
    have KT : Hid (∀ W s A n c, IntS W s A n c (nn : Int) → Calls Try.prog 10 #[.agg #[.bool s, .slice A n c]] W (RetX (.string T) W)) := Lib.hid fun W s A n c h => by rw [hT]; exact ri_text W s A n c nn h
    rw [hok] at KFit
    obtain ⟨a, ha⟩ : ∃ x : Int, x = (nn : Int) := ⟨_, rfl⟩
    rw [← ha] at S1 KFit KW KR KT
    clear SA hok hb0 hnn hy0 hy1 hT ha
    go_enter Try.func5, Try.ntmps5
    go_wp2_with fail
    go_at_call 8
    refine (S1.out _ ((Below.refl _ _).alloc (by simp) _)).mono ?_
    rintro e w1 ⟨s, A, n, c, rfl, hI1, hb1⟩
    have hs1 := hb1.size
    have t1 := (Two.new w (.int .u64 x0) (.int .u64 x1) 48).call hb1
    have hb1' : Below w.heap.size w w1 := ((Below.refl _ _).alloc (by simp) _).trans (hb1.mono (by simp))
    have HB1 := Lib.hid hb1'
    have HT1 := Lib.hid t1
    have HI1 := Lib.hid hI1
    clear hb1 hb1' t1 hI1
    go_wp2_with fail
    go_at_call 21
    refine (KW.out _).mono ?_
    rintro e w2 ⟨rfl, hb2⟩
    have b1 := BoxI.new (HI1.out.alloc (.cells #[.int .u32 (wd a 0), .int .u32 (wd a 1), .int .u32 (wd a 2), .int .u32 (wd a 3), .int .u32 (wd a 4), .int .u32 (wd a 5)] 27))
    simp only [World.size_alloc] at b1
    have b2 := b1.call hb2
    have t2 := ((HT1.out.alloc _).alloc _).call hb2
    have hb2' := ((HB1.out.alloc HB1.out.size (.cells #[.int .u32 (wd a 0), .int .u32 (wd a 1), .int .u32 (wd a 2), .int .u32 (wd a 3), .int .u32 (wd a 4), .int .u32 (wd a 5)] 27)).alloc (by have := HB1.out.size; simp; omega) (.cells #[.bool s, .slice A n c] 30)).trans (hb2.mono (by have := HB1.out.size; simp; omega))
    have hsz2 := hb2'.size
    have HW := Lib.hid (show ValW w w.heap.size (w1.heap.size + 1) w2.heap.size (.int .u64 x0) (.int .u64 x1) (.int .u64 y0) (.int .u64 y1) a s A n c (w2.alloc (.cells #[.int .u64 y0, .int .u64 y1] 48)) from ⟨hb2'.alloc hsz2 _, t2.alloc _, Two.new _ _ _ _, b2.call ((Below.refl _ _).alloc (by simp) _)⟩)
    clear b1 b2 t2 hb2 hb2' HB1 HT1 HI1 S1 KW
    go_upto_region 3 with fail
    generalize w1.heap.size + 1 = Y at HW ⊢
    generalize w1.heap.size = X at ⊢
    generalize w2.heap.size = V at HW ⊢
    generalize w2.alloc (.cells #[.int .u64 y0, .int .u64 y1] 48) = w4 at HW ⊢
    have hI0 := HW.out.drew.bx.v
    clear hs1 hsz2
    refine wp_region_noPanic ?_
    refine wp_region_held_drew (S := fun w' => ValW w w.heap.size Y V (.int .u64 x0) (.int .u64 x1) (.int .u64 y0) (.int .u64 y1) a s A n c w' ∧ w'.cell? ⟨w.heap.size, 0, none⟩ = some (.int .u64 x0) ∧ w'.cell? ⟨w.heap.size, 1, none⟩ = some (.int .u64 x1) ∧ w'.cell? ⟨V, 0, none⟩ = some (.int .u64 y0) ∧ w'.cell? ⟨V, 1, none⟩ = some (.int .u64 y1) ∧ w'.cell? ⟨Y, 0, none⟩ = some (.bool s) ∧ w'.cell? ⟨Y, 1, none⟩ = some (.slice A n c)) (by kernel_rfl) (ValW.drew HW.out).all (fun hHeld => ?_)
    refine wpAnyH_take (i := 0) (oi := ({ dst := some 26, op := Op.move (Operand.tmp 10), type := _, pos := "law.go:49", after := _, guard := none } : Oper)) (v := ?_) rfl (by kernel_rfl) (by kernel_rfl) (by kernel_rfl) (fun _ _ _ h => h) (Or.inl ⟨by rfl, ?_⟩) hHeld ?_
    rotate_left
    · (intro w1 hSw; (try dsimp only at hSw); go_simp; all_goals with_reducible rfl)
    (try simp only [Act.put, List.setIfInBounds_toArray, List.set_cons_zero, List.set_cons_succ])
    refine wpAnyH_take (i := 1) (oi := ({ dst := some 27, op := Op.load 30 (Operand.tmp 8), type := _, pos := "law.go:49", after := _, guard := none } : Oper)) (v := ?_) rfl (by kernel_rfl) (by kernel_rfl) (by kernel_rfl) (fun _ _ _ h => h) (Or.inl ⟨by rfl, ?_⟩) hHeld ?_
    rotate_left
    · (intro w1 hSw; (try dsimp only at hSw); go_simp; all_goals with_reducible rfl)
    (try simp only [Act.put, List.setIfInBounds_toArray, List.set_cons_zero, List.set_cons_succ])
    refine wpAnyH_ready (rs := [2]) (by kernel_rfl) (by simp) ?_
    refine AllReadyH.cons (o := ({ dst := some 28, op := Op.call { callee := Callee.value (Operand.func 22), args := #[Operand.tmp 27], argTypes := _ }, type := _, pos := "law.go:49", after := _, guard := none } : Oper)) rfl (fun K hK => ?_) AllReadyH.nil
    go_simp
    go_wp2_with (go_at_call 22; refine (KFit.out _ _ _ _ _ ?_).mono ?_; (focus ((repeat (first | assumption | refine IntS.below ?_ (by assumption))); done)); rintro e w5 ⟨rfl, hw5⟩; have HV := Lib.hid (ValW.call (And.left hHeld) hw5))
    refine hK.out _ _ ?_ (fun hHeld2 => ?_)
    · exact (ValW.call (And.left hHeld) (by assumption)).all
    clear hK K hHeld
    have hHeld := hHeld2
    clear hHeld2
    (try simp only [Act.put, List.setIfInBounds_toArray, List.set_cons_zero, List.set_cons_succ])
    refine wpAnyH_take (i := 3) (oi := ({ dst := some 29, op := Op.binOp BinOp.neq 4 (Operand.tmp 26) (Operand.tmp 28) 4, type := _, pos := "law.go:49", after := _, guard := none } : Oper)) (v := ?_) rfl (by kernel_rfl) (by kernel_rfl) (by kernel_rfl) (fun _ _ _ h => h) (Or.inl ⟨by rfl, ?_⟩) hHeld ?_
    rotate_left
    · (intro w1 hSw; (try dsimp only at hSw); go_simp; all_goals with_reducible rfl)
    (try simp only [Act.put, List.setIfInBounds_toArray, List.set_cons_zero, List.set_cons_succ])
    refine wpAnyH_take (i := 4) (oi := ({ dst := some 30, op := Op.move (Operand.tmp 29), type := _, pos := "law.go:49", after := _, guard := none } : Oper)) (v := ?_) rfl (by kernel_rfl) (by kernel_rfl) (by kernel_rfl) (fun _ _ _ h => h) (Or.inl ⟨by rfl, ?_⟩) hHeld ?_
    rotate_left
    · (intro w1 hSw; (try dsimp only at hSw); go_simp; all_goals with_reducible rfl)
    (try simp only [Act.put, List.setIfInBounds_toArray, List.set_cons_zero, List.set_cons_succ])
    refine wpAnyH_take (i := 5) (oi := ({ dst := some 31, op := Op.move (Operand.tmp 10), type := _, pos := "law.go:49", after := _, guard := some (4, false) } : Oper)) (v := ?_) rfl (by kernel_rfl) (by kernel_rfl) (by kernel_rfl) (fun _ _ _ h => h) (Or.inl ⟨by rfl, ?_⟩) hHeld ?_
    rotate_left
    · (intro w1 hSw; (try dsimp only at hSw); go_simp; all_goals with_reducible rfl)
    (try simp only [Act.put, List.setIfInBounds_toArray, List.set_cons_zero, List.set_cons_succ])
    refine wpAnyH_take (i := 6) (oi := ({ dst := some 32, op := Op.move (Operand.tmp 31), type := _, pos := "law.go:49", after := _, guard := some (4, false) } : Oper)) (v := ?_) rfl (by kernel_rfl) (by kernel_rfl) (by kernel_rfl) (fun _ _ _ h => h) (Or.inl ⟨by rfl, ?_⟩) hHeld ?_
    rotate_left
    · (intro w1 hSw; (try dsimp only at hSw); go_simp; all_goals with_reducible rfl)
    (try simp only [Act.put, List.setIfInBounds_toArray, List.set_cons_zero, List.set_cons_succ])
    refine wpAnyH_take (i := 7) (oi := ({ dst := some 33, op := Op.load 48 (Operand.tmp 9), type := _, pos := "law.go:49", after := _, guard := some (6, true) } : Oper)) (v := ?_) rfl (by kernel_rfl) (by kernel_rfl) (by kernel_rfl) (fun _ _ _ h => h) (Or.inl ⟨by rfl, ?_⟩) hHeld ?_
    rotate_left
    · (intro w1 hSw; (try dsimp only at hSw); go_simp; all_goals with_reducible rfl)
    (try simp only [Act.put, List.setIfInBounds_toArray, List.set_cons_zero, List.set_cons_succ])
    refine wpAnyH_take (i := 10) (oi := ({ dst := some 36, op := Op.load 30 (Operand.tmp 8), type := _, pos := "law.go:49", after := _, guard := some (6, true) } : Oper)) (v := ?_) rfl (by kernel_rfl) (by kernel_rfl) (by kernel_rfl) (fun _ _ _ h => h) (Or.inl ⟨by rfl, ?_⟩) hHeld ?_
    rotate_left
    · (intro w1 hSw; (try dsimp only at hSw); go_simp; all_goals with_reducible rfl)
    (try simp only [Act.put, List.setIfInBounds_toArray, List.set_cons_zero, List.set_cons_succ])
    refine wpAnyH_ready (rs := [8]) (by kernel_rfl) (by simp) ?_
    refine AllReadyH.cons (o := ({ dst := some 34, op := Op.call { callee := Callee.value (Operand.func 23), args := #[Operand.tmp 33], argTypes := _ }, type := _, pos := "law.go:49", after := _, guard := some (6, true) } : Oper)) rfl (fun K hK => ?_) AllReadyH.nil
    go_simp
    go_wp2_with (go_at_call 23; refine (KR.out _).mono ?_; rintro e w5 ⟨s2, A2, n2, c2, rfl, hJ, hw5⟩)
    refine hK.out _ _ ?_ (fun hHeld2 => ?_)
    · exact (ValW.call (And.left hHeld) (by assumption)).all
    clear hK K hHeld
    have hHeld := hHeld2
    clear hHeld2
    (try simp only [Act.put, List.setIfInBounds_toArray, List.set_cons_zero, List.set_cons_succ])
    refine wpAnyH_ready (rs := [9]) (by kernel_rfl) (by simp) ?_
    refine AllReadyH.cons (o := ({ dst := some 35, op := Op.call { callee := Callee.value (Operand.func 10), args := #[Operand.tmp 34], argTypes := _ }, type := _, pos := "law.go:49", after := _, guard := some (6, true) } : Oper)) rfl (fun K hK => ?_) AllReadyH.nil
    go_simp
    go_wp2_with (go_at_call 10; refine (KT.out _ _ _ _ _ ?_).mono ?_; (focus ((repeat (first | assumption | refine IntS.below ?_ (by assumption))); done)); rintro e w5 ⟨rfl, hw5⟩; have HV := Lib.hid (ValW.call (And.left hHeld) hw5))
    refine hK.out _ _ ?_ (fun hHeld2 => ?_)
    · exact (ValW.call (And.left hHeld) (by assumption)).all
    clear hK K hHeld
    have hHeld := hHeld2
    clear hHeld2
    (try simp only [Act.put, List.setIfInBounds_toArray, List.set_cons_zero, List.set_cons_succ])
    refine wpAnyH_ready (rs := [11]) (by kernel_rfl) (by simp) ?_
    refine AllReadyH.cons (o := ({ dst := some 37, op := Op.call { callee := Callee.value (Operand.func 10), args := #[Operand.tmp 36], argTypes := _ }, type := _, pos := "law.go:49", after := _, guard := some (6, true) } : Oper)) rfl (fun K hK => ?_) AllReadyH.nil
    go_simp
    go_wp2_with (go_at_call 10; refine (KT.out _ _ _ _ _ ?_).mono ?_; (focus ((repeat (first | assumption | refine IntS.below ?_ (by assumption))); done)); rintro e w5 ⟨rfl, hw5⟩; have HV := Lib.hid (ValW.call (And.left hHeld) hw5))
    refine hK.out _ _ ?_ (fun hHeld2 => ?_)
    · exact (ValW.call (And.left hHeld) (by assumption)).all
    clear hK K hHeld
    have hHeld := hHeld2
    clear hHeld2
    (try simp only [Act.put, List.setIfInBounds_toArray, List.set_cons_zero, List.set_cons_succ])
    refine wpAnyH_take (i := 12) (oi := ({ dst := some 38, op := Op.binOp BinOp.neq 9 (Operand.tmp 35) (Operand.tmp 37) 9, type := _, pos := "law.go:49", after := _, guard := some (6, true) } : Oper)) (v := ?_) rfl (by kernel_rfl) (by kernel_rfl) (by kernel_rfl) (fun _ _ _ h => h) (Or.inl ⟨by rfl, ?_⟩) hHeld ?_
    rotate_left
    · (intro w1 hSw; (try dsimp only at hSw); go_simp; all_goals with_reducible rfl)
    (try simp only [Act.put, List.setIfInBounds_toArray, List.set_cons_zero, List.set_cons_succ])
    refine wpAnyH_take (i := 13) (oi := ({ dst := some 39, op := Op.pick (Operand.tmp 32) (Operand.tmp 38) (Operand.const (Value.bool false)), type := _, pos := "law.go:49", after := _, guard := some (4, false) } : Oper)) (v := ?_) rfl (by kernel_rfl) (by kernel_rfl) (by kernel_rfl) (fun _ _ _ h => h) (Or.inl ⟨by rfl, ?_⟩) hHeld ?_
    rotate_left
    · (intro w1 hSw; (try dsimp only at hSw); go_simp; all_goals with_reducible rfl)
    (try simp only [Act.put, List.setIfInBounds_toArray, List.set_cons_zero, List.set_cons_succ])
    refine wpAnyH_take (i := 14) (oi := ({ dst := some 40, op := Op.pick (Operand.tmp 30) (Operand.const (Value.bool true)) (Operand.tmp 39), type := _, pos := "law.go:49", after := _, guard := none } : Oper)) (v := ?_) rfl (by kernel_rfl) (by kernel_rfl) (by kernel_rfl) (fun _ _ _ h => h) (Or.inl ⟨by rfl, ?_⟩) hHeld ?_
    rotate_left
    · (intro w1 hSw; (try dsimp only at hSw); go_simp; all_goals with_reducible rfl)
    (try simp only [Act.put, List.setIfInBounds_toArray, List.set_cons_zero, List.set_cons_succ])
    refine wpAnyH_take (i := 15) (oi := ({ dst := some 41, op := Op.move (Operand.tmp 40), type := _, pos := "law.go:49", after := _, guard := none } : Oper)) (v := ?_) rfl (by kernel_rfl) (by kernel_rfl) (by kernel_rfl) (fun _ _ _ h => h) (Or.inl ⟨by rfl, ?_⟩) hHeld ?_
    rotate_left
    · (intro w1 hSw; (try dsimp only at hSw); go_simp; all_goals with_reducible rfl)
    (try simp only [Act.put, List.setIfInBounds_toArray, List.set_cons_zero, List.set_cons_succ])
    refine wpAnyH_take (i := 16) (oi := ({ dst := some 42, op := Op.move (Operand.tmp 10), type := _, pos := "law.go:49", after := _, guard := some (15, false) } : Oper)) (v := ?_) rfl (by kernel_rfl) (by kernel_rfl) (by kernel_rfl) (fun _ _ _ h => h) (Or.inl ⟨by rfl, ?_⟩) hHeld ?_
    rotate_left
    · (intro w1 hSw; (try dsimp only at hSw); go_simp; all_goals with_reducible rfl)
    (try simp only [Act.put, List.setIfInBounds_toArray, List.set_cons_zero, List.set_cons_succ])
    refine wpAnyH_take (i := 17) (oi := ({ dst := some 43, op := Op.unOp UnOp.not 4 (Operand.tmp 42), type := _, pos := "law.go:49", after := _, guard := some (15, false) } : Oper)) (v := ?_) rfl (by kernel_rfl) (by kernel_rfl) (by kernel_rfl) (fun _ _ _ h => h) (Or.inl ⟨by rfl, ?_⟩) hHeld ?_
    rotate_left
    · (intro w1 hSw; (try dsimp only at hSw); go_simp; all_goals with_reducible rfl)
    (try simp only [Act.put, List.setIfInBounds_toArray, List.set_cons_zero, List.set_cons_succ])
    refine wpAnyH_take (i := 18) (oi := ({ dst := some 44, op := Op.move (Operand.tmp 43), type := _, pos := "law.go:49", after := _, guard := some (15, false) } : Oper)) (v := ?_) rfl (by kernel_rfl) (by kernel_rfl) (by kernel_rfl) (fun _ _ _ h => h) (Or.inl ⟨by rfl, ?_⟩) hHeld ?_
    rotate_left
    · (intro w1 hSw; (try dsimp only at hSw); go_simp; all_goals with_reducible rfl)
    (try simp only [Act.put, List.setIfInBounds_toArray, List.set_cons_zero, List.set_cons_succ])
    refine wpAnyH_take (i := 19) (oi := ({ dst := some 45, op := Op.load 48 (Operand.tmp 9), type := _, pos := "law.go:49", after := _, guard := some (18, true) } : Oper)) (v := undef) rfl (by kernel_rfl) (by kernel_rfl) (by kernel_rfl) (fun _ _ _ h => h) (Or.inr ⟨by rfl, rfl⟩) hHeld ?_
    (try simp only [Act.put, List.setIfInBounds_toArray, List.set_cons_zero, List.set_cons_succ])
    refine wpAnyH_take (i := 20) (oi := ({ dst := some 46, op := Op.build 48 #[], type := _, pos := "law.go:49", after := _, guard := some (18, true) } : Oper)) (v := undef) rfl (by kernel_rfl) (by kernel_rfl) (by kernel_rfl) (fun _ _ _ h => h) (Or.inr ⟨by rfl, rfl⟩) hHeld ?_
    (try simp only [Act.put, List.setIfInBounds_toArray, List.set_cons_zero, List.set_cons_succ])
    refine wpAnyH_take (i := 21) (oi := ({ dst := some 47, op := Op.binOp BinOp.neq 48 (Operand.tmp 45) (Operand.tmp 46) 48, type := _, pos := "law.go:49", after := _, guard := some (18, true) } : Oper)) (v := undef) rfl (by kernel_rfl) (by kernel_rfl) (by kernel_rfl) (fun _ _ _ h => h) (Or.inr ⟨by rfl, rfl⟩) hHeld ?_
    (try simp only [Act.put, List.setIfInBounds_toArray, List.set_cons_zero, List.set_cons_succ])
    refine wpAnyH_take (i := 22) (oi := ({ dst := some 48, op := Op.pick (Operand.tmp 44) (Operand.tmp 47) (Operand.const (Value.bool false)), type := _, pos := "law.go:49", after := _, guard := some (15, false) } : Oper)) (v := ?_) rfl (by kernel_rfl) (by kernel_rfl) (by kernel_rfl) (fun _ _ _ h => h) (Or.inl ⟨by rfl, ?_⟩) hHeld ?_
    rotate_left
    · (intro w1 hSw; (try dsimp only at hSw); go_simp; all_goals with_reducible rfl)
    (try simp only [Act.put, List.setIfInBounds_toArray, List.set_cons_zero, List.set_cons_succ])
    refine wpAnyH_take (i := 23) (oi := ({ dst := some 49, op := Op.pick (Operand.tmp 41) (Operand.const (Value.bool true)) (Operand.tmp 48), type := _, pos := "law.go:49", after := _, guard := none } : Oper)) (v := ?_) rfl (by kernel_rfl) (by kernel_rfl) (by kernel_rfl) (fun _ _ _ h => h) (Or.inl ⟨by rfl, ?_⟩) hHeld ?_
    rotate_left
    · (intro w1 hSw; (try dsimp only at hSw); go_simp; all_goals with_reducible rfl)
    (try simp only [Act.put, List.setIfInBounds_toArray, List.set_cons_zero, List.set_cons_succ])
    refine wpAnyH_done (by kernel_rfl) ?_ _
    refine NoPanic.normal ?_
    all_goals have p0 := HV.out.tp.c0
    all_goals have p1 := HV.out.tp.c1
    all_goals go_wp2_with fail
    all_goals go_at_call 24
    all_goals refine (KF.out _).mono ?_
    all_goals rintro e w6 ⟨rfl, hw6⟩
    all_goals have HV6 := Lib.hid (HV.out.call hw6)
    all_goals clear hw6 p0 p1
    all_goals go_wp2_with fail
    all_goals go_at_call 21
    all_goals refine (KV.out _).mono ?_
    all_goals rintro e w7 ⟨rfl, hw7⟩
    all_goals have HV7 := Lib.hid (HV6.out.call hw7)
    all_goals clear hw7
    all_goals have t7 := HV7.out.tp.alloc (.cells #[.int .u64 x0, .int .u64 x1] 48)
    all_goals have p0 := t7.c0
    all_goals have p1 := t7.c1
    all_goals clear t7
    all_goals go_wp2_with fail
    all_goals have T7 := Lib.hid (HV7.out.tp.alloc (.cells #[.int .u64 x0, .int .u64 x1] 48))
    all_goals have U7 := Lib.hid (Two.new w7 (.int .u64 x0) (.int .u64 x1) 48)
    all_goals have B7 := Lib.hid (HV7.out.below.alloc HV7.out.below.size (.cells #[.int .u64 x0, .int .u64 x1] 48))
    all_goals clear p0 p1
    all_goals go_at_call 24
    all_goals refine (KF.out _).mono ?_
    all_goals rintro e w8 ⟨rfl, hw8⟩
    all_goals have T8 := Lib.hid (T7.out.call hw8)
    all_goals have U8 := Lib.hid (U7.out.call hw8)
    all_goals have B8 := Lib.hid (B7.out.trans (hw8.mono B7.out.size))
    all_goals clear hw8 T7 U7 B7
    all_goals go_wp2_with fail
    all_goals go_at_call 24
    all_goals refine (KM.out _).mono ?_
    all_goals rintro e w9 ⟨rfl, hw9⟩
    all_goals have T9 := Lib.hid (T8.out.call hw9)
    all_goals have U9 := Lib.hid (U8.out.call hw9)
    all_goals have B9 := Lib.hid (B8.out.trans (hw9.mono B8.out.size))
    all_goals clear hw9 T8 U8 B8
    all_goals go_wp2_with fail
    all_goals go_at_call 13
    all_goals refine (KO.out _).mono ?_
    all_goals rintro e w10 ⟨rfl, hw10⟩
    all_goals have T10 := Lib.hid (T9.out.call hw10)
    all_goals have U10 := Lib.hid (U9.out.call hw10)
    all_goals have B10 := Lib.hid (B9.out.trans (hw10.mono B9.out.size))
    all_goals clear hw10 T9 U9 B9
    all_goals go_wp2_with fail
    all_goals go_at_call 20
    all_goals refine (KS.out _).mono ?_
    all_goals rintro e w11 ⟨rfl, hw11⟩
    all_goals have T11 := Lib.hid (T10.out.call hw11)
    all_goals have U11 := Lib.hid (U10.out.call hw11)
    all_goals have B11 := Lib.hid (B10.out.trans (hw11.mono B10.out.size))
    all_goals clear hw11 T10 U10 B10
    all_goals go_wp2_with fail
    all_goals go_at_call 15
    all_goals refine (KA.out _).mono ?_
    all_goals rintro e w12 ⟨rfl, hw12⟩
    all_goals have T12 := Lib.hid (T11.out.call hw12)
    all_goals have U12 := Lib.hid (U11.out.call hw12)
    all_goals have B12 := Lib.hid (B11.out.trans (hw12.mono B11.out.size))
    all_goals clear hw12 T11 U11 B11
    all_goals go_wp2_with fail
    all_goals go_at_call 21
    all_goals refine (KB.out _).mono ?_
    all_goals rintro e w13 ⟨rfl, hw13⟩
    all_goals have T13 := Lib.hid (T12.out.call hw13)
    all_goals have U13 := Lib.hid (U12.out.call hw13)
    all_goals have B13 := Lib.hid (B12.out.trans (hw13.mono B12.out.size))
    all_goals clear hw13 T12 U12 B12
    all_goals have p0 := (T13.out.alloc (.cells #[.int .u64 0, .int .u64 0] 48)).c0
    all_goals have p1 := (T13.out.alloc (.cells #[.int .u64 0, .int .u64 0] 48)).c1
    all_goals have q0 := (U13.out.alloc (.cells #[.int .u64 0, .int .u64 0] 48)).c0
    all_goals have q1 := (U13.out.alloc (.cells #[.int .u64 0, .int .u64 0] 48)).c1
    all_goals have hb13 := B13.out.alloc B13.out.size (.cells #[.int .u64 0, .int .u64 0] 48)
    all_goals have HB13 := Lib.hid hb13
    all_goals clear hb13
    all_goals go_wp2_with (go_at_call 17; refine (nb_begun _).mono ?_; rintro e w14 ⟨rfl, hw14⟩; have HF := Lib.hid (HB13.out.trans (hw14.mono HB13.out.size)))
    all_goals go_ret
    all_goals exact ⟨by first | rfl | simp, HF.out⟩
end Go.Proofs.Ytbacclhnbecojaa
