/- The law ValueCodes: its walk. -/
import Derived.Test.YthpiohhgfofmeaaRefBytes
import Derived.Test.YthpiohhgfofmeaaBackWalk
namespace Go.Proofs.Ythpiohhgfofmeaa
open Go.RowKit

set_option maxRecDepth 100000 in
set_option maxHeartbeats 4000000 in
theorem codeslaw_any (a : Nat) (A : Option Addr) (n cap : Nat) (g : Nat → Nat) (ha : a < 2 ^ 128) (hn : n ≤ cap) (hcap : cap ≤ maxLen) (w : World) (hr : ReadsB w A n g) :
    Calls Try.prog 7 #[.agg #[.int .u64 (hi a), .int .u64 (lo a)], .slice A n cap] w (RetX (.bool true) w) := by
  have HA := Lib.hid ha
  have hcap2 := hcap
  unfold maxLen at hcap2
  clear hcap
  obtain ⟨m, hm⟩ : ∃ m : Nat, m = min n 20 := ⟨_, rfl⟩
  have hmin : min (n : Int) 20 = (m : Int) := by omega
  have hm1 : (m : Int) ≤ (cap : Int) := by omega
  have hm2 : m ≤ 20 := by omega
  have hrm : ReadsB w A m g := by
    rcases hr with h | ⟨bk, o, rfl, hbk, hc, hg⟩
    · exact .inl (by omega)
    · exact .inr ⟨bk, o, rfl, hbk, fun i hi => hc i (by omega), fun i hi => hg i (by omega)⟩
  obtain ⟨Y, hY⟩ : ∃ Y : Nat, Y = parseV m g := ⟨_, rfl⟩
  obtain ⟨E, hE⟩ : ∃ E : Int, E = parseE m g := ⟨_, rfl⟩
  have HP1 : Hid (∀ W : World, ReadsB W A m g → Calls Try.prog 40 #[.slice A m cap] W (RetVE Y E W)) := Lib.hid fun W h => by rw [hY, hE]; exact parse_any A m cap g W h (by omega)
  have HP2 : Hid (∀ W : World, ReadsB W A m g → Calls Try.prog 41 #[.slice A m cap] W (RetVE Y E W)) := Lib.hid fun W h => by rw [hY, hE]; exact rparse_any A m cap g W h (by omega)
  obtain ⟨S0, hS0⟩ : ∃ s : ByteArray, s = strG (nb a) (gb a) := ⟨_, rfl⟩
  have HS := Lib.hid hS0.symm
  have HR := Lib.hid hrm
  clear ha hr hm hrm hY hE hS0 hm2
  go_enter Try.func7, Try.ntmps7
  go_wp2_with fail
  have c0 : (w.alloc (.cells #[.int .u64 (hi a), .int .u64 (lo a)] 24)).cell? ⟨w.heap.size, 0, none⟩ = some (.int .u64 (hi a)) := by simp [go_sem]
  have c1 : (w.alloc (.cells #[.int .u64 (hi a), .int .u64 (lo a)] 24)).cell? ⟨w.heap.size, 1, none⟩ = some (.int .u64 (lo a)) := by simp [go_sem]
  have bl : Below w.heap.size w (w.alloc (.cells #[.int .u64 (hi a), .int .u64 (lo a)] 24)) := (Below.refl _ _).alloc (by simp) _
  have la : w.heap.size < (w.alloc (.cells #[.int .u64 (hi a), .int .u64 (lo a)] 24)).heap.size := by simp
  generalize hW : (w.alloc (.cells #[.int .u64 (hi a), .int .u64 (lo a)] 24)) = W1 at c0 c1 la bl ⊢
  clear hW
  have hR1 : ReadsB W1 A m g := HR.out.below bl
  go_at_call 40; refine (HP1.out _ hR1).mono ?_; rintro e w2 ⟨rfl, hx2⟩
  clear hR1
  go_wp2_with fail
  have x0 : (w2.alloc (.cells #[.int .u64 (hi Y), .int .u64 (lo Y)] 24)).cell? ⟨w2.heap.size, 0, none⟩ = some (.int .u64 (hi Y)) := by simp [go_sem]
  have x1 : (w2.alloc (.cells #[.int .u64 (hi Y), .int .u64 (lo Y)] 24)).cell? ⟨w2.heap.size, 1, none⟩ = some (.int .u64 (lo Y)) := by simp [go_sem]
  have lx : w2.heap.size < (w2.alloc (.cells #[.int .u64 (hi Y), .int .u64 (lo Y)] 24)).heap.size := by simp
  have b13 : Below W1.heap.size W1 (w2.alloc (.cells #[.int .u64 (hi Y), .int .u64 (lo Y)] 24)) := hx2.alloc hx2.size _
  generalize w2.alloc (.cells #[.int .u64 (hi Y), .int .u64 (lo Y)] 24) = W3 at x0 x1 lx b13 ⊢
  generalize w2.heap.size = x at x0 x1 lx ⊢
  clear hx2
  have b03 : Below w.heap.size w W3 := bl.trans (b13.mono bl.size)
  have hR3 : ReadsB W3 A m g := HR.out.below b03
  go_at_call 41; refine (HP2.out _ hR3).mono ?_; rintro e w4 ⟨rfl, hx4⟩
  clear hR3
  go_upto_region 4 with fail
  have y0 : (w4.alloc (.cells #[.int .u64 (hi Y), .int .u64 (lo Y)] 24)).cell? ⟨w4.heap.size, 0, none⟩ = some (.int .u64 (hi Y)) := by simp [go_sem]
  have y1 : (w4.alloc (.cells #[.int .u64 (hi Y), .int .u64 (lo Y)] 24)).cell? ⟨w4.heap.size, 1, none⟩ = some (.int .u64 (lo Y)) := by simp [go_sem]
  have ly : w4.heap.size < (w4.alloc (.cells #[.int .u64 (hi Y), .int .u64 (lo Y)] 24)).heap.size := by simp
  have b34 : Below W3.heap.size W3 (w4.alloc (.cells #[.int .u64 (hi Y), .int .u64 (lo Y)] 24)) := hx4.alloc hx4.size _
  generalize (w4.alloc (.cells #[.int .u64 (hi Y), .int .u64 (lo Y)] 24)) = W4 at y0 y1 ly b34 ⊢
  generalize w4.heap.size = y at y0 y1 ly ⊢
  clear hx4
  have x0 := (b34.cell (p := ⟨x, 0, none⟩) lx).trans x0
  have x1 := (b34.cell (p := ⟨x, 1, none⟩) lx).trans x1
  have b14 : Below W1.heap.size W1 W4 := b13.trans (b34.mono b13.size)
  have c0 := (b14.cell (p := ⟨w.heap.size, 0, none⟩) la).trans c0
  have c1 := (b14.cell (p := ⟨w.heap.size, 1, none⟩) la).trans c1
  have la := Nat.lt_of_lt_of_le la b14.size
  have lx := Nat.lt_of_lt_of_le lx b34.size
  have hB4 : Below w.heap.size w W4 := bl.trans (b14.mono bl.size)
  clear b14 b34 b13 b03 bl
  refine wp_region_noPanic ?_
  refine wp_region_held_drew (S := (fun w' : World => Below W4.heap.size W4 w' ∧ w'.cell? ⟨x, 0, none⟩ = some (.int .u64 (hi Y)) ∧ w'.cell? ⟨x, 1, none⟩ = some (.int .u64 (lo Y)) ∧ w'.cell? ⟨y, 0, none⟩ = some (.int .u64 (hi Y)) ∧ w'.cell? ⟨y, 1, none⟩ = some (.int .u64 (lo Y)) ∧ w'.cell? ⟨w.heap.size, 0, none⟩ = some (.int .u64 (hi a)) ∧ w'.cell? ⟨w.heap.size, 1, none⟩ = some (.int .u64 (lo a)) ∧ w'.cell? ⟨w.heap.size, 0, none⟩ = some (.int .u64 (hi a)) ∧ w'.cell? ⟨w.heap.size, 1, none⟩ = some (.int .u64 (lo a)))) (by kernel_rfl) ?_ (fun hHeld => ?_)
  · exact keep4 lx ly la la x0 x1 y0 y1 c0 c1 c0 c1 (Below.drew (Below.refl _ _))
  refine wpAnyH_take (i := 0) (oi := ({ dst := some 24, op := Op.load 24 (Operand.tmp 5), type := 24, pos := "law.go:60", after := #[], guard := none } : Oper)) (v := ?_) rfl (by kernel_rfl) (by kernel_rfl) (by kernel_rfl) (fun _ _ _ h => h) (Or.inl ⟨by rfl, ?_⟩) hHeld ?_
  rotate_left
  · (intro w1 hSw; (try dsimp only at hSw); go_simp; all_goals with_reducible rfl)
  (try simp only [Act.put, List.setIfInBounds_toArray, List.set_cons_zero, List.set_cons_succ])
  refine wpAnyH_take (i := 1) (oi := ({ dst := some 25, op := Op.load 24 (Operand.tmp 7), type := 24, pos := "law.go:60", after := #[], guard := none } : Oper)) (v := ?_) rfl (by kernel_rfl) (by kernel_rfl) (by kernel_rfl) (fun _ _ _ h => h) (Or.inl ⟨by rfl, ?_⟩) hHeld ?_
  rotate_left
  · (intro w1 hSw; (try dsimp only at hSw); go_simp; all_goals with_reducible rfl)
  (try simp only [Act.put, List.setIfInBounds_toArray, List.set_cons_zero, List.set_cons_succ])
  refine wpAnyH_take (i := 2) (oi := ({ dst := some 26, op := Op.binOp BinOp.eql 24 (Operand.tmp 24) (Operand.tmp 25) 24, type := 4, pos := "law.go:60", after := #[{ on := 0, ground := Ground.data }, { on := 1, ground := Ground.data }], guard := none } : Oper)) (v := ?_) rfl (by kernel_rfl) (by kernel_rfl) (by kernel_rfl) (fun _ _ _ h => h) (Or.inl ⟨by rfl, ?_⟩) hHeld ?_
  rotate_left
  · (intro w1 hSw; (try dsimp only at hSw); go_simp; all_goals with_reducible rfl)
  (try simp only [Act.put, List.setIfInBounds_toArray, List.set_cons_zero, List.set_cons_succ])
  refine wpAnyH_take (i := 3) (oi := ({ dst := some 27, op := Op.move (Operand.tmp 26), type := 4, pos := "law.go:60", after := #[{ on := 2, ground := Ground.data }], guard := none } : Oper)) (v := ?_) rfl (by kernel_rfl) (by kernel_rfl) (by kernel_rfl) (fun _ _ _ h => h) (Or.inl ⟨by rfl, ?_⟩) hHeld ?_
  rotate_left
  · (intro w1 hSw; (try dsimp only at hSw); go_simp; all_goals with_reducible rfl)
  (try simp only [Act.put, List.setIfInBounds_toArray, List.set_cons_zero, List.set_cons_succ])
  refine wpAnyH_take (i := 4) (oi := ({ dst := some 28, op := Op.move (Operand.tmp 6), type := 40, pos := "law.go:60", after := #[{ on := 3, ground := Ground.guard }], guard := some (3, true) } : Oper)) (v := ?_) rfl (by kernel_rfl) (by kernel_rfl) (by kernel_rfl) (fun _ _ _ h => h) (Or.inl ⟨by rfl, ?_⟩) hHeld ?_
  rotate_left
  · (intro w1 hSw; (try dsimp only at hSw); go_simp; all_goals with_reducible rfl)
  (try simp only [Act.put, List.setIfInBounds_toArray, List.set_cons_zero, List.set_cons_succ])
  refine wpAnyH_take (i := 5) (oi := ({ dst := some 29, op := Op.move (Operand.tmp 8), type := 40, pos := "law.go:60", after := #[{ on := 3, ground := Ground.guard }], guard := some (3, true) } : Oper)) (v := ?_) rfl (by kernel_rfl) (by kernel_rfl) (by kernel_rfl) (fun _ _ _ h => h) (Or.inl ⟨by rfl, ?_⟩) hHeld ?_
  rotate_left
  · (intro w1 hSw; (try dsimp only at hSw); go_simp; all_goals with_reducible rfl)
  (try simp only [Act.put, List.setIfInBounds_toArray, List.set_cons_zero, List.set_cons_succ])
  refine wpAnyH_take (i := 6) (oi := ({ dst := some 30, op := Op.binOp BinOp.eql 40 (Operand.tmp 28) (Operand.tmp 29) 40, type := 4, pos := "law.go:60", after := #[{ on := 4, ground := Ground.data }, { on := 5, ground := Ground.data }, { on := 3, ground := Ground.guard }], guard := some (3, true) } : Oper)) (v := ?_) rfl (by kernel_rfl) (by kernel_rfl) (by kernel_rfl) (fun _ _ _ h => h) (Or.inl ⟨by rfl, ?_⟩) hHeld ?_
  rotate_left
  · (intro w1 hSw; (try dsimp only at hSw); go_simp; all_goals with_reducible rfl)
  (try simp only [Act.put, List.setIfInBounds_toArray, List.set_cons_zero, List.set_cons_succ])
  refine wpAnyH_take (i := 7) (oi := ({ dst := some 31, op := Op.pick (Operand.tmp 27) (Operand.tmp 30) (Operand.const (Value.bool false)), type := 4, pos := "law.go:60", after := #[{ on := 3, ground := Ground.data }, { on := 6, ground := Ground.data }], guard := none } : Oper)) (v := ?_) rfl (by kernel_rfl) (by kernel_rfl) (by kernel_rfl) (fun _ _ _ h => h) (Or.inl ⟨by rfl, ?_⟩) hHeld ?_
  rotate_left
  · (intro w1 hSw; (try dsimp only at hSw); go_simp; all_goals with_reducible rfl)
  (try simp only [Act.put, List.setIfInBounds_toArray, List.set_cons_zero, List.set_cons_succ])
  refine wpAnyH_take (i := 8) (oi := ({ dst := some 32, op := Op.move (Operand.tmp 31), type := 4, pos := "law.go:60", after := #[{ on := 7, ground := Ground.data }, { on := 3, ground := Ground.chain }], guard := none } : Oper)) (v := ?_) rfl (by kernel_rfl) (by kernel_rfl) (by kernel_rfl) (fun _ _ _ h => h) (Or.inl ⟨by rfl, ?_⟩) hHeld ?_
  rotate_left
  · (intro w1 hSw; (try dsimp only at hSw); go_simp; all_goals with_reducible rfl)
  (try simp only [Act.put, List.setIfInBounds_toArray, List.set_cons_zero, List.set_cons_succ])
  refine wpAnyH_take (i := 9) (oi := ({ dst := some 33, op := Op.load 24 (Operand.tmp 2), type := 24, pos := "law.go:60", after := #[{ on := 8, ground := Ground.guard }], guard := some (8, true) } : Oper)) (v := ?_) rfl (by kernel_rfl) (by kernel_rfl) (by kernel_rfl) (fun _ _ _ h => h) (Or.inl ⟨by rfl, ?_⟩) hHeld ?_
  rotate_left
  · (intro w1 hSw; (try dsimp only at hSw); go_simp; all_goals with_reducible rfl)
  (try simp only [Act.put, List.setIfInBounds_toArray, List.set_cons_zero, List.set_cons_succ])
  refine wpAnyH_take (i := 12) (oi := ({ dst := some 36, op := Op.load 24 (Operand.tmp 2), type := 24, pos := "law.go:60", after := #[{ on := 8, ground := Ground.guard }], guard := some (8, true) } : Oper)) (v := ?_) rfl (by kernel_rfl) (by kernel_rfl) (by kernel_rfl) (fun _ _ _ h => h) (Or.inl ⟨by rfl, ?_⟩) hHeld ?_
  rotate_left
  · (intro w1 hSw; (try dsimp only at hSw); go_simp; all_goals with_reducible rfl)
  (try simp only [Act.put, List.setIfInBounds_toArray, List.set_cons_zero, List.set_cons_succ])
  refine wpAnyH_ready (rs := [10]) (by kernel_rfl) (by simp) ?_
  refine AllReadyH.cons (o := ({ dst := some 34, op := Op.call { callee := Callee.value (Operand.func 42), args := #[Operand.tmp 33], argTypes := #[24] }, type := 39, pos := "law.go:60", after := #[{ on := 9, ground := Ground.data }, { on := 8, ground := Ground.chain }, { on := 8, ground := Ground.guard }], guard := some (8, true) } : Oper)) rfl (fun K hK => ?_) AllReadyH.nil
  go_simp
  go_wp2_with (go_at_call 42; refine (bytes_form a HA.out _).mono ?_; rintro e wA ⟨bkA, capA, rfl, hRA, hxA⟩; have KCA : Hid (∀ W : World, Below wA.heap.size wA W → (convert 39 9 (.slice (some ⟨bkA, 0, none⟩) (nb a) capA)).run Try.prog W = .ok (.string S0) W) := Lib.hid fun W h => (by rw [← HS.out]; exact conv_reads (hRA.below h) (nb_pos a)); clear hRA)
  refine hK.out _ _ ?_ (fun hHeld2 => ?_)
  · (first | exact hHeld | exact keep4 lx ly la la x0 x1 y0 y1 c0 c1 c0 c1 (belowCall (by assumption) hHeld))
  clear hK K hHeld
  have hHeld := hHeld2
  clear hHeld2
  (try simp only [Act.put, List.setIfInBounds_toArray, List.set_cons_zero, List.set_cons_succ])
  refine wpAnyH_ready (rs := [11, 13]) (by kernel_rfl) (by simp) ?_
  refine AllReadyH.cons (o := ({ dst := some 35, op := Op.convert 39 9 (Operand.tmp 34), type := 9, pos := "law.go:60", after := #[{ on := 10, ground := Ground.data }, { on := 8, ground := Ground.guard }], guard := some (8, true) } : Oper)) rfl (fun K hK => ?_) (AllReadyH.cons (o := ({ dst := some 37, op := Op.call { callee := Callee.value (Operand.func 43), args := #[Operand.tmp 36], argTypes := #[24] }, type := 39, pos := "law.go:60", after := #[{ on := 12, ground := Ground.data }, { on := 10, ground := Ground.chain }, { on := 8, ground := Ground.guard }], guard := some (8, true) } : Oper)) rfl (fun K hK => ?_) AllReadyH.nil)
  · go_simp
    go_wp2_with (simp only [KCA.out _ (Below.refl _ _)])
    refine hK.out _ _ ?_ (fun hHeld2 => ?_)
    · (first | exact hHeld | exact keep4 lx ly la la x0 x1 y0 y1 c0 c1 c0 c1 (belowCall (by assumption) hHeld))
    clear hK K hHeld
    have hHeld := hHeld2
    clear hHeld2
    (try simp only [Act.put, List.setIfInBounds_toArray, List.set_cons_zero, List.set_cons_succ])
    refine wpAnyH_ready (rs := [13]) (by kernel_rfl) (by simp) ?_
    refine AllReadyH.cons (o := ({ dst := some 37, op := Op.call { callee := Callee.value (Operand.func 43), args := #[Operand.tmp 36], argTypes := #[24] }, type := 39, pos := "law.go:60", after := #[{ on := 12, ground := Ground.data }, { on := 10, ground := Ground.chain }, { on := 8, ground := Ground.guard }], guard := some (8, true) } : Oper)) rfl (fun K hK => ?_) AllReadyH.nil
    go_simp
    go_wp2_with (go_at_call 43; refine (rbytes_any a HA.out _).mono ?_; rintro e wB ⟨bkB, capB, rfl, hRB, hxB⟩; have KCB : Hid (∀ W : World, Below wB.heap.size wB W → (convert 39 9 (.slice (some ⟨bkB, 0, none⟩) (nb a) capB)).run Try.prog W = .ok (.string S0) W) := Lib.hid fun W h => (by rw [← HS.out]; exact conv_reads (hRB.below h) (nb_pos a)); clear hRB)
    refine hK.out _ _ ?_ (fun hHeld2 => ?_)
    · (first | exact hHeld | exact keep4 lx ly la la x0 x1 y0 y1 c0 c1 c0 c1 (belowCall (by assumption) hHeld))
    clear hK K hHeld
    have hHeld := hHeld2
    clear hHeld2
    (try simp only [Act.put, List.setIfInBounds_toArray, List.set_cons_zero, List.set_cons_succ])
    refine wpAnyH_ready (rs := [14]) (by kernel_rfl) (by simp) ?_
    refine AllReadyH.cons (o := ({ dst := some 38, op := Op.convert 39 9 (Operand.tmp 37), type := 9, pos := "law.go:60", after := #[{ on := 13, ground := Ground.data }, { on := 8, ground := Ground.guard }], guard := some (8, true) } : Oper)) rfl (fun K hK => ?_) AllReadyH.nil
    go_simp
    go_wp2_with (simp only [KCB.out _ (Below.refl _ _)])
    refine hK.out _ _ ?_ (fun hHeld2 => ?_)
    · (first | exact hHeld | exact keep4 lx ly la la x0 x1 y0 y1 c0 c1 c0 c1 (belowCall (by assumption) hHeld))
    clear hK K hHeld
    have hHeld := hHeld2
    clear hHeld2
    (try simp only [Act.put, List.setIfInBounds_toArray, List.set_cons_zero, List.set_cons_succ])
    refine wpAnyH_take (i := 15) (oi := ({ dst := some 39, op := Op.binOp BinOp.eql 9 (Operand.tmp 35) (Operand.tmp 38) 9, type := 4, pos := "law.go:60", after := #[{ on := 11, ground := Ground.data }, { on := 14, ground := Ground.data }, { on := 8, ground := Ground.guard }], guard := some (8, true) } : Oper)) (v := ?_) rfl (by kernel_rfl) (by kernel_rfl) (by kernel_rfl) (fun _ _ _ h => h) (Or.inl ⟨by rfl, ?_⟩) hHeld ?_
    rotate_left
    · (intro w1 hSw; (try dsimp only at hSw); go_simp; all_goals with_reducible rfl)
    (try simp only [Act.put, List.setIfInBounds_toArray, List.set_cons_zero, List.set_cons_succ])
    refine wpAnyH_take (i := 16) (oi := ({ dst := some 40, op := Op.pick (Operand.tmp 32) (Operand.tmp 39) (Operand.const (Value.bool false)), type := 4, pos := "law.go:60", after := #[{ on := 8, ground := Ground.data }, { on := 15, ground := Ground.data }], guard := none } : Oper)) (v := ?_) rfl (by kernel_rfl) (by kernel_rfl) (by kernel_rfl) (fun _ _ _ h => h) (Or.inl ⟨by rfl, ?_⟩) hHeld ?_
    rotate_left
    · (intro w1 hSw; (try dsimp only at hSw); go_simp; all_goals with_reducible rfl)
    (try simp only [Act.put, List.setIfInBounds_toArray, List.set_cons_zero, List.set_cons_succ])
    refine wpAnyH_take (i := 17) (oi := ({ dst := some 41, op := Op.move (Operand.tmp 40), type := 4, pos := "law.go:60", after := #[{ on := 16, ground := Ground.data }, { on := 13, ground := Ground.chain }], guard := none } : Oper)) (v := ?_) rfl (by kernel_rfl) (by kernel_rfl) (by kernel_rfl) (fun _ _ _ h => h) (Or.inl ⟨by rfl, ?_⟩) hHeld ?_
    rotate_left
    · (intro w1 hSw; (try dsimp only at hSw); go_simp; all_goals with_reducible rfl)
    (try simp only [Act.put, List.setIfInBounds_toArray, List.set_cons_zero, List.set_cons_succ])
    refine wpAnyH_ready (rs := [18]) (by kernel_rfl) (by simp) ?_
    refine AllReadyH.cons (o := ({ dst := some 42, op := Op.call { callee := Callee.value (Operand.func 22), args := #[], argTypes := #[] }, type := 4, pos := "law.go:60", after := #[{ on := 17, ground := Ground.chain }, { on := 17, ground := Ground.guard }], guard := some (17, true) } : Oper)) rfl (fun K hK => ?_) AllReadyH.nil
    go_simp
    go_wp2_with (go_at_call 22; refine (begun_any _).mono ?_; rintro e wC ⟨rfl, hxC⟩)
    refine hK.out _ _ ?_ (fun hHeld2 => ?_)
    · (first | exact hHeld | exact keep4 lx ly la la x0 x1 y0 y1 c0 c1 c0 c1 (belowCall (by assumption) hHeld))
    clear hK K hHeld
    have hHeld := hHeld2
    clear hHeld2
    (try simp only [Act.put, List.setIfInBounds_toArray, List.set_cons_zero, List.set_cons_succ])
    refine wpAnyH_take (i := 19) (oi := ({ dst := some 43, op := Op.pick (Operand.tmp 41) (Operand.tmp 42) (Operand.const (Value.bool false)), type := 4, pos := "law.go:60", after := #[{ on := 17, ground := Ground.data }, { on := 18, ground := Ground.data }], guard := none } : Oper)) (v := ?_) rfl (by kernel_rfl) (by kernel_rfl) (by kernel_rfl) (fun _ _ _ h => h) (Or.inl ⟨by rfl, ?_⟩) hHeld ?_
    rotate_left
    · (intro w1 hSw; (try dsimp only at hSw); go_simp; all_goals with_reducible rfl)
    (try simp only [Act.put, List.setIfInBounds_toArray, List.set_cons_zero, List.set_cons_succ])
    refine wpAnyH_take (i := 20) (oi := ({ dst := some 4, op := Op.assign (Operand.tmp 43), type := 4, pos := "law.go:60", after := #[{ on := 19, ground := Ground.data }, { on := 18, ground := Ground.chain }, { on := 0, ground := Ground.phase }, { on := 1, ground := Ground.phase }, { on := 2, ground := Ground.phase }, { on := 3, ground := Ground.phase }, { on := 4, ground := Ground.phase }, { on := 5, ground := Ground.phase }, { on := 6, ground := Ground.phase }, { on := 7, ground := Ground.phase }, { on := 8, ground := Ground.phase }, { on := 9, ground := Ground.phase }, { on := 10, ground := Ground.phase }, { on := 11, ground := Ground.phase }, { on := 12, ground := Ground.phase }, { on := 13, ground := Ground.phase }, { on := 14, ground := Ground.phase }, { on := 15, ground := Ground.phase }, { on := 16, ground := Ground.phase }, { on := 17, ground := Ground.phase }, { on := 18, ground := Ground.phase }, { on := 19, ground := Ground.phase }], guard := none } : Oper)) (v := ?_) rfl (by kernel_rfl) (by kernel_rfl) (by kernel_rfl) (fun _ _ _ h => h) (Or.inl ⟨by rfl, ?_⟩) hHeld ?_
    rotate_left
    · (intro w1 hSw; (try dsimp only at hSw); go_simp; all_goals with_reducible rfl)
    (try simp only [Act.put, List.setIfInBounds_toArray, List.set_cons_zero, List.set_cons_succ])
    refine wpAnyH_done (by kernel_rfl) ?_ _
    refine NoPanic.normal ?_
    go_wp2
    go_ret
    exact ⟨rfl, hB4.trans (hHeld.1.mono hB4.size)⟩
  · go_simp
    go_wp2_with (go_at_call 43; refine (rbytes_any a HA.out _).mono ?_; rintro e wB ⟨bkB, capB, rfl, hRB, hxB⟩; have KCB : Hid (∀ W : World, Below wB.heap.size wB W → (convert 39 9 (.slice (some ⟨bkB, 0, none⟩) (nb a) capB)).run Try.prog W = .ok (.string S0) W) := Lib.hid fun W h => (by rw [← HS.out]; exact conv_reads (hRB.below h) (nb_pos a)); clear hRB)
    refine hK.out _ _ ?_ (fun hHeld2 => ?_)
    · (first | exact hHeld | exact keep4 lx ly la la x0 x1 y0 y1 c0 c1 c0 c1 (belowCall (by assumption) hHeld))
    clear hK K hHeld
    have hHeld := hHeld2
    clear hHeld2
    (try simp only [Act.put, List.setIfInBounds_toArray, List.set_cons_zero, List.set_cons_succ])
    refine wpAnyH_ready (rs := [11, 14]) (by kernel_rfl) (by simp) ?_
    refine AllReadyH.cons (o := ({ dst := some 35, op := Op.convert 39 9 (Operand.tmp 34), type := 9, pos := "law.go:60", after := #[{ on := 10, ground := Ground.data }, { on := 8, ground := Ground.guard }], guard := some (8, true) } : Oper)) rfl (fun K hK => ?_) (AllReadyH.cons (o := ({ dst := some 38, op := Op.convert 39 9 (Operand.tmp 37), type := 9, pos := "law.go:60", after := #[{ on := 13, ground := Ground.data }, { on := 8, ground := Ground.guard }], guard := some (8, true) } : Oper)) rfl (fun K hK => ?_) AllReadyH.nil)
    · go_simp
      go_wp2_with (simp only [KCA.out _ hxB])
      refine hK.out _ _ ?_ (fun hHeld2 => ?_)
      · (first | exact hHeld | exact keep4 lx ly la la x0 x1 y0 y1 c0 c1 c0 c1 (belowCall (by assumption) hHeld))
      clear hK K hHeld
      have hHeld := hHeld2
      clear hHeld2
      (try simp only [Act.put, List.setIfInBounds_toArray, List.set_cons_zero, List.set_cons_succ])
      refine wpAnyH_ready (rs := [14]) (by kernel_rfl) (by simp) ?_
      refine AllReadyH.cons (o := ({ dst := some 38, op := Op.convert 39 9 (Operand.tmp 37), type := 9, pos := "law.go:60", after := #[{ on := 13, ground := Ground.data }, { on := 8, ground := Ground.guard }], guard := some (8, true) } : Oper)) rfl (fun K hK => ?_) AllReadyH.nil
      go_simp
      go_wp2_with (simp only [KCB.out _ (Below.refl _ _)])
      refine hK.out _ _ ?_ (fun hHeld2 => ?_)
      · (first | exact hHeld | exact keep4 lx ly la la x0 x1 y0 y1 c0 c1 c0 c1 (belowCall (by assumption) hHeld))
      clear hK K hHeld
      have hHeld := hHeld2
      clear hHeld2
      (try simp only [Act.put, List.setIfInBounds_toArray, List.set_cons_zero, List.set_cons_succ])
      refine wpAnyH_take (i := 15) (oi := ({ dst := some 39, op := Op.binOp BinOp.eql 9 (Operand.tmp 35) (Operand.tmp 38) 9, type := 4, pos := "law.go:60", after := #[{ on := 11, ground := Ground.data }, { on := 14, ground := Ground.data }, { on := 8, ground := Ground.guard }], guard := some (8, true) } : Oper)) (v := ?_) rfl (by kernel_rfl) (by kernel_rfl) (by kernel_rfl) (fun _ _ _ h => h) (Or.inl ⟨by rfl, ?_⟩) hHeld ?_
      rotate_left
      · (intro w1 hSw; (try dsimp only at hSw); go_simp; all_goals with_reducible rfl)
      (try simp only [Act.put, List.setIfInBounds_toArray, List.set_cons_zero, List.set_cons_succ])
      refine wpAnyH_take (i := 16) (oi := ({ dst := some 40, op := Op.pick (Operand.tmp 32) (Operand.tmp 39) (Operand.const (Value.bool false)), type := 4, pos := "law.go:60", after := #[{ on := 8, ground := Ground.data }, { on := 15, ground := Ground.data }], guard := none } : Oper)) (v := ?_) rfl (by kernel_rfl) (by kernel_rfl) (by kernel_rfl) (fun _ _ _ h => h) (Or.inl ⟨by rfl, ?_⟩) hHeld ?_
      rotate_left
      · (intro w1 hSw; (try dsimp only at hSw); go_simp; all_goals with_reducible rfl)
      (try simp only [Act.put, List.setIfInBounds_toArray, List.set_cons_zero, List.set_cons_succ])
      refine wpAnyH_take (i := 17) (oi := ({ dst := some 41, op := Op.move (Operand.tmp 40), type := 4, pos := "law.go:60", after := #[{ on := 16, ground := Ground.data }, { on := 13, ground := Ground.chain }], guard := none } : Oper)) (v := ?_) rfl (by kernel_rfl) (by kernel_rfl) (by kernel_rfl) (fun _ _ _ h => h) (Or.inl ⟨by rfl, ?_⟩) hHeld ?_
      rotate_left
      · (intro w1 hSw; (try dsimp only at hSw); go_simp; all_goals with_reducible rfl)
      (try simp only [Act.put, List.setIfInBounds_toArray, List.set_cons_zero, List.set_cons_succ])
      refine wpAnyH_ready (rs := [18]) (by kernel_rfl) (by simp) ?_
      refine AllReadyH.cons (o := ({ dst := some 42, op := Op.call { callee := Callee.value (Operand.func 22), args := #[], argTypes := #[] }, type := 4, pos := "law.go:60", after := #[{ on := 17, ground := Ground.chain }, { on := 17, ground := Ground.guard }], guard := some (17, true) } : Oper)) rfl (fun K hK => ?_) AllReadyH.nil
      go_simp
      go_wp2_with (go_at_call 22; refine (begun_any _).mono ?_; rintro e wC ⟨rfl, hxC⟩)
      refine hK.out _ _ ?_ (fun hHeld2 => ?_)
      · (first | exact hHeld | exact keep4 lx ly la la x0 x1 y0 y1 c0 c1 c0 c1 (belowCall (by assumption) hHeld))
      clear hK K hHeld
      have hHeld := hHeld2
      clear hHeld2
      (try simp only [Act.put, List.setIfInBounds_toArray, List.set_cons_zero, List.set_cons_succ])
      refine wpAnyH_take (i := 19) (oi := ({ dst := some 43, op := Op.pick (Operand.tmp 41) (Operand.tmp 42) (Operand.const (Value.bool false)), type := 4, pos := "law.go:60", after := #[{ on := 17, ground := Ground.data }, { on := 18, ground := Ground.data }], guard := none } : Oper)) (v := ?_) rfl (by kernel_rfl) (by kernel_rfl) (by kernel_rfl) (fun _ _ _ h => h) (Or.inl ⟨by rfl, ?_⟩) hHeld ?_
      rotate_left
      · (intro w1 hSw; (try dsimp only at hSw); go_simp; all_goals with_reducible rfl)
      (try simp only [Act.put, List.setIfInBounds_toArray, List.set_cons_zero, List.set_cons_succ])
      refine wpAnyH_take (i := 20) (oi := ({ dst := some 4, op := Op.assign (Operand.tmp 43), type := 4, pos := "law.go:60", after := #[{ on := 19, ground := Ground.data }, { on := 18, ground := Ground.chain }, { on := 0, ground := Ground.phase }, { on := 1, ground := Ground.phase }, { on := 2, ground := Ground.phase }, { on := 3, ground := Ground.phase }, { on := 4, ground := Ground.phase }, { on := 5, ground := Ground.phase }, { on := 6, ground := Ground.phase }, { on := 7, ground := Ground.phase }, { on := 8, ground := Ground.phase }, { on := 9, ground := Ground.phase }, { on := 10, ground := Ground.phase }, { on := 11, ground := Ground.phase }, { on := 12, ground := Ground.phase }, { on := 13, ground := Ground.phase }, { on := 14, ground := Ground.phase }, { on := 15, ground := Ground.phase }, { on := 16, ground := Ground.phase }, { on := 17, ground := Ground.phase }, { on := 18, ground := Ground.phase }, { on := 19, ground := Ground.phase }], guard := none } : Oper)) (v := ?_) rfl (by kernel_rfl) (by kernel_rfl) (by kernel_rfl) (fun _ _ _ h => h) (Or.inl ⟨by rfl, ?_⟩) hHeld ?_
      rotate_left
      · (intro w1 hSw; (try dsimp only at hSw); go_simp; all_goals with_reducible rfl)
      (try simp only [Act.put, List.setIfInBounds_toArray, List.set_cons_zero, List.set_cons_succ])
      refine wpAnyH_done (by kernel_rfl) ?_ _
      refine NoPanic.normal ?_
      go_wp2
      go_ret
      exact ⟨rfl, hB4.trans (hHeld.1.mono hB4.size)⟩
    · go_simp
      go_wp2_with (simp only [KCB.out _ (Below.refl _ _)])
      refine hK.out _ _ ?_ (fun hHeld2 => ?_)
      · (first | exact hHeld | exact keep4 lx ly la la x0 x1 y0 y1 c0 c1 c0 c1 (belowCall (by assumption) hHeld))
      clear hK K hHeld
      have hHeld := hHeld2
      clear hHeld2
      (try simp only [Act.put, List.setIfInBounds_toArray, List.set_cons_zero, List.set_cons_succ])
      refine wpAnyH_ready (rs := [11]) (by kernel_rfl) (by simp) ?_
      refine AllReadyH.cons (o := ({ dst := some 35, op := Op.convert 39 9 (Operand.tmp 34), type := 9, pos := "law.go:60", after := #[{ on := 10, ground := Ground.data }, { on := 8, ground := Ground.guard }], guard := some (8, true) } : Oper)) rfl (fun K hK => ?_) AllReadyH.nil
      go_simp
      go_wp2_with (simp only [KCA.out _ hxB])
      refine hK.out _ _ ?_ (fun hHeld2 => ?_)
      · (first | exact hHeld | exact keep4 lx ly la la x0 x1 y0 y1 c0 c1 c0 c1 (belowCall (by assumption) hHeld))
      clear hK K hHeld
      have hHeld := hHeld2
      clear hHeld2
      (try simp only [Act.put, List.setIfInBounds_toArray, List.set_cons_zero, List.set_cons_succ])
      refine wpAnyH_take (i := 15) (oi := ({ dst := some 39, op := Op.binOp BinOp.eql 9 (Operand.tmp 35) (Operand.tmp 38) 9, type := 4, pos := "law.go:60", after := #[{ on := 11, ground := Ground.data }, { on := 14, ground := Ground.data }, { on := 8, ground := Ground.guard }], guard := some (8, true) } : Oper)) (v := ?_) rfl (by kernel_rfl) (by kernel_rfl) (by kernel_rfl) (fun _ _ _ h => h) (Or.inl ⟨by rfl, ?_⟩) hHeld ?_
      rotate_left
      · (intro w1 hSw; (try dsimp only at hSw); go_simp; all_goals with_reducible rfl)
      (try simp only [Act.put, List.setIfInBounds_toArray, List.set_cons_zero, List.set_cons_succ])
      refine wpAnyH_take (i := 16) (oi := ({ dst := some 40, op := Op.pick (Operand.tmp 32) (Operand.tmp 39) (Operand.const (Value.bool false)), type := 4, pos := "law.go:60", after := #[{ on := 8, ground := Ground.data }, { on := 15, ground := Ground.data }], guard := none } : Oper)) (v := ?_) rfl (by kernel_rfl) (by kernel_rfl) (by kernel_rfl) (fun _ _ _ h => h) (Or.inl ⟨by rfl, ?_⟩) hHeld ?_
      rotate_left
      · (intro w1 hSw; (try dsimp only at hSw); go_simp; all_goals with_reducible rfl)
      (try simp only [Act.put, List.setIfInBounds_toArray, List.set_cons_zero, List.set_cons_succ])
      refine wpAnyH_take (i := 17) (oi := ({ dst := some 41, op := Op.move (Operand.tmp 40), type := 4, pos := "law.go:60", after := #[{ on := 16, ground := Ground.data }, { on := 13, ground := Ground.chain }], guard := none } : Oper)) (v := ?_) rfl (by kernel_rfl) (by kernel_rfl) (by kernel_rfl) (fun _ _ _ h => h) (Or.inl ⟨by rfl, ?_⟩) hHeld ?_
      rotate_left
      · (intro w1 hSw; (try dsimp only at hSw); go_simp; all_goals with_reducible rfl)
      (try simp only [Act.put, List.setIfInBounds_toArray, List.set_cons_zero, List.set_cons_succ])
      refine wpAnyH_ready (rs := [18]) (by kernel_rfl) (by simp) ?_
      refine AllReadyH.cons (o := ({ dst := some 42, op := Op.call { callee := Callee.value (Operand.func 22), args := #[], argTypes := #[] }, type := 4, pos := "law.go:60", after := #[{ on := 17, ground := Ground.chain }, { on := 17, ground := Ground.guard }], guard := some (17, true) } : Oper)) rfl (fun K hK => ?_) AllReadyH.nil
      go_simp
      go_wp2_with (go_at_call 22; refine (begun_any _).mono ?_; rintro e wC ⟨rfl, hxC⟩)
      refine hK.out _ _ ?_ (fun hHeld2 => ?_)
      · (first | exact hHeld | exact keep4 lx ly la la x0 x1 y0 y1 c0 c1 c0 c1 (belowCall (by assumption) hHeld))
      clear hK K hHeld
      have hHeld := hHeld2
      clear hHeld2
      (try simp only [Act.put, List.setIfInBounds_toArray, List.set_cons_zero, List.set_cons_succ])
      refine wpAnyH_take (i := 19) (oi := ({ dst := some 43, op := Op.pick (Operand.tmp 41) (Operand.tmp 42) (Operand.const (Value.bool false)), type := 4, pos := "law.go:60", after := #[{ on := 17, ground := Ground.data }, { on := 18, ground := Ground.data }], guard := none } : Oper)) (v := ?_) rfl (by kernel_rfl) (by kernel_rfl) (by kernel_rfl) (fun _ _ _ h => h) (Or.inl ⟨by rfl, ?_⟩) hHeld ?_
      rotate_left
      · (intro w1 hSw; (try dsimp only at hSw); go_simp; all_goals with_reducible rfl)
      (try simp only [Act.put, List.setIfInBounds_toArray, List.set_cons_zero, List.set_cons_succ])
      refine wpAnyH_take (i := 20) (oi := ({ dst := some 4, op := Op.assign (Operand.tmp 43), type := 4, pos := "law.go:60", after := #[{ on := 19, ground := Ground.data }, { on := 18, ground := Ground.chain }, { on := 0, ground := Ground.phase }, { on := 1, ground := Ground.phase }, { on := 2, ground := Ground.phase }, { on := 3, ground := Ground.phase }, { on := 4, ground := Ground.phase }, { on := 5, ground := Ground.phase }, { on := 6, ground := Ground.phase }, { on := 7, ground := Ground.phase }, { on := 8, ground := Ground.phase }, { on := 9, ground := Ground.phase }, { on := 10, ground := Ground.phase }, { on := 11, ground := Ground.phase }, { on := 12, ground := Ground.phase }, { on := 13, ground := Ground.phase }, { on := 14, ground := Ground.phase }, { on := 15, ground := Ground.phase }, { on := 16, ground := Ground.phase }, { on := 17, ground := Ground.phase }, { on := 18, ground := Ground.phase }, { on := 19, ground := Ground.phase }], guard := none } : Oper)) (v := ?_) rfl (by kernel_rfl) (by kernel_rfl) (by kernel_rfl) (fun _ _ _ h => h) (Or.inl ⟨by rfl, ?_⟩) hHeld ?_
      rotate_left
      · (intro w1 hSw; (try dsimp only at hSw); go_simp; all_goals with_reducible rfl)
      (try simp only [Act.put, List.setIfInBounds_toArray, List.set_cons_zero, List.set_cons_succ])
      refine wpAnyH_done (by kernel_rfl) ?_ _
      refine NoPanic.normal ?_
      go_wp2
      go_ret
      exact ⟨rfl, hB4.trans (hHeld.1.mono hB4.size)⟩
end Go.Proofs.Ythpiohhgfofmeaa
