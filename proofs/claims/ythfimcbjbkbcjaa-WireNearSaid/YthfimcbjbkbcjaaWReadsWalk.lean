/- WireReads: its walk. -/
import Derived.Test.YthfimcbjbkbcjaaWReadBoth
namespace Go.Proofs.Ythfimcbjbkbcjaa
open Go.RowKit

section
variable (B R D X E : Nat) (l : List Nat) (e : Int) (A A' : Option Addr) (n n' cap cap' : Nat) (w : World)
variable (kind nn most : Int) (val : Nat) (sA : Option Addr) (sn sc : Nat)
theorem both_any (hn1 : -9223372036854775808 ≤ nn) (hn2 : nn ≤ 9223372036854775807) (hR : RdAt w R D l e A n cap) (hX : RdAt w X E l e A' n' cap') (hRX : R ≠ X) (hRE : R ≠ E) (hXD : X ≠ D) (hBR : B ≤ R) (hBX : B ≤ X) (hB : B ≤ w.heap.size) :
    Calls Try.prog 11 #[.pointer (some ⟨R, 0, none⟩), .pointer (some ⟨X, 0, none⟩), .agg #[.int .i64 kind, .int .i64 nn, .int .i64 most, .int .u64 (hi val), .int .u64 (lo val), .slice sA sn sc]] w (ReadRet B R D X E w) := by
  have h : bits .and .i64 kind 7 = kind % 8 := i64_mask kind 3 (by decide)
  have hk : kind % 8 = 0 ∨ kind % 8 = 1 ∨ kind % 8 = 2 ∨ kind % 8 = 3 ∨ kind % 8 = 4 ∨ kind % 8 = 5 ∨ kind % 8 = 6 ∨ kind % 8 = 7 := by omega
  rcases hk with hk | hk | hk | hk | hk | hk | hk | hk <;> rw [hk] at h
  · exact both_0 B R D X E l e A A' n n' cap cap' w kind nn most val sA sn sc h hn1 hn2 hR hX hRX hRE hXD hBR hBX hB
  · exact both_1 B R D X E l e A A' n n' cap cap' w kind nn most val sA sn sc h hR hX hRX hRE hXD hBR hBX hB
  · exact both_2 B R D X E l e A A' n n' cap cap' w kind nn most val sA sn sc h hR hX hRX hRE hXD hBR hBX hB
  · exact both_3 B R D X E l e A A' n n' cap cap' w kind nn most val sA sn sc h hR hX hRX hRE hXD hBR hBX hB
  · exact both_4 B R D X E l e A A' n n' cap cap' w kind nn most val sA sn sc h hR hX hRX hRE hXD hBR hBX hB
  · exact both_5 B R D X E l e A A' n n' cap cap' w kind nn most val sA sn sc h hR hX hRX hRE hXD hBR hBX hB
  · exact both_6 B R D X E l e A A' n n' cap cap' w kind nn most val sA sn sc h hR hX hRX hRE hXD hBR hBX hB
  · exact both_7 B R D X E l e A A' n n' cap cap' w kind nn most val sA sn sc h hR hX hRX hRE hXD hBR hBX hB
end
/-- A new reader that was laid into a block. -/
theorem rd_new {w : World} {g n cap : Nat} {A : Option Addr} {l : List Nat} (t : TypeId) (hr : ReadsL w g A l) (hl : l.length = n) (hle : n ≤ cap) (hmax : n ≤ 1000000) (hs : Small l) (hg : g < w.heap.size) :
    RdAt (w.alloc (.cells #[.slice A n cap, .int .i64 0] t)) w.heap.size g l 0 A n cap := {
  c0 := by rw [World.cell?_alloc_new]; rfl
  c1 := by rw [World.cell?_alloc_new]; rfl
  f0 := World.frozen?_alloc_new _ _ _ _
  f1 := World.frozen?_alloc_new _ _ _ _
  lt := by simp
  dlt := by simp; omega
  len := hl
  le := hle
  max := hmax
  small := hs
  reads := hr.kept (row := none) (grown_alloc _ _ none) (by simp)
  apart := by omega }
set_option maxRecDepth 100000 in
set_option maxHeartbeats 8000000 in
theorem reads_any (a0 : Option Addr) (len0 cap0 : Nat) (D0 : Nat) (l0 : List Nat) (a1 : Option Addr) (len1 cap1 : Nat) (f : Nat → OpR) (w : World)
    (hr0 : ReadsL w D0 a0 l0) (hl0 : l0.length = len0) (hs0 : Small l0) (hc0 : len0 ≤ cap0) (hc1 : len1 ≤ cap1) (hf : OpsAt w a1 len1 f) :
    Calls Try.prog 4 #[.slice a0 len0 cap0, .slice a1 len1 cap1] w fun e w' => e = .returned (.bool true) ∧ Below w.heap.size w w' := by
  obtain ⟨n, hn⟩ : ∃ n : Nat, n = min len0 120 := ⟨_, rfl⟩
  obtain ⟨m, hm⟩ : ∃ m : Nat, m = min len1 20 := ⟨_, rfl⟩
  have hn120 : n ≤ 120 := by omega
  have hm20 : m ≤ 20 := by omega
  have hml : m ≤ len1 := by omega
  have e0 : min (len0 : Int) 120 = n := by omega
  have e1 : min (len1 : Int) 20 = m := by omega
  have b0 : (n : Int) ≤ (cap0 : Int) := by omega
  have b1 : (m : Int) ≤ (cap1 : Int) := by omega
  have hrn : ReadsL w D0 a0 (l0.take n) := hr0.take n
  have hln : (l0.take n).length = n := by rw [List.length_take]; omega
  have hsn : Small (l0.take n) := hs0.take n
  obtain ⟨l, hl⟩ : ∃ l, l = l0.take n := ⟨_, rfl⟩
  rw [← hl] at hrn hln hsn
  have HRN := Lib.hid hrn
  have HLN := Lib.hid hln
  have HSN := Lib.hid hsn
  have HF := Lib.hid hf
  clear hr0 hl0 hs0 hf hn hm hrn hln hsn hl
  go_enter Try.func4, Try.ntmps4
  go_wp2_with (first
    | (go_at_call 10; (refine (new_any a0 D0 n cap0 l _ HRN.out HSN.out HLN.out (by omega)).mono ?_; rintro e w1 ⟨R, D, A1, n1, cap1', rfl, hR, hD, hr1, hb1⟩; have HR1 := Lib.hid hr1; have HB1 := Lib.hid hb1; clear hr1 hb1))
    | (at_builtin; (refine wpList_app (l := []) (v := .slice (some ⟨w1.heap.size, 0, none⟩) 0 0) rfl (.tmp 16) (.tmp 17) rfl rfl (own_empty w1) rfl ((HRN.out.kept (grown_of_below HB1.out none) (by simp)).kept (grown_alloc w1 _ none) (by simp)) HLN.out (by simp; omega) (by simp) ?_; intro v3 w3 hO3 hg3' ha3; have hg3 : World.grownBy _ w3 (some w1.heap.size) := hg3'; obtain ⟨A3, n3, cap3, g3, rfl, hn3, hr3, hge, hle3, hlt3⟩ := own_slice2 hO3 (by have := hg3.size; simp at this; omega))))
  have hRw1 := HR1.out.lt
  have hDw1 := HR1.out.dlt
  have hsz3 : w1.heap.size < w3.heap.size := by have := hg3.size; simp at this; omega
  have HX3 : Hid (RdAt (w3.alloc (.cells #[.slice A3 n3 cap3, .int .i64 0] 38)) w3.heap.size g3 l 0 A3 n3 cap3) := Lib.hid (rd_new _ (by simpa using hr3) (by simpa using hn3.out.symm) hle3 (by have := hn3.out; have := HLN.out; simp at *; omega) HSN.out hlt3)
  have HR3 : Hid (RdAt (w3.alloc (.cells #[.slice A3 n3 cap3, .int .i64 0] 38)) R D l 0 A1 n1 cap1') := Lib.hid (rd_alloc ((rd_alloc HR1.out _).kept hg3 (by simp; omega) (by simp; omega)) _)
  have HB3 : Hid (Below w.heap.size w (w3.alloc (.cells #[.slice A3 n3 cap3, .int .i64 0] 38))) := Lib.hid (((HB1.out.alloc HB1.out.size _).grown hg3 (by have := HB1.out.size; simp; omega) (fun k hk => by injection hk with hk; have := HB1.out.size; omega)).alloc (by have := HB1.out.size; omega) _)
  have hRX : R ≠ w3.heap.size := by omega
  have hRE : R ≠ g3 := by omega
  have hXD : w3.heap.size ≠ D := by omega
  have hBX : w.heap.size ≤ w3.heap.size := by have := HB1.out.size; omega
  have HNE := Lib.hid (And.intro hRX (And.intro hRE hXD))
  clear hRX hRE hXD hRw1 hDw1 hr3 hn3 hO3 hge hle3 hlt3 hg3' ha3 hsz3
  generalize w3.alloc (.cells #[.slice A3 n3 cap3, .int .i64 0] 38) = w4 at *
  generalize w3.heap.size = X at *
  clear hg3
  go_loopw [27] (fun i w' => ∃ q : Nat, q ≤ m ∧ i = .int .i64 q ∧ Below w.heap.size w w' ∧ ∃ l' e', Both R D X g3 l' e' w') (fun i _ => m - (intOf i).toNat)
  case atStart => exact ⟨0, by omega, rfl, HB3.out, l, 0, ⟨_, _, _, HR3.out⟩, _, _, _, HX3.out⟩
  case round =>
    obtain ⟨q, hq, rfl, hb3, l5, e5, ⟨A5, n5, c5, hr5⟩, A6, n6, c6, hx6⟩ := hrel
    by_cases hqm : q < m
    · have hqm' : (q : Int) < (m : Int) := by omega
      obtain ⟨b, o, rfl, hops⟩ := HF.out.resolve_left (by omega)
      have hop := (hops q (by omega)).below hb3
      have hqz : 0 ≤ (q : Int) := by omega
      generalize f q = x at hop
      obtain ⟨kind, nn, most, val, sA, sn, sc, sD, xs⟩ := x
      have d0 : wr.cell? ⟨b, o + q * 6, none⟩ = some (.int .i64 kind) := hop.c0
      have d1 : wr.cell? ⟨b, o + q * 6 + 1, none⟩ = some (.int .i64 nn) := hop.c1
      have d2 : wr.cell? ⟨b, o + q * 6 + 2, none⟩ = some (.int .i64 most) := hop.c2
      have d3 : wr.cell? ⟨b, o + q * 6 + 3, none⟩ = some (.int .u64 (hi val)) := hop.c3
      have d4 : wr.cell? ⟨b, o + q * 6 + 4, none⟩ = some (.int .u64 (lo val)) := hop.c4
      have d5 : wr.cell? ⟨b, o + q * 6 + 5, none⟩ = some (.slice sA sn sc) := hop.c5
      have HN := Lib.hid hop.n1
      have HRr := Lib.hid (rd_alloc hr5 (.cells #[.int .i64 kind, .int .i64 nn, .int .i64 most, .int .u64 (hi val), .int .u64 (lo val), .slice sA sn sc] 28)).drew
      have HXr := Lib.hid (rd_alloc hx6 (.cells #[.int .i64 kind, .int .i64 nn, .int .i64 most, .int .u64 (hi val), .int .u64 (lo val), .slice sA sn sc] 28)).drew
      have HBr := Lib.hid ((hb3.alloc hb3.size (.cells #[.int .i64 kind, .int .i64 nn, .int .i64 most, .int .u64 (hi val), .int .u64 (lo val), .slice sA sn sc] 28)).drew)
      clear hr5 hx6 hb3 hop hops
      go_wp2
      refine wp_region_noPanic ?_
      refine wp_region_held_drew (S := fun _ => True) (by kernel_rfl) trivial (fun hHeld => ?_)
      refine wpAnyH_take (i := 0) (oi := ({ dst := some 31, op := Op.move (Operand.tmp 5), type := _, pos := "law.go:78", after := _, guard := none } : Oper)) (v := ?_) rfl (by kernel_rfl) (by kernel_rfl) (by kernel_rfl) (fun _ _ _ h => h) (Or.inl ⟨by rfl, ?_⟩) hHeld ?_
      rotate_left
      · (intro w1 hSw; (try dsimp only at hSw); go_simp; all_goals with_reducible rfl)
      (try simp only [Act.put, List.setIfInBounds_toArray, List.set_cons_zero, List.set_cons_succ])
      refine wpAnyH_take (i := 1) (oi := ({ dst := some 32, op := Op.move (Operand.tmp 6), type := _, pos := "law.go:78", after := _, guard := none } : Oper)) (v := ?_) rfl (by kernel_rfl) (by kernel_rfl) (by kernel_rfl) (fun _ _ _ h => h) (Or.inl ⟨by rfl, ?_⟩) hHeld ?_
      rotate_left
      · (intro w1 hSw; (try dsimp only at hSw); go_simp; all_goals with_reducible rfl)
      (try simp only [Act.put, List.setIfInBounds_toArray, List.set_cons_zero, List.set_cons_succ])
      refine wpAnyH_ready (rs := [2]) (by kernel_rfl) (by simp) ?_
      refine AllReadyH.cons (o := ({ dst := some 33, op := Op.load 28 (Operand.tmp 8), type := _, pos := "law.go:78", after := _, guard := none } : Oper)) rfl (fun K hK => ?_) AllReadyH.nil
      go_simp
      go_wp2_with fail
      refine hK.out _ _ ?_ (fun hHeld2 => ?_)
      · trivial
      clear hK K hHeld
      have hHeld := hHeld2
      clear hHeld2
      (try simp only [Act.put, List.setIfInBounds_toArray, List.set_cons_zero, List.set_cons_succ])
      refine wpAnyH_ready (rs := [3]) (by kernel_rfl) (by simp) ?_
      refine AllReadyH.cons (o := ({ dst := some 34, op := Op.call { callee := Callee.value (Operand.func 11), args := #[Operand.tmp 31, Operand.tmp 32, Operand.tmp 33], argTypes := _ }, type := _, pos := "law.go:78", after := _, guard := none } : Oper)) rfl (fun K hK => ?_) AllReadyH.nil
      go_simp
      go_wp2_with (go_at_call 11; (refine (both_any w.heap.size R D X g3 l5 e5 A5 A6 n5 n6 c5 c6 _ kind nn most val sA sn sc HN.out.1 HN.out.2 HRr.out HXr.out HNE.out.1 HNE.out.2.1 HNE.out.2.2 hR hBX HBr.out.size).mono ?_; rintro en w7 ⟨rfl, hb7, l7, e7, ⟨A7, n7, c7, hr7⟩, A8, n8, c8, hx8⟩; have hnn : n8 = n7 := (by rw [← hx8.len, ← hr7.len]); subst hnn; have k0 := hx8.c0; have k1 := hx8.c1; have HR7 := Lib.hid hr7; have HX8 := Lib.hid hx8; have HB7 := Lib.hid hb7; clear hr7 hx8 hb7))
      refine hK.out _ _ ?_ (fun hHeld2 => ?_)
      · trivial
      clear hK K hHeld
      have hHeld := hHeld2
      clear hHeld2
      (try simp only [Act.put, List.setIfInBounds_toArray, List.set_cons_zero, List.set_cons_succ])
      refine wpAnyH_take (i := 4) (oi := ({ dst := some 35, op := Op.unOp UnOp.not 4 (Operand.tmp 34), type := _, pos := "law.go:78", after := _, guard := none } : Oper)) (v := ?_) rfl (by kernel_rfl) (by kernel_rfl) (by kernel_rfl) (fun _ _ _ h => h) (Or.inl ⟨by rfl, ?_⟩) hHeld ?_
      rotate_left
      · (intro w1 hSw; (try dsimp only at hSw); go_simp; all_goals with_reducible rfl)
      (try simp only [Act.put, List.setIfInBounds_toArray, List.set_cons_zero, List.set_cons_succ])
      refine wpAnyH_take (i := 5) (oi := ({ dst := some 36, op := Op.move (Operand.tmp 35), type := _, pos := "law.go:78", after := _, guard := none } : Oper)) (v := ?_) rfl (by kernel_rfl) (by kernel_rfl) (by kernel_rfl) (fun _ _ _ h => h) (Or.inl ⟨by rfl, ?_⟩) hHeld ?_
      rotate_left
      · (intro w1 hSw; (try dsimp only at hSw); go_simp; all_goals with_reducible rfl)
      (try simp only [Act.put, List.setIfInBounds_toArray, List.set_cons_zero, List.set_cons_succ])
      refine wpAnyH_take (i := 6) (oi := ({ dst := some 37, op := Op.move (Operand.tmp 5), type := _, pos := "law.go:78", after := _, guard := some (5, false) } : Oper)) (v := ?_) rfl (by kernel_rfl) (by kernel_rfl) (by kernel_rfl) (fun _ _ _ h => h) (Or.inl ⟨by rfl, ?_⟩) hHeld ?_
      rotate_left
      · (intro w1 hSw; (try dsimp only at hSw); go_simp; all_goals with_reducible rfl)
      (try simp only [Act.put, List.setIfInBounds_toArray, List.set_cons_zero, List.set_cons_succ])
      refine wpAnyH_take (i := 8) (oi := ({ dst := some 39, op := Op.move (Operand.tmp 6), type := _, pos := "law.go:78", after := _, guard := some (5, false) } : Oper)) (v := ?_) rfl (by kernel_rfl) (by kernel_rfl) (by kernel_rfl) (fun _ _ _ h => h) (Or.inl ⟨by rfl, ?_⟩) hHeld ?_
      rotate_left
      · (intro w1 hSw; (try dsimp only at hSw); go_simp; all_goals with_reducible rfl)
      (try simp only [Act.put, List.setIfInBounds_toArray, List.set_cons_zero, List.set_cons_succ])
      refine wpAnyH_take (i := 9) (oi := ({ dst := some 40, op := Op.nilCheck (Operand.tmp 39), type := _, pos := "law.go:78", after := _, guard := some (5, false) } : Oper)) (v := ?_) rfl (by kernel_rfl) (by kernel_rfl) (by kernel_rfl) (fun _ _ _ h => h) (Or.inl ⟨by rfl, ?_⟩) hHeld ?_
      rotate_left
      · (intro w1 hSw; (try dsimp only at hSw); go_simp; all_goals with_reducible rfl)
      (try simp only [Act.put, List.setIfInBounds_toArray, List.set_cons_zero, List.set_cons_succ])
      refine wpAnyH_take (i := 10) (oi := ({ dst := some 41, op := Op.fieldAddr 38 (Operand.tmp 40) 0, type := _, pos := "law.go:78", after := _, guard := some (5, false) } : Oper)) (v := ?_) rfl (by kernel_rfl) (by kernel_rfl) (by kernel_rfl) (fun _ _ _ h => h) (Or.inl ⟨by rfl, ?_⟩) hHeld ?_
      rotate_left
      · (intro w1 hSw; (try dsimp only at hSw); go_simp; all_goals with_reducible rfl)
      (try simp only [Act.put, List.setIfInBounds_toArray, List.set_cons_zero, List.set_cons_succ])
      refine wpAnyH_ready (rs := [7, 11]) (by kernel_rfl) (by simp) ?_
      refine AllReadyH.cons (o := ({ dst := some 38, op := Op.call { callee := Callee.value (Operand.func 12), args := #[Operand.tmp 37], argTypes := _ }, type := _, pos := "law.go:78", after := _, guard := some (5, false) } : Oper)) rfl (fun K hK => ?_) (AllReadyH.cons (o := ({ dst := some 42, op := Op.load 23 (Operand.tmp 41), type := _, pos := "law.go:78", after := _, guard := some (5, false) } : Oper)) rfl (fun K hK => ?_) AllReadyH.nil)
      · go_simp
        go_wp2_with (go_at_call 12; (refine (left_any' R D l7 A7 n8 c7 _ e7 HR7.out).mono ?_; rintro en w' ⟨rfl, rfl⟩))
        refine hK.out _ _ ?_ (fun hHeld2 => ?_)
        · trivial
        clear hK K hHeld
        have hHeld := hHeld2
        clear hHeld2
        (try simp only [Act.put, List.setIfInBounds_toArray, List.set_cons_zero, List.set_cons_succ])
        refine wpAnyH_ready (rs := [11]) (by kernel_rfl) (by simp) ?_
        refine AllReadyH.cons (o := ({ dst := some 42, op := Op.load 23 (Operand.tmp 41), type := _, pos := "law.go:78", after := _, guard := some (5, false) } : Oper)) rfl (fun K hK => ?_) AllReadyH.nil
        go_simp
        go_wp2_with fail
        refine hK.out _ _ ?_ (fun hHeld2 => ?_)
        · trivial
        clear hK K hHeld
        have hHeld := hHeld2
        clear hHeld2
        (try simp only [Act.put, List.setIfInBounds_toArray, List.set_cons_zero, List.set_cons_succ])
        refine wpAnyH_take (i := 12) (oi := ({ dst := some 43, op := Op.call { callee := Callee.builtin Builtin.len, args := #[Operand.tmp 42], argTypes := _ }, type := _, pos := "law.go:78", after := _, guard := some (5, false) } : Oper)) (v := ?_) rfl (by kernel_rfl) (by kernel_rfl) (by kernel_rfl) (fun _ _ _ h => h) (Or.inl ⟨by rfl, ?_⟩) hHeld ?_
        rotate_left
        · (intro w1 hSw; (try dsimp only at hSw); go_simp; all_goals with_reducible rfl)
        (try simp only [Act.put, List.setIfInBounds_toArray, List.set_cons_zero, List.set_cons_succ])
        refine wpAnyH_take (i := 13) (oi := ({ dst := some 44, op := Op.binOp BinOp.neq 3 (Operand.tmp 38) (Operand.tmp 43) 3, type := _, pos := "law.go:78", after := _, guard := some (5, false) } : Oper)) (v := ?_) rfl (by kernel_rfl) (by kernel_rfl) (by kernel_rfl) (fun _ _ _ h => h) (Or.inl ⟨by rfl, ?_⟩) hHeld ?_
        rotate_left
        · (intro w1 hSw; (try dsimp only at hSw); go_simp; all_goals with_reducible rfl)
        (try simp only [Act.put, List.setIfInBounds_toArray, List.set_cons_zero, List.set_cons_succ])
        refine wpAnyH_take (i := 14) (oi := ({ dst := some 45, op := Op.pick (Operand.tmp 36) (Operand.const (Value.bool true)) (Operand.tmp 44), type := _, pos := "law.go:78", after := _, guard := none } : Oper)) (v := ?_) rfl (by kernel_rfl) (by kernel_rfl) (by kernel_rfl) (fun _ _ _ h => h) (Or.inl ⟨by rfl, ?_⟩) hHeld ?_
        rotate_left
        · (intro w1 hSw; (try dsimp only at hSw); go_simp; all_goals with_reducible rfl)
        (try simp only [Act.put, List.setIfInBounds_toArray, List.set_cons_zero, List.set_cons_succ])
        refine wpAnyH_take (i := 15) (oi := ({ dst := some 46, op := Op.move (Operand.tmp 45), type := _, pos := "law.go:78", after := _, guard := none } : Oper)) (v := ?_) rfl (by kernel_rfl) (by kernel_rfl) (by kernel_rfl) (fun _ _ _ h => h) (Or.inl ⟨by rfl, ?_⟩) hHeld ?_
        rotate_left
        · (intro w1 hSw; (try dsimp only at hSw); go_simp; all_goals with_reducible rfl)
        (try simp only [Act.put, List.setIfInBounds_toArray, List.set_cons_zero, List.set_cons_succ])
        refine wpAnyH_take (i := 16) (oi := ({ dst := some 47, op := Op.move (Operand.tmp 5), type := _, pos := "law.go:78", after := _, guard := some (15, false) } : Oper)) (v := ?_) rfl (by kernel_rfl) (by kernel_rfl) (by kernel_rfl) (fun _ _ _ h => h) (Or.inl ⟨by rfl, ?_⟩) hHeld ?_
        rotate_left
        · (intro w1 hSw; (try dsimp only at hSw); go_simp; all_goals with_reducible rfl)
        (try simp only [Act.put, List.setIfInBounds_toArray, List.set_cons_zero, List.set_cons_succ])
        refine wpAnyH_take (i := 18) (oi := ({ dst := some 49, op := Op.move (Operand.tmp 6), type := _, pos := "law.go:78", after := _, guard := some (15, false) } : Oper)) (v := ?_) rfl (by kernel_rfl) (by kernel_rfl) (by kernel_rfl) (fun _ _ _ h => h) (Or.inl ⟨by rfl, ?_⟩) hHeld ?_
        rotate_left
        · (intro w1 hSw; (try dsimp only at hSw); go_simp; all_goals with_reducible rfl)
        (try simp only [Act.put, List.setIfInBounds_toArray, List.set_cons_zero, List.set_cons_succ])
        refine wpAnyH_take (i := 19) (oi := ({ dst := some 50, op := Op.nilCheck (Operand.tmp 49), type := _, pos := "law.go:78", after := _, guard := some (15, false) } : Oper)) (v := ?_) rfl (by kernel_rfl) (by kernel_rfl) (by kernel_rfl) (fun _ _ _ h => h) (Or.inl ⟨by rfl, ?_⟩) hHeld ?_
        rotate_left
        · (intro w1 hSw; (try dsimp only at hSw); go_simp; all_goals with_reducible rfl)
        (try simp only [Act.put, List.setIfInBounds_toArray, List.set_cons_zero, List.set_cons_succ])
        refine wpAnyH_take (i := 20) (oi := ({ dst := some 51, op := Op.fieldAddr 38 (Operand.tmp 50) 1, type := _, pos := "law.go:78", after := _, guard := some (15, false) } : Oper)) (v := ?_) rfl (by kernel_rfl) (by kernel_rfl) (by kernel_rfl) (fun _ _ _ h => h) (Or.inl ⟨by rfl, ?_⟩) hHeld ?_
        rotate_left
        · (intro w1 hSw; (try dsimp only at hSw); go_simp; all_goals with_reducible rfl)
        (try simp only [Act.put, List.setIfInBounds_toArray, List.set_cons_zero, List.set_cons_succ])
        refine wpAnyH_ready (rs := [17, 21]) (by kernel_rfl) (by simp) ?_
        refine AllReadyH.cons (o := ({ dst := some 48, op := Op.call { callee := Callee.value (Operand.func 13), args := #[Operand.tmp 47], argTypes := _ }, type := _, pos := "law.go:78", after := _, guard := some (15, false) } : Oper)) rfl (fun K hK => ?_) (AllReadyH.cons (o := ({ dst := some 52, op := Op.load 36 (Operand.tmp 51), type := _, pos := "law.go:78", after := _, guard := some (15, false) } : Oper)) rfl (fun K hK => ?_) AllReadyH.nil)
        · go_simp
          go_wp2_with (go_at_call 13; (refine (err_any R D l7 A7 n8 c7 _ e7 HR7.out).mono ?_; rintro en w' ⟨rfl, rfl⟩))
          refine hK.out _ _ ?_ (fun hHeld2 => ?_)
          · trivial
          clear hK K hHeld
          have hHeld := hHeld2
          clear hHeld2
          (try simp only [Act.put, List.setIfInBounds_toArray, List.set_cons_zero, List.set_cons_succ])
          refine wpAnyH_ready (rs := [21]) (by kernel_rfl) (by simp) ?_
          refine AllReadyH.cons (o := ({ dst := some 52, op := Op.load 36 (Operand.tmp 51), type := _, pos := "law.go:78", after := _, guard := some (15, false) } : Oper)) rfl (fun K hK => ?_) AllReadyH.nil
          go_simp
          go_wp2_with fail
          refine hK.out _ _ ?_ (fun hHeld2 => ?_)
          · trivial
          clear hK K hHeld
          have hHeld := hHeld2
          clear hHeld2
          (try simp only [Act.put, List.setIfInBounds_toArray, List.set_cons_zero, List.set_cons_succ])
          refine wpAnyH_take (i := 22) (oi := ({ dst := some 53, op := Op.binOp BinOp.neq 36 (Operand.tmp 48) (Operand.tmp 52) 36, type := _, pos := "law.go:78", after := _, guard := some (15, false) } : Oper)) (v := ?_) rfl (by kernel_rfl) (by kernel_rfl) (by kernel_rfl) (fun _ _ _ h => h) (Or.inl ⟨by rfl, ?_⟩) hHeld ?_
          rotate_left
          · (intro w1 hSw; (try dsimp only at hSw); go_simp; all_goals with_reducible rfl)
          (try simp only [Act.put, List.setIfInBounds_toArray, List.set_cons_zero, List.set_cons_succ])
          refine wpAnyH_take (i := 23) (oi := ({ dst := some 54, op := Op.pick (Operand.tmp 46) (Operand.const (Value.bool true)) (Operand.tmp 53), type := _, pos := "law.go:78", after := _, guard := none } : Oper)) (v := ?_) rfl (by kernel_rfl) (by kernel_rfl) (by kernel_rfl) (fun _ _ _ h => h) (Or.inl ⟨by rfl, ?_⟩) hHeld ?_
          rotate_left
          · (intro w1 hSw; (try dsimp only at hSw); go_simp; all_goals with_reducible rfl)
          (try simp only [Act.put, List.setIfInBounds_toArray, List.set_cons_zero, List.set_cons_succ])
          refine wpAnyH_take (i := 24) (oi := ({ dst := some 55, op := Op.move (Operand.tmp 54), type := _, pos := "law.go:78", after := _, guard := none } : Oper)) (v := ?_) rfl (by kernel_rfl) (by kernel_rfl) (by kernel_rfl) (fun _ _ _ h => h) (Or.inl ⟨by rfl, ?_⟩) hHeld ?_
          rotate_left
          · (intro w1 hSw; (try dsimp only at hSw); go_simp; all_goals with_reducible rfl)
          (try simp only [Act.put, List.setIfInBounds_toArray, List.set_cons_zero, List.set_cons_succ])
          refine wpAnyH_take (i := 25) (oi := ({ dst := some 56, op := Op.move (Operand.tmp 5), type := _, pos := "law.go:78", after := _, guard := some (24, false) } : Oper)) (v := ?_) rfl (by kernel_rfl) (by kernel_rfl) (by kernel_rfl) (fun _ _ _ h => h) (Or.inl ⟨by rfl, ?_⟩) hHeld ?_
          rotate_left
          · (intro w1 hSw; (try dsimp only at hSw); go_simp; all_goals with_reducible rfl)
          (try simp only [Act.put, List.setIfInBounds_toArray, List.set_cons_zero, List.set_cons_succ])
          refine wpAnyH_take (i := 27) (oi := ({ dst := some 58, op := Op.move (Operand.tmp 6), type := _, pos := "law.go:78", after := _, guard := some (24, false) } : Oper)) (v := ?_) rfl (by kernel_rfl) (by kernel_rfl) (by kernel_rfl) (fun _ _ _ h => h) (Or.inl ⟨by rfl, ?_⟩) hHeld ?_
          rotate_left
          · (intro w1 hSw; (try dsimp only at hSw); go_simp; all_goals with_reducible rfl)
          (try simp only [Act.put, List.setIfInBounds_toArray, List.set_cons_zero, List.set_cons_succ])
          refine wpAnyH_ready (rs := [26]) (by kernel_rfl) (by simp) ?_
          refine AllReadyH.cons (o := ({ dst := some 57, op := Op.call { callee := Callee.value (Operand.func 14), args := #[Operand.tmp 56], argTypes := _ }, type := _, pos := "law.go:78", after := _, guard := some (24, false) } : Oper)) rfl (fun K hK => ?_) AllReadyH.nil
          go_simp
          go_wp2_with (go_at_call 14; (refine (finish_any R D l7 A7 n8 c7 _ e7 HR7.out).mono ?_; rintro en w' ⟨rfl, rfl⟩))
          refine hK.out _ _ ?_ (fun hHeld2 => ?_)
          · trivial
          clear hK K hHeld
          have hHeld := hHeld2
          clear hHeld2
          (try simp only [Act.put, List.setIfInBounds_toArray, List.set_cons_zero, List.set_cons_succ])
          refine wpAnyH_ready (rs := [28]) (by kernel_rfl) (by simp) ?_
          refine AllReadyH.cons (o := ({ dst := some 59, op := Op.call { callee := Callee.value (Operand.func 15), args := #[Operand.tmp 58], argTypes := _ }, type := _, pos := "law.go:78", after := _, guard := some (24, false) } : Oper)) rfl (fun K hK => ?_) AllReadyH.nil
          go_simp
          go_wp2_with (go_at_call 15; (refine (xfinish_any X g3 l7 A8 n8 c8 _ e7 HX8.out).mono ?_; rintro en w' ⟨rfl, rfl⟩))
          refine hK.out _ _ ?_ (fun hHeld2 => ?_)
          · trivial
          clear hK K hHeld
          have hHeld := hHeld2
          clear hHeld2
          (try simp only [Act.put, List.setIfInBounds_toArray, List.set_cons_zero, List.set_cons_succ])
          refine wpAnyH_take (i := 29) (oi := ({ dst := some 60, op := Op.binOp BinOp.neq 36 (Operand.tmp 57) (Operand.tmp 59) 36, type := _, pos := "law.go:78", after := _, guard := some (24, false) } : Oper)) (v := ?_) rfl (by kernel_rfl) (by kernel_rfl) (by kernel_rfl) (fun _ _ _ h => h) (Or.inl ⟨by rfl, ?_⟩) hHeld ?_
          rotate_left
          · (intro w1 hSw; (try dsimp only at hSw); go_simp; all_goals with_reducible rfl)
          (try simp only [Act.put, List.setIfInBounds_toArray, List.set_cons_zero, List.set_cons_succ])
          refine wpAnyH_take (i := 30) (oi := ({ dst := some 61, op := Op.pick (Operand.tmp 55) (Operand.const (Value.bool true)) (Operand.tmp 60), type := _, pos := "law.go:78", after := _, guard := none } : Oper)) (v := ?_) rfl (by kernel_rfl) (by kernel_rfl) (by kernel_rfl) (fun _ _ _ h => h) (Or.inl ⟨by rfl, ?_⟩) hHeld ?_
          rotate_left
          · (intro w1 hSw; (try dsimp only at hSw); go_simp; all_goals with_reducible rfl)
          (try simp only [Act.put, List.setIfInBounds_toArray, List.set_cons_zero, List.set_cons_succ])
          refine wpAnyH_done (by kernel_rfl) ?_ _
          refine NoPanic.normal ?_
          go_wp2
          go_roundw
          case rel => exact ⟨q + 1, by omega, by simp, HBr.out.trans (HB7.out.mono (Nat.le_refl _)), _, _, ⟨_, _, _, HR7.out⟩, _, _, _, HX8.out⟩
          case measure => simp [intOf]; omega
        · go_simp
          go_wp2_with fail
          refine hK.out _ _ ?_ (fun hHeld2 => ?_)
          · trivial
          clear hK K hHeld
          have hHeld := hHeld2
          clear hHeld2
          (try simp only [Act.put, List.setIfInBounds_toArray, List.set_cons_zero, List.set_cons_succ])
          refine wpAnyH_ready (rs := [17]) (by kernel_rfl) (by simp) ?_
          refine AllReadyH.cons (o := ({ dst := some 48, op := Op.call { callee := Callee.value (Operand.func 13), args := #[Operand.tmp 47], argTypes := _ }, type := _, pos := "law.go:78", after := _, guard := some (15, false) } : Oper)) rfl (fun K hK => ?_) AllReadyH.nil
          go_simp
          go_wp2_with (go_at_call 13; (refine (err_any R D l7 A7 n8 c7 _ e7 HR7.out).mono ?_; rintro en w' ⟨rfl, rfl⟩))
          refine hK.out _ _ ?_ (fun hHeld2 => ?_)
          · trivial
          clear hK K hHeld
          have hHeld := hHeld2
          clear hHeld2
          (try simp only [Act.put, List.setIfInBounds_toArray, List.set_cons_zero, List.set_cons_succ])
          refine wpAnyH_take (i := 22) (oi := ({ dst := some 53, op := Op.binOp BinOp.neq 36 (Operand.tmp 48) (Operand.tmp 52) 36, type := _, pos := "law.go:78", after := _, guard := some (15, false) } : Oper)) (v := ?_) rfl (by kernel_rfl) (by kernel_rfl) (by kernel_rfl) (fun _ _ _ h => h) (Or.inl ⟨by rfl, ?_⟩) hHeld ?_
          rotate_left
          · (intro w1 hSw; (try dsimp only at hSw); go_simp; all_goals with_reducible rfl)
          (try simp only [Act.put, List.setIfInBounds_toArray, List.set_cons_zero, List.set_cons_succ])
          refine wpAnyH_take (i := 23) (oi := ({ dst := some 54, op := Op.pick (Operand.tmp 46) (Operand.const (Value.bool true)) (Operand.tmp 53), type := _, pos := "law.go:78", after := _, guard := none } : Oper)) (v := ?_) rfl (by kernel_rfl) (by kernel_rfl) (by kernel_rfl) (fun _ _ _ h => h) (Or.inl ⟨by rfl, ?_⟩) hHeld ?_
          rotate_left
          · (intro w1 hSw; (try dsimp only at hSw); go_simp; all_goals with_reducible rfl)
          (try simp only [Act.put, List.setIfInBounds_toArray, List.set_cons_zero, List.set_cons_succ])
          refine wpAnyH_take (i := 24) (oi := ({ dst := some 55, op := Op.move (Operand.tmp 54), type := _, pos := "law.go:78", after := _, guard := none } : Oper)) (v := ?_) rfl (by kernel_rfl) (by kernel_rfl) (by kernel_rfl) (fun _ _ _ h => h) (Or.inl ⟨by rfl, ?_⟩) hHeld ?_
          rotate_left
          · (intro w1 hSw; (try dsimp only at hSw); go_simp; all_goals with_reducible rfl)
          (try simp only [Act.put, List.setIfInBounds_toArray, List.set_cons_zero, List.set_cons_succ])
          refine wpAnyH_take (i := 25) (oi := ({ dst := some 56, op := Op.move (Operand.tmp 5), type := _, pos := "law.go:78", after := _, guard := some (24, false) } : Oper)) (v := ?_) rfl (by kernel_rfl) (by kernel_rfl) (by kernel_rfl) (fun _ _ _ h => h) (Or.inl ⟨by rfl, ?_⟩) hHeld ?_
          rotate_left
          · (intro w1 hSw; (try dsimp only at hSw); go_simp; all_goals with_reducible rfl)
          (try simp only [Act.put, List.setIfInBounds_toArray, List.set_cons_zero, List.set_cons_succ])
          refine wpAnyH_take (i := 27) (oi := ({ dst := some 58, op := Op.move (Operand.tmp 6), type := _, pos := "law.go:78", after := _, guard := some (24, false) } : Oper)) (v := ?_) rfl (by kernel_rfl) (by kernel_rfl) (by kernel_rfl) (fun _ _ _ h => h) (Or.inl ⟨by rfl, ?_⟩) hHeld ?_
          rotate_left
          · (intro w1 hSw; (try dsimp only at hSw); go_simp; all_goals with_reducible rfl)
          (try simp only [Act.put, List.setIfInBounds_toArray, List.set_cons_zero, List.set_cons_succ])
          refine wpAnyH_ready (rs := [26]) (by kernel_rfl) (by simp) ?_
          refine AllReadyH.cons (o := ({ dst := some 57, op := Op.call { callee := Callee.value (Operand.func 14), args := #[Operand.tmp 56], argTypes := _ }, type := _, pos := "law.go:78", after := _, guard := some (24, false) } : Oper)) rfl (fun K hK => ?_) AllReadyH.nil
          go_simp
          go_wp2_with (go_at_call 14; (refine (finish_any R D l7 A7 n8 c7 _ e7 HR7.out).mono ?_; rintro en w' ⟨rfl, rfl⟩))
          refine hK.out _ _ ?_ (fun hHeld2 => ?_)
          · trivial
          clear hK K hHeld
          have hHeld := hHeld2
          clear hHeld2
          (try simp only [Act.put, List.setIfInBounds_toArray, List.set_cons_zero, List.set_cons_succ])
          refine wpAnyH_ready (rs := [28]) (by kernel_rfl) (by simp) ?_
          refine AllReadyH.cons (o := ({ dst := some 59, op := Op.call { callee := Callee.value (Operand.func 15), args := #[Operand.tmp 58], argTypes := _ }, type := _, pos := "law.go:78", after := _, guard := some (24, false) } : Oper)) rfl (fun K hK => ?_) AllReadyH.nil
          go_simp
          go_wp2_with (go_at_call 15; (refine (xfinish_any X g3 l7 A8 n8 c8 _ e7 HX8.out).mono ?_; rintro en w' ⟨rfl, rfl⟩))
          refine hK.out _ _ ?_ (fun hHeld2 => ?_)
          · trivial
          clear hK K hHeld
          have hHeld := hHeld2
          clear hHeld2
          (try simp only [Act.put, List.setIfInBounds_toArray, List.set_cons_zero, List.set_cons_succ])
          refine wpAnyH_take (i := 29) (oi := ({ dst := some 60, op := Op.binOp BinOp.neq 36 (Operand.tmp 57) (Operand.tmp 59) 36, type := _, pos := "law.go:78", after := _, guard := some (24, false) } : Oper)) (v := ?_) rfl (by kernel_rfl) (by kernel_rfl) (by kernel_rfl) (fun _ _ _ h => h) (Or.inl ⟨by rfl, ?_⟩) hHeld ?_
          rotate_left
          · (intro w1 hSw; (try dsimp only at hSw); go_simp; all_goals with_reducible rfl)
          (try simp only [Act.put, List.setIfInBounds_toArray, List.set_cons_zero, List.set_cons_succ])
          refine wpAnyH_take (i := 30) (oi := ({ dst := some 61, op := Op.pick (Operand.tmp 55) (Operand.const (Value.bool true)) (Operand.tmp 60), type := _, pos := "law.go:78", after := _, guard := none } : Oper)) (v := ?_) rfl (by kernel_rfl) (by kernel_rfl) (by kernel_rfl) (fun _ _ _ h => h) (Or.inl ⟨by rfl, ?_⟩) hHeld ?_
          rotate_left
          · (intro w1 hSw; (try dsimp only at hSw); go_simp; all_goals with_reducible rfl)
          (try simp only [Act.put, List.setIfInBounds_toArray, List.set_cons_zero, List.set_cons_succ])
          refine wpAnyH_done (by kernel_rfl) ?_ _
          refine NoPanic.normal ?_
          go_wp2
          go_roundw
          case rel => exact ⟨q + 1, by omega, by simp, HBr.out.trans (HB7.out.mono (Nat.le_refl _)), _, _, ⟨_, _, _, HR7.out⟩, _, _, _, HX8.out⟩
          case measure => simp [intOf]; omega
      · go_simp
        go_wp2_with fail
        refine hK.out _ _ ?_ (fun hHeld2 => ?_)
        · trivial
        clear hK K hHeld
        have hHeld := hHeld2
        clear hHeld2
        (try simp only [Act.put, List.setIfInBounds_toArray, List.set_cons_zero, List.set_cons_succ])
        refine wpAnyH_take (i := 12) (oi := ({ dst := some 43, op := Op.call { callee := Callee.builtin Builtin.len, args := #[Operand.tmp 42], argTypes := _ }, type := _, pos := "law.go:78", after := _, guard := some (5, false) } : Oper)) (v := ?_) rfl (by kernel_rfl) (by kernel_rfl) (by kernel_rfl) (fun _ _ _ h => h) (Or.inl ⟨by rfl, ?_⟩) hHeld ?_
        rotate_left
        · (intro w1 hSw; (try dsimp only at hSw); go_simp; all_goals with_reducible rfl)
        (try simp only [Act.put, List.setIfInBounds_toArray, List.set_cons_zero, List.set_cons_succ])
        refine wpAnyH_ready (rs := [7]) (by kernel_rfl) (by simp) ?_
        refine AllReadyH.cons (o := ({ dst := some 38, op := Op.call { callee := Callee.value (Operand.func 12), args := #[Operand.tmp 37], argTypes := _ }, type := _, pos := "law.go:78", after := _, guard := some (5, false) } : Oper)) rfl (fun K hK => ?_) AllReadyH.nil
        go_simp
        go_wp2_with (go_at_call 12; (refine (left_any' R D l7 A7 n8 c7 _ e7 HR7.out).mono ?_; rintro en w' ⟨rfl, rfl⟩))
        refine hK.out _ _ ?_ (fun hHeld2 => ?_)
        · trivial
        clear hK K hHeld
        have hHeld := hHeld2
        clear hHeld2
        (try simp only [Act.put, List.setIfInBounds_toArray, List.set_cons_zero, List.set_cons_succ])
        refine wpAnyH_take (i := 13) (oi := ({ dst := some 44, op := Op.binOp BinOp.neq 3 (Operand.tmp 38) (Operand.tmp 43) 3, type := _, pos := "law.go:78", after := _, guard := some (5, false) } : Oper)) (v := ?_) rfl (by kernel_rfl) (by kernel_rfl) (by kernel_rfl) (fun _ _ _ h => h) (Or.inl ⟨by rfl, ?_⟩) hHeld ?_
        rotate_left
        · (intro w1 hSw; (try dsimp only at hSw); go_simp; all_goals with_reducible rfl)
        (try simp only [Act.put, List.setIfInBounds_toArray, List.set_cons_zero, List.set_cons_succ])
        refine wpAnyH_take (i := 14) (oi := ({ dst := some 45, op := Op.pick (Operand.tmp 36) (Operand.const (Value.bool true)) (Operand.tmp 44), type := _, pos := "law.go:78", after := _, guard := none } : Oper)) (v := ?_) rfl (by kernel_rfl) (by kernel_rfl) (by kernel_rfl) (fun _ _ _ h => h) (Or.inl ⟨by rfl, ?_⟩) hHeld ?_
        rotate_left
        · (intro w1 hSw; (try dsimp only at hSw); go_simp; all_goals with_reducible rfl)
        (try simp only [Act.put, List.setIfInBounds_toArray, List.set_cons_zero, List.set_cons_succ])
        refine wpAnyH_take (i := 15) (oi := ({ dst := some 46, op := Op.move (Operand.tmp 45), type := _, pos := "law.go:78", after := _, guard := none } : Oper)) (v := ?_) rfl (by kernel_rfl) (by kernel_rfl) (by kernel_rfl) (fun _ _ _ h => h) (Or.inl ⟨by rfl, ?_⟩) hHeld ?_
        rotate_left
        · (intro w1 hSw; (try dsimp only at hSw); go_simp; all_goals with_reducible rfl)
        (try simp only [Act.put, List.setIfInBounds_toArray, List.set_cons_zero, List.set_cons_succ])
        refine wpAnyH_take (i := 16) (oi := ({ dst := some 47, op := Op.move (Operand.tmp 5), type := _, pos := "law.go:78", after := _, guard := some (15, false) } : Oper)) (v := ?_) rfl (by kernel_rfl) (by kernel_rfl) (by kernel_rfl) (fun _ _ _ h => h) (Or.inl ⟨by rfl, ?_⟩) hHeld ?_
        rotate_left
        · (intro w1 hSw; (try dsimp only at hSw); go_simp; all_goals with_reducible rfl)
        (try simp only [Act.put, List.setIfInBounds_toArray, List.set_cons_zero, List.set_cons_succ])
        refine wpAnyH_take (i := 18) (oi := ({ dst := some 49, op := Op.move (Operand.tmp 6), type := _, pos := "law.go:78", after := _, guard := some (15, false) } : Oper)) (v := ?_) rfl (by kernel_rfl) (by kernel_rfl) (by kernel_rfl) (fun _ _ _ h => h) (Or.inl ⟨by rfl, ?_⟩) hHeld ?_
        rotate_left
        · (intro w1 hSw; (try dsimp only at hSw); go_simp; all_goals with_reducible rfl)
        (try simp only [Act.put, List.setIfInBounds_toArray, List.set_cons_zero, List.set_cons_succ])
        refine wpAnyH_take (i := 19) (oi := ({ dst := some 50, op := Op.nilCheck (Operand.tmp 49), type := _, pos := "law.go:78", after := _, guard := some (15, false) } : Oper)) (v := ?_) rfl (by kernel_rfl) (by kernel_rfl) (by kernel_rfl) (fun _ _ _ h => h) (Or.inl ⟨by rfl, ?_⟩) hHeld ?_
        rotate_left
        · (intro w1 hSw; (try dsimp only at hSw); go_simp; all_goals with_reducible rfl)
        (try simp only [Act.put, List.setIfInBounds_toArray, List.set_cons_zero, List.set_cons_succ])
        refine wpAnyH_take (i := 20) (oi := ({ dst := some 51, op := Op.fieldAddr 38 (Operand.tmp 50) 1, type := _, pos := "law.go:78", after := _, guard := some (15, false) } : Oper)) (v := ?_) rfl (by kernel_rfl) (by kernel_rfl) (by kernel_rfl) (fun _ _ _ h => h) (Or.inl ⟨by rfl, ?_⟩) hHeld ?_
        rotate_left
        · (intro w1 hSw; (try dsimp only at hSw); go_simp; all_goals with_reducible rfl)
        (try simp only [Act.put, List.setIfInBounds_toArray, List.set_cons_zero, List.set_cons_succ])
        refine wpAnyH_ready (rs := [17, 21]) (by kernel_rfl) (by simp) ?_
        refine AllReadyH.cons (o := ({ dst := some 48, op := Op.call { callee := Callee.value (Operand.func 13), args := #[Operand.tmp 47], argTypes := _ }, type := _, pos := "law.go:78", after := _, guard := some (15, false) } : Oper)) rfl (fun K hK => ?_) (AllReadyH.cons (o := ({ dst := some 52, op := Op.load 36 (Operand.tmp 51), type := _, pos := "law.go:78", after := _, guard := some (15, false) } : Oper)) rfl (fun K hK => ?_) AllReadyH.nil)
        · go_simp
          go_wp2_with (go_at_call 13; (refine (err_any R D l7 A7 n8 c7 _ e7 HR7.out).mono ?_; rintro en w' ⟨rfl, rfl⟩))
          refine hK.out _ _ ?_ (fun hHeld2 => ?_)
          · trivial
          clear hK K hHeld
          have hHeld := hHeld2
          clear hHeld2
          (try simp only [Act.put, List.setIfInBounds_toArray, List.set_cons_zero, List.set_cons_succ])
          refine wpAnyH_ready (rs := [21]) (by kernel_rfl) (by simp) ?_
          refine AllReadyH.cons (o := ({ dst := some 52, op := Op.load 36 (Operand.tmp 51), type := _, pos := "law.go:78", after := _, guard := some (15, false) } : Oper)) rfl (fun K hK => ?_) AllReadyH.nil
          go_simp
          go_wp2_with fail
          refine hK.out _ _ ?_ (fun hHeld2 => ?_)
          · trivial
          clear hK K hHeld
          have hHeld := hHeld2
          clear hHeld2
          (try simp only [Act.put, List.setIfInBounds_toArray, List.set_cons_zero, List.set_cons_succ])
          refine wpAnyH_take (i := 22) (oi := ({ dst := some 53, op := Op.binOp BinOp.neq 36 (Operand.tmp 48) (Operand.tmp 52) 36, type := _, pos := "law.go:78", after := _, guard := some (15, false) } : Oper)) (v := ?_) rfl (by kernel_rfl) (by kernel_rfl) (by kernel_rfl) (fun _ _ _ h => h) (Or.inl ⟨by rfl, ?_⟩) hHeld ?_
          rotate_left
          · (intro w1 hSw; (try dsimp only at hSw); go_simp; all_goals with_reducible rfl)
          (try simp only [Act.put, List.setIfInBounds_toArray, List.set_cons_zero, List.set_cons_succ])
          refine wpAnyH_take (i := 23) (oi := ({ dst := some 54, op := Op.pick (Operand.tmp 46) (Operand.const (Value.bool true)) (Operand.tmp 53), type := _, pos := "law.go:78", after := _, guard := none } : Oper)) (v := ?_) rfl (by kernel_rfl) (by kernel_rfl) (by kernel_rfl) (fun _ _ _ h => h) (Or.inl ⟨by rfl, ?_⟩) hHeld ?_
          rotate_left
          · (intro w1 hSw; (try dsimp only at hSw); go_simp; all_goals with_reducible rfl)
          (try simp only [Act.put, List.setIfInBounds_toArray, List.set_cons_zero, List.set_cons_succ])
          refine wpAnyH_take (i := 24) (oi := ({ dst := some 55, op := Op.move (Operand.tmp 54), type := _, pos := "law.go:78", after := _, guard := none } : Oper)) (v := ?_) rfl (by kernel_rfl) (by kernel_rfl) (by kernel_rfl) (fun _ _ _ h => h) (Or.inl ⟨by rfl, ?_⟩) hHeld ?_
          rotate_left
          · (intro w1 hSw; (try dsimp only at hSw); go_simp; all_goals with_reducible rfl)
          (try simp only [Act.put, List.setIfInBounds_toArray, List.set_cons_zero, List.set_cons_succ])
          refine wpAnyH_take (i := 25) (oi := ({ dst := some 56, op := Op.move (Operand.tmp 5), type := _, pos := "law.go:78", after := _, guard := some (24, false) } : Oper)) (v := ?_) rfl (by kernel_rfl) (by kernel_rfl) (by kernel_rfl) (fun _ _ _ h => h) (Or.inl ⟨by rfl, ?_⟩) hHeld ?_
          rotate_left
          · (intro w1 hSw; (try dsimp only at hSw); go_simp; all_goals with_reducible rfl)
          (try simp only [Act.put, List.setIfInBounds_toArray, List.set_cons_zero, List.set_cons_succ])
          refine wpAnyH_take (i := 27) (oi := ({ dst := some 58, op := Op.move (Operand.tmp 6), type := _, pos := "law.go:78", after := _, guard := some (24, false) } : Oper)) (v := ?_) rfl (by kernel_rfl) (by kernel_rfl) (by kernel_rfl) (fun _ _ _ h => h) (Or.inl ⟨by rfl, ?_⟩) hHeld ?_
          rotate_left
          · (intro w1 hSw; (try dsimp only at hSw); go_simp; all_goals with_reducible rfl)
          (try simp only [Act.put, List.setIfInBounds_toArray, List.set_cons_zero, List.set_cons_succ])
          refine wpAnyH_ready (rs := [26]) (by kernel_rfl) (by simp) ?_
          refine AllReadyH.cons (o := ({ dst := some 57, op := Op.call { callee := Callee.value (Operand.func 14), args := #[Operand.tmp 56], argTypes := _ }, type := _, pos := "law.go:78", after := _, guard := some (24, false) } : Oper)) rfl (fun K hK => ?_) AllReadyH.nil
          go_simp
          go_wp2_with (go_at_call 14; (refine (finish_any R D l7 A7 n8 c7 _ e7 HR7.out).mono ?_; rintro en w' ⟨rfl, rfl⟩))
          refine hK.out _ _ ?_ (fun hHeld2 => ?_)
          · trivial
          clear hK K hHeld
          have hHeld := hHeld2
          clear hHeld2
          (try simp only [Act.put, List.setIfInBounds_toArray, List.set_cons_zero, List.set_cons_succ])
          refine wpAnyH_ready (rs := [28]) (by kernel_rfl) (by simp) ?_
          refine AllReadyH.cons (o := ({ dst := some 59, op := Op.call { callee := Callee.value (Operand.func 15), args := #[Operand.tmp 58], argTypes := _ }, type := _, pos := "law.go:78", after := _, guard := some (24, false) } : Oper)) rfl (fun K hK => ?_) AllReadyH.nil
          go_simp
          go_wp2_with (go_at_call 15; (refine (xfinish_any X g3 l7 A8 n8 c8 _ e7 HX8.out).mono ?_; rintro en w' ⟨rfl, rfl⟩))
          refine hK.out _ _ ?_ (fun hHeld2 => ?_)
          · trivial
          clear hK K hHeld
          have hHeld := hHeld2
          clear hHeld2
          (try simp only [Act.put, List.setIfInBounds_toArray, List.set_cons_zero, List.set_cons_succ])
          refine wpAnyH_take (i := 29) (oi := ({ dst := some 60, op := Op.binOp BinOp.neq 36 (Operand.tmp 57) (Operand.tmp 59) 36, type := _, pos := "law.go:78", after := _, guard := some (24, false) } : Oper)) (v := ?_) rfl (by kernel_rfl) (by kernel_rfl) (by kernel_rfl) (fun _ _ _ h => h) (Or.inl ⟨by rfl, ?_⟩) hHeld ?_
          rotate_left
          · (intro w1 hSw; (try dsimp only at hSw); go_simp; all_goals with_reducible rfl)
          (try simp only [Act.put, List.setIfInBounds_toArray, List.set_cons_zero, List.set_cons_succ])
          refine wpAnyH_take (i := 30) (oi := ({ dst := some 61, op := Op.pick (Operand.tmp 55) (Operand.const (Value.bool true)) (Operand.tmp 60), type := _, pos := "law.go:78", after := _, guard := none } : Oper)) (v := ?_) rfl (by kernel_rfl) (by kernel_rfl) (by kernel_rfl) (fun _ _ _ h => h) (Or.inl ⟨by rfl, ?_⟩) hHeld ?_
          rotate_left
          · (intro w1 hSw; (try dsimp only at hSw); go_simp; all_goals with_reducible rfl)
          (try simp only [Act.put, List.setIfInBounds_toArray, List.set_cons_zero, List.set_cons_succ])
          refine wpAnyH_done (by kernel_rfl) ?_ _
          refine NoPanic.normal ?_
          go_wp2
          go_roundw
          case rel => exact ⟨q + 1, by omega, by simp, HBr.out.trans (HB7.out.mono (Nat.le_refl _)), _, _, ⟨_, _, _, HR7.out⟩, _, _, _, HX8.out⟩
          case measure => simp [intOf]; omega
        · go_simp
          go_wp2_with fail
          refine hK.out _ _ ?_ (fun hHeld2 => ?_)
          · trivial
          clear hK K hHeld
          have hHeld := hHeld2
          clear hHeld2
          (try simp only [Act.put, List.setIfInBounds_toArray, List.set_cons_zero, List.set_cons_succ])
          refine wpAnyH_ready (rs := [17]) (by kernel_rfl) (by simp) ?_
          refine AllReadyH.cons (o := ({ dst := some 48, op := Op.call { callee := Callee.value (Operand.func 13), args := #[Operand.tmp 47], argTypes := _ }, type := _, pos := "law.go:78", after := _, guard := some (15, false) } : Oper)) rfl (fun K hK => ?_) AllReadyH.nil
          go_simp
          go_wp2_with (go_at_call 13; (refine (err_any R D l7 A7 n8 c7 _ e7 HR7.out).mono ?_; rintro en w' ⟨rfl, rfl⟩))
          refine hK.out _ _ ?_ (fun hHeld2 => ?_)
          · trivial
          clear hK K hHeld
          have hHeld := hHeld2
          clear hHeld2
          (try simp only [Act.put, List.setIfInBounds_toArray, List.set_cons_zero, List.set_cons_succ])
          refine wpAnyH_take (i := 22) (oi := ({ dst := some 53, op := Op.binOp BinOp.neq 36 (Operand.tmp 48) (Operand.tmp 52) 36, type := _, pos := "law.go:78", after := _, guard := some (15, false) } : Oper)) (v := ?_) rfl (by kernel_rfl) (by kernel_rfl) (by kernel_rfl) (fun _ _ _ h => h) (Or.inl ⟨by rfl, ?_⟩) hHeld ?_
          rotate_left
          · (intro w1 hSw; (try dsimp only at hSw); go_simp; all_goals with_reducible rfl)
          (try simp only [Act.put, List.setIfInBounds_toArray, List.set_cons_zero, List.set_cons_succ])
          refine wpAnyH_take (i := 23) (oi := ({ dst := some 54, op := Op.pick (Operand.tmp 46) (Operand.const (Value.bool true)) (Operand.tmp 53), type := _, pos := "law.go:78", after := _, guard := none } : Oper)) (v := ?_) rfl (by kernel_rfl) (by kernel_rfl) (by kernel_rfl) (fun _ _ _ h => h) (Or.inl ⟨by rfl, ?_⟩) hHeld ?_
          rotate_left
          · (intro w1 hSw; (try dsimp only at hSw); go_simp; all_goals with_reducible rfl)
          (try simp only [Act.put, List.setIfInBounds_toArray, List.set_cons_zero, List.set_cons_succ])
          refine wpAnyH_take (i := 24) (oi := ({ dst := some 55, op := Op.move (Operand.tmp 54), type := _, pos := "law.go:78", after := _, guard := none } : Oper)) (v := ?_) rfl (by kernel_rfl) (by kernel_rfl) (by kernel_rfl) (fun _ _ _ h => h) (Or.inl ⟨by rfl, ?_⟩) hHeld ?_
          rotate_left
          · (intro w1 hSw; (try dsimp only at hSw); go_simp; all_goals with_reducible rfl)
          (try simp only [Act.put, List.setIfInBounds_toArray, List.set_cons_zero, List.set_cons_succ])
          refine wpAnyH_take (i := 25) (oi := ({ dst := some 56, op := Op.move (Operand.tmp 5), type := _, pos := "law.go:78", after := _, guard := some (24, false) } : Oper)) (v := ?_) rfl (by kernel_rfl) (by kernel_rfl) (by kernel_rfl) (fun _ _ _ h => h) (Or.inl ⟨by rfl, ?_⟩) hHeld ?_
          rotate_left
          · (intro w1 hSw; (try dsimp only at hSw); go_simp; all_goals with_reducible rfl)
          (try simp only [Act.put, List.setIfInBounds_toArray, List.set_cons_zero, List.set_cons_succ])
          refine wpAnyH_take (i := 27) (oi := ({ dst := some 58, op := Op.move (Operand.tmp 6), type := _, pos := "law.go:78", after := _, guard := some (24, false) } : Oper)) (v := ?_) rfl (by kernel_rfl) (by kernel_rfl) (by kernel_rfl) (fun _ _ _ h => h) (Or.inl ⟨by rfl, ?_⟩) hHeld ?_
          rotate_left
          · (intro w1 hSw; (try dsimp only at hSw); go_simp; all_goals with_reducible rfl)
          (try simp only [Act.put, List.setIfInBounds_toArray, List.set_cons_zero, List.set_cons_succ])
          refine wpAnyH_ready (rs := [26]) (by kernel_rfl) (by simp) ?_
          refine AllReadyH.cons (o := ({ dst := some 57, op := Op.call { callee := Callee.value (Operand.func 14), args := #[Operand.tmp 56], argTypes := _ }, type := _, pos := "law.go:78", after := _, guard := some (24, false) } : Oper)) rfl (fun K hK => ?_) AllReadyH.nil
          go_simp
          go_wp2_with (go_at_call 14; (refine (finish_any R D l7 A7 n8 c7 _ e7 HR7.out).mono ?_; rintro en w' ⟨rfl, rfl⟩))
          refine hK.out _ _ ?_ (fun hHeld2 => ?_)
          · trivial
          clear hK K hHeld
          have hHeld := hHeld2
          clear hHeld2
          (try simp only [Act.put, List.setIfInBounds_toArray, List.set_cons_zero, List.set_cons_succ])
          refine wpAnyH_ready (rs := [28]) (by kernel_rfl) (by simp) ?_
          refine AllReadyH.cons (o := ({ dst := some 59, op := Op.call { callee := Callee.value (Operand.func 15), args := #[Operand.tmp 58], argTypes := _ }, type := _, pos := "law.go:78", after := _, guard := some (24, false) } : Oper)) rfl (fun K hK => ?_) AllReadyH.nil
          go_simp
          go_wp2_with (go_at_call 15; (refine (xfinish_any X g3 l7 A8 n8 c8 _ e7 HX8.out).mono ?_; rintro en w' ⟨rfl, rfl⟩))
          refine hK.out _ _ ?_ (fun hHeld2 => ?_)
          · trivial
          clear hK K hHeld
          have hHeld := hHeld2
          clear hHeld2
          (try simp only [Act.put, List.setIfInBounds_toArray, List.set_cons_zero, List.set_cons_succ])
          refine wpAnyH_take (i := 29) (oi := ({ dst := some 60, op := Op.binOp BinOp.neq 36 (Operand.tmp 57) (Operand.tmp 59) 36, type := _, pos := "law.go:78", after := _, guard := some (24, false) } : Oper)) (v := ?_) rfl (by kernel_rfl) (by kernel_rfl) (by kernel_rfl) (fun _ _ _ h => h) (Or.inl ⟨by rfl, ?_⟩) hHeld ?_
          rotate_left
          · (intro w1 hSw; (try dsimp only at hSw); go_simp; all_goals with_reducible rfl)
          (try simp only [Act.put, List.setIfInBounds_toArray, List.set_cons_zero, List.set_cons_succ])
          refine wpAnyH_take (i := 30) (oi := ({ dst := some 61, op := Op.pick (Operand.tmp 55) (Operand.const (Value.bool true)) (Operand.tmp 60), type := _, pos := "law.go:78", after := _, guard := none } : Oper)) (v := ?_) rfl (by kernel_rfl) (by kernel_rfl) (by kernel_rfl) (fun _ _ _ h => h) (Or.inl ⟨by rfl, ?_⟩) hHeld ?_
          rotate_left
          · (intro w1 hSw; (try dsimp only at hSw); go_simp; all_goals with_reducible rfl)
          (try simp only [Act.put, List.setIfInBounds_toArray, List.set_cons_zero, List.set_cons_succ])
          refine wpAnyH_done (by kernel_rfl) ?_ _
          refine NoPanic.normal ?_
          go_wp2
          go_roundw
          case rel => exact ⟨q + 1, by omega, by simp, HBr.out.trans (HB7.out.mono (Nat.le_refl _)), _, _, ⟨_, _, _, HR7.out⟩, _, _, _, HX8.out⟩
          case measure => simp [intOf]; omega
    · obtain rfl : q = m := by omega
      have HB5 := Lib.hid hb3
      clear hb3 hr5 hx6
      go_wp2_with (go_at_call 9; (refine (wbegun_any _).mono ?_; rintro en wz ⟨rfl, bz⟩))
      go_ret
      exact ⟨rfl, HB5.out.trans (bz.mono HB5.out.size)⟩
end Go.Proofs.Ythfimcbjbkbcjaa
