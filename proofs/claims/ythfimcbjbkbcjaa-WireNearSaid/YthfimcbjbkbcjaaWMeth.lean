/- The reader's methods of package wire: what they return. -/
import Derived.Test.YthfimcbjbkbcjaaWValue
namespace Go.Proofs.Ythfimcbjbkbcjaa
open Go.RowKit

/-- A method returns val; behind it l' is left and e' the first error. -/
def Meth (R D : Nat) (val : Value) (l' : List Nat) (e' : Int) (w : World) (en : Ending) (w' : World) : Prop := en = .returned val ∧ w.grownBy w' (some R) ∧ ∃ A' n' cap', RdAt w' R D l' e' A' n' cap'
/-- The same, and val holds the bytes x. -/
def MethB (R D : Nat) (x l' : List Nat) (e' : Int) (w : World) (en : Ending) (w' : World) : Prop := ∃ val, NewL w x val w' ∧ Meth R D val l' e' w en w'
theorem make_func (fn : Fn) (first cap : Array Value) (w : World) : (Instr.makeFunc fn first cap).run Try.prog w = .ok (.func fn first cap) w := rfl
section
variable (R D : Nat) (l : List Nat) (A : Option Addr) (n cap : Nat) (w : World)
theorem two_kept {w w1 : World} {R : Nat} (hR : R < w.heap.size) {o1 o2 : Array Value} {t1 t2 : TypeId} (hg : ((w.alloc (.cells o1 t1)).alloc (.cells o2 t2)).grownBy w1 (some R)) :
    (∀ i, w1.cell? ⟨w.heap.size, i, none⟩ = o1[i]?) ∧ (∀ i, w1.frozen? ⟨w.heap.size, i, none⟩ = false) ∧ (∀ i, w1.cell? ⟨w.heap.size + 1, i, none⟩ = o2[i]?) ∧ (∀ i, w1.frozen? ⟨w.heap.size + 1, i, none⟩ = false) ∧ w.heap.size + 1 < w1.heap.size := by
  have hs := hg.size
  simp only [World.size_alloc] at hs
  refine ⟨fun i => ?_, fun i => ?_, fun i => ?_, fun i => ?_, by omega⟩
  · rw [cell_kept hg (by simp only [World.size_alloc]; omega) (by simp; omega), World.cell?_alloc_past _ _ _ (by simp), World.cell?_alloc_new]
  · rw [frozen_kept hg (by simp only [World.size_alloc]; omega) (by simp; omega), World.frozen?_alloc_past _ _ _ (by simp), World.frozen?_alloc_new]
  · rw [cell_kept hg (by simp only [World.size_alloc]; omega) (by simp; omega)]
    have := World.cell?_alloc_new (w.alloc (.cells o1 t1)) o2 t2 i
    rwa [World.size_alloc] at this
  · rw [frozen_kept hg (by simp only [World.size_alloc]; omega) (by simp; omega)]
    have := World.frozen?_alloc_new (w.alloc (.cells o1 t1)) o2 t2 i
    rwa [World.size_alloc] at this
theorem att_err (fv : Value) (e : Int) (he : (e == 0) = false) (hR : RdAt w R D l e A n cap) : Calls Try.prog 49 #[.pointer (some ⟨R, 0, none⟩), fv] w fun en w' => en = .returned (.agg #[.int .u64 0, .int .u64 0]) ∧ Below w.heap.size w w' := by
  have hc1 := hR.c1
  have hlt := hR.lt
  have hlt1 : R < w.heap.size + 1 := by omega
  clear hR
  go_enter Try.func49, Try.ntmps49
  go_wp2
  refine bodyPost_ret (v := .agg #[.int .u64 0, .int .u64 0]) (by simp [results, Try.results49, go_sem]) rfl ⟨rfl, ?_⟩
  exact ((Below.refl _ _).alloc (by simp) _).alloc (by simp) _
theorem att_bad (c : Int) (hc : (c == 0) = false) (hR : RdAt w R D l 0 A n cap) (hB : ∀ W, RdAt W R D l 0 A n cap → Calls Try.prog 50 #[.pointer (some ⟨R, 0, none⟩)] W (BadV R D c W)) :
    Calls Try.prog 49 #[.pointer (some ⟨R, 0, none⟩), .func (Fn.func 50) #[.pointer (some ⟨R, 0, none⟩)] #[]] w (Meth R D (.agg #[.int .u64 0, .int .u64 0]) l c w) := by
  have hc0 := hR.c0
  have hc1 := hR.c1
  have hlt := hR.lt
  have hlt1 : R < w.heap.size + 1 := by omega
  have r1 : w.heap.size ≠ R := by omega
  have r2 : w.heap.size + 1 ≠ R := by omega
  have r3 : R ≠ w.heap.size := by omega
  have r4 : R ≠ w.heap.size + 1 := by omega
  have r5 : w.heap.size ≠ D := by have := hR.dlt; omega
  have hg0 : w.grownBy ((w.alloc (.cells #[.int .u64 0, .int .u64 0] 26)).alloc (.cells #[.int .u64 0, .int .u64 0] 26)) (some R) := grown_alloc' (grown_alloc _ _ _) _
  have HA := Lib.hid (hR.kept (w' := (w.alloc (.cells #[.int .u64 0, .int .u64 0] 26)).alloc (.cells #[.int .u64 0, .int .u64 0] 26)) (row := none) (grown_alloc' (grown_alloc _ _ _) _) (by simp) (by simp))
  have HB := Lib.hid hB
  clear hR hB
  go_enter Try.func49, Try.ntmps49
  go_wp2_with (go_at_call 50; (refine (HB.out _ HA.out).mono ?_; rintro e w1 ⟨rfl, hg1, l1, A1, n1, cap1, hR1⟩; have HR1 := Lib.hid hR1; have k0 := hR1.c0; have k1 := hR1.c1; have k2 := hR1.f0; have k3 := hR1.f1; have k4 := hR1.lt; clear hR1; obtain ⟨z1, z2, z3, z4, z5⟩ := two_kept hlt hg1; have z10 := z1 0; have z11 := z1 1; have z20 := z2 0; have z21 := z2 1; have z30 := z3 0; have z31 := z3 1; have z6 : w.heap.size < w1.heap.size := (by omega); clear z1 z2 z3 z4; simp only [List.getElem?_toArray, List.getElem?_cons_zero, List.getElem?_cons_succ] at z10 z11 z30 z31))
  refine bodyPost_ret (v := .agg #[.int .u64 0, .int .u64 0]) (by simp [results, Try.results49, go_sem, z6, z10, z11]) rfl ⟨rfl, ?_, _, _, _, (((HA.out.back hg1 HR1.out c).far r1 r5 _).far r1 r5 _).kept (row := none) (grown_alloc _ _ none) (by simp) (by simp)⟩
  exact grown_alloc' (grown_new (grown_new ((hg0.trans hg1).trans ((grown_set _ R 0 _).trans (grown_set _ R 1 _))) (Nat.le_refl _) _) (Nat.le_refl _) _) _
theorem att_good (u : Nat) (l' : List Nat) (hR : RdAt w R D l 0 A n cap) (hB : ∀ W, RdAt W R D l 0 A n cap → Calls Try.prog 50 #[.pointer (some ⟨R, 0, none⟩)] W (Good R D (.agg #[.int .u64 (hi u), .int .u64 (lo u)]) l' W)) :
    Calls Try.prog 49 #[.pointer (some ⟨R, 0, none⟩), .func (Fn.func 50) #[.pointer (some ⟨R, 0, none⟩)] #[]] w (Meth R D (.agg #[.int .u64 (hi u), .int .u64 (lo u)]) l' 0 w) := by
  have hc0 := hR.c0
  have hc1 := hR.c1
  have hlt := hR.lt
  have hlt1 : R < w.heap.size + 1 := by omega
  have r1 : w.heap.size ≠ R := by omega
  have r2 : w.heap.size + 1 ≠ R := by omega
  have r3 : R ≠ w.heap.size := by omega
  have r4 : R ≠ w.heap.size + 1 := by omega
  have r5 : w.heap.size ≠ D := by have := hR.dlt; omega
  have hg0 : w.grownBy ((w.alloc (.cells #[.int .u64 0, .int .u64 0] 26)).alloc (.cells #[.int .u64 0, .int .u64 0] 26)) (some R) := grown_alloc' (grown_alloc _ _ _) _
  have HA := Lib.hid (hR.kept (w' := (w.alloc (.cells #[.int .u64 0, .int .u64 0] 26)).alloc (.cells #[.int .u64 0, .int .u64 0] 26)) (row := none) (grown_alloc' (grown_alloc _ _ _) _) (by simp) (by simp))
  have HB := Lib.hid hB
  clear hR hB
  go_enter Try.func49, Try.ntmps49
  go_wp2_with (go_at_call 50; (refine (HB.out _ HA.out).mono ?_; rintro e w1 ⟨rfl, hg1, A1, n1, cap1, hR1⟩; have HR1 := Lib.hid hR1; clear hR1; obtain ⟨z1, z2, z3, z4, z5⟩ := two_kept hlt hg1; have z10 := z1 0; have z11 := z1 1; have z20 := z2 0; have z21 := z2 1; have z6 : w.heap.size < w1.heap.size := (by omega); clear z1 z2 z3 z4; simp only [List.getElem?_toArray, List.getElem?_cons_zero, List.getElem?_cons_succ] at z10 z11))
  refine bodyPost_ret (v := .agg #[.int .u64 (hi u), .int .u64 (lo u)]) (by simp [results, Try.results49, go_sem, z6, z10, z11]) rfl ⟨rfl, ?_, _, _, _, ((HR1.out.far r1 r5 _).far r1 r5 _).kept (row := none) (grown_alloc _ _ none) (by simp) (by simp)⟩
  exact grown_alloc' (grown_new (grown_new (hg0.trans hg1) (Nat.le_refl _) _) (Nat.le_refl _) _) _
theorem one_kept {w w1 : World} {row : Option Nat} {o1 : Array Value} {t1 : TypeId} (hr : row ≠ some w.heap.size) (hg : (w.alloc (.cells o1 t1)).grownBy w1 row) :
    (∀ i, w1.cell? ⟨w.heap.size, i, none⟩ = o1[i]?) ∧ (∀ i, w1.frozen? ⟨w.heap.size, i, none⟩ = false) ∧ w.heap.size < w1.heap.size := by
  have hs := hg.size
  simp only [World.size_alloc] at hs
  refine ⟨fun i => ?_, fun i => ?_, by omega⟩
  · rw [cell_kept hg (by simp only [World.size_alloc]; omega) (Ne.symm hr), World.cell?_alloc_new]
  · rw [frozen_kept hg (by simp only [World.size_alloc]; omega) (Ne.symm hr), World.frozen?_alloc_new]
theorem value_meth (val : Nat) (l' : List Nat) (e e' : Int) (hR : RdAt w R D l e A n cap) (hB : ∀ W, RdAt W R D l e A n cap → Calls Try.prog 49 #[.pointer (some ⟨R, 0, none⟩), .func (Fn.func 50) #[.pointer (some ⟨R, 0, none⟩)] #[]] W (Meth R D (.agg #[.int .u64 (hi val), .int .u64 (lo val)]) l' e' W)) :
    Calls Try.prog 24 #[.pointer (some ⟨R, 0, none⟩)] w (Meth R D (valOf val) l' e' w) := by
  have hlt := hR.lt
  have r1 : w.heap.size ≠ R := by omega
  have r3 : R ≠ w.heap.size := by omega
  have r5 : w.heap.size ≠ D := by have := hR.dlt; omega
  have HA := Lib.hid (hR.kept (w' := w.alloc (.cells #[.int .u64 0, .int .u64 0] 26)) (row := none) (grown_alloc _ _ _) (by simp) (by simp))
  have HB := Lib.hid hB
  clear hR hB
  have hmf := make_func
  go_enter Try.func24, Try.ntmps24
  go_wp2_with (go_at_call 49; (refine (HB.out _ HA.out).mono ?_; rintro e w1 ⟨rfl, hg1, A1, n1, cap1, hR1⟩; have HR1 := Lib.hid hR1; clear hR1; obtain ⟨z1, z2, z6⟩ := one_kept (by simpa using r3) hg1; have z10 := z1 0; have z11 := z1 1; have z20 := z2 0; have z21 := z2 1; clear z1 z2; simp only [List.getElem?_toArray, List.getElem?_cons_zero, List.getElem?_cons_succ] at z10 z11))
  refine bodyPost_ret (v := valOf val) (by simp [results, Try.results24, go_sem, z10, z11, valOf]) rfl ⟨rfl, ?_, _, _, _, (HR1.out.far r1 r5 _).far r1 r5 _⟩
  exact grown_new (grown_new ((grown_alloc w _ (some R)).trans hg1) (Nat.le_refl _) _) (Nat.le_refl _) _
theorem value_err (e : Int) (he : (e == 0) = false) (hR : RdAt w R D l e A n cap) : Calls Try.prog 24 #[.pointer (some ⟨R, 0, none⟩)] w (Meth R D (valOf 0) l e w) :=
  value_meth R D l A n cap w 0 l e e hR fun W hW => (att_err R D l A n cap W _ e he hW).mono fun _ _ ⟨h1, h2⟩ => ⟨h1, grown_of_below h2 _, _, _, _, hW.kept (grown_of_below h2 none) (by simp) (by simp)⟩
theorem value_bad (c : Int) (hc : (c == 0) = false) (hR : RdAt w R D l 0 A n cap) (hB : ∀ W, RdAt W R D l 0 A n cap → Calls Try.prog 50 #[.pointer (some ⟨R, 0, none⟩)] W (BadV R D c W)) : Calls Try.prog 24 #[.pointer (some ⟨R, 0, none⟩)] w (Meth R D (valOf 0) l c w) :=
  value_meth R D l A n cap w 0 l 0 c hR fun W hW => att_bad R D l A n cap W c hc hW hB
theorem value_good (u : Nat) (l' : List Nat) (hR : RdAt w R D l 0 A n cap) (hB : ∀ W, RdAt W R D l 0 A n cap → Calls Try.prog 50 #[.pointer (some ⟨R, 0, none⟩)] W (Good R D (valOf u) l' W)) : Calls Try.prog 24 #[.pointer (some ⟨R, 0, none⟩)] w (Meth R D (valOf u) l' 0 w) :=
  value_meth R D l A n cap w u l' 0 0 hR fun W hW => att_good R D l A n cap W u l' hW hB
theorem uint_err (k : Int) (e : Int) (he : (e == 0) = false) (hR : RdAt w R D l e A n cap) : Calls Try.prog 16 #[.pointer (some ⟨R, 0, none⟩), .int .i64 k] w (Meth R D (.int .i64 0) l e w) := by
  have hc1 := hR.c1
  have hlt := hR.lt
  have HR := Lib.hid hR
  clear hR
  have hmf := make_func
  go_enter Try.func16, Try.ntmps16
  go_wp2
  go_ret
  exact ⟨rfl, grown_alloc' (grown_alloc _ _ _) _, _, _, _, HR.out.kept (row := none) (grown_alloc' (grown_alloc _ _ _) _) (by simp) (by simp)⟩
theorem uint_bad (k : Int) (c : Int) (hc : (c == 0) = false) (hR : RdAt w R D l 0 A n cap) (hB : ∀ W, RdAt W R D l 0 A n cap → Calls Try.prog 40 #[.pointer (some ⟨R, 0, none⟩), .int .i64 k] W (Bad R D c W)) : Calls Try.prog 16 #[.pointer (some ⟨R, 0, none⟩), .int .i64 k] w (Meth R D (.int .i64 0) l c w) := by
  have hc0 := hR.c0
  have hc1 := hR.c1
  have hlt := hR.lt
  have HR := Lib.hid hR
  have HB := Lib.hid hB
  have hg0 : w.grownBy ((w.alloc (.cells #[.func (Fn.func 40) #[.pointer (some ⟨R, 0, none⟩)] #[]] 58)).alloc (.cells #[.int .i64 k] 3)) (some R) := grown_alloc' (grown_alloc _ _ _) _
  have HA := Lib.hid (hR.kept (w' := ((w.alloc (.cells #[.func (Fn.func 40) #[.pointer (some ⟨R, 0, none⟩)] #[]] 58)).alloc (.cells #[.int .i64 k] 3))) (row := none) (grown_alloc' (grown_alloc _ _ _) _) (by simp) (by simp))
  clear hR hB
  have hmf := make_func
  go_enter Try.func16, Try.ntmps16
  go_wp2_with (first | (go_at_call 40; refine (HB.out _ HA.out).mono ?_; rintro e w1 ⟨x, rfl, hg1, l1, A1, n1, cap1, hR1⟩; have HR1 := Lib.hid hR1; have k0 := hR1.c0; have k1 := hR1.c1; have k2 := hR1.f0; have k3 := hR1.f1; clear hR1) | go_in)
  go_ret
  exact ⟨rfl, (hg0.trans hg1).trans ((grown_set _ R 0 _).trans (grown_set _ R 1 _)), _, _, _, HA.out.back hg1 HR1.out c⟩
theorem uint_good (k : Int) (v : Int) (l' : List Nat) (hR : RdAt w R D l 0 A n cap) (hG : ∀ W, RdAt W R D l 0 A n cap → Calls Try.prog 40 #[.pointer (some ⟨R, 0, none⟩), .int .i64 k] W (Good R D (.int .i64 v) l' W)) : Calls Try.prog 16 #[.pointer (some ⟨R, 0, none⟩), .int .i64 k] w (Meth R D (.int .i64 v) l' 0 w) := by
  have hc0 := hR.c0
  have hc1 := hR.c1
  have hlt := hR.lt
  have HG := Lib.hid hG
  have hg0 : w.grownBy ((w.alloc (.cells #[.func (Fn.func 40) #[.pointer (some ⟨R, 0, none⟩)] #[]] 58)).alloc (.cells #[.int .i64 k] 3)) (some R) := grown_alloc' (grown_alloc _ _ _) _
  have HA := Lib.hid (hR.kept (w' := ((w.alloc (.cells #[.func (Fn.func 40) #[.pointer (some ⟨R, 0, none⟩)] #[]] 58)).alloc (.cells #[.int .i64 k] 3))) (row := none) (grown_alloc' (grown_alloc _ _ _) _) (by simp) (by simp))
  clear hR hG
  have hmf := make_func
  go_enter Try.func16, Try.ntmps16
  go_wp2_with (first | (go_at_call 40; refine (HG.out _ HA.out).mono ?_; rintro e w1 ⟨rfl, hg1, A1, n1, cap1, hR1⟩; have HR1 := Lib.hid hR1; clear hR1) | go_in)
  go_ret
  exact ⟨rfl, hg0.trans hg1, _, _, _, HR1.out⟩
theorem count_err (most : Int) (e : Int) (he : (e == 0) = false) (hR : RdAt w R D l e A n cap) : Calls Try.prog 30 #[.pointer (some ⟨R, 0, none⟩), .int .i64 most] w (Meth R D (.int .i64 0) l e w) := by
  have hc1 := hR.c1
  have hlt := hR.lt
  have HR := Lib.hid hR
  clear hR
  have hmf := make_func
  go_enter Try.func30, Try.ntmps30
  go_wp2
  go_ret
  exact ⟨rfl, grown_alloc' (grown_alloc _ _ _) _, _, _, _, HR.out.kept (row := none) (grown_alloc' (grown_alloc _ _ _) _) (by simp) (by simp)⟩
theorem count_bad (most : Int) (c : Int) (hc : (c == 0) = false) (hR : RdAt w R D l 0 A n cap) (hB : ∀ W, RdAt W R D l 0 A n cap → Calls Try.prog 56 #[.pointer (some ⟨R, 0, none⟩), .int .i64 most] W (Bad R D c W)) : Calls Try.prog 30 #[.pointer (some ⟨R, 0, none⟩), .int .i64 most] w (Meth R D (.int .i64 0) l c w) := by
  have hc0 := hR.c0
  have hc1 := hR.c1
  have hlt := hR.lt
  have HR := Lib.hid hR
  have HB := Lib.hid hB
  have hg0 : w.grownBy ((w.alloc (.cells #[.func (Fn.func 56) #[.pointer (some ⟨R, 0, none⟩)] #[]] 58)).alloc (.cells #[.int .i64 most] 3)) (some R) := grown_alloc' (grown_alloc _ _ _) _
  have HA := Lib.hid (hR.kept (w' := ((w.alloc (.cells #[.func (Fn.func 56) #[.pointer (some ⟨R, 0, none⟩)] #[]] 58)).alloc (.cells #[.int .i64 most] 3))) (row := none) (grown_alloc' (grown_alloc _ _ _) _) (by simp) (by simp))
  clear hR hB
  have hmf := make_func
  go_enter Try.func30, Try.ntmps30
  go_wp2_with (first | (go_at_call 56; refine (HB.out _ HA.out).mono ?_; rintro e w1 ⟨x, rfl, hg1, l1, A1, n1, cap1, hR1⟩; have HR1 := Lib.hid hR1; have k0 := hR1.c0; have k1 := hR1.c1; have k2 := hR1.f0; have k3 := hR1.f1; clear hR1) | go_in)
  go_ret
  exact ⟨rfl, (hg0.trans hg1).trans ((grown_set _ R 0 _).trans (grown_set _ R 1 _)), _, _, _, HA.out.back hg1 HR1.out c⟩
theorem count_good (most : Int) (v : Int) (l' : List Nat) (hR : RdAt w R D l 0 A n cap) (hG : ∀ W, RdAt W R D l 0 A n cap → Calls Try.prog 56 #[.pointer (some ⟨R, 0, none⟩), .int .i64 most] W (Good R D (.int .i64 v) l' W)) : Calls Try.prog 30 #[.pointer (some ⟨R, 0, none⟩), .int .i64 most] w (Meth R D (.int .i64 v) l' 0 w) := by
  have hc0 := hR.c0
  have hc1 := hR.c1
  have hlt := hR.lt
  have HG := Lib.hid hG
  have hg0 : w.grownBy ((w.alloc (.cells #[.func (Fn.func 56) #[.pointer (some ⟨R, 0, none⟩)] #[]] 58)).alloc (.cells #[.int .i64 most] 3)) (some R) := grown_alloc' (grown_alloc _ _ _) _
  have HA := Lib.hid (hR.kept (w' := ((w.alloc (.cells #[.func (Fn.func 56) #[.pointer (some ⟨R, 0, none⟩)] #[]] 58)).alloc (.cells #[.int .i64 most] 3))) (row := none) (grown_alloc' (grown_alloc _ _ _) _) (by simp) (by simp))
  clear hR hG
  have hmf := make_func
  go_enter Try.func30, Try.ntmps30
  go_wp2_with (first | (go_at_call 56; refine (HG.out _ HA.out).mono ?_; rintro e w1 ⟨rfl, hg1, A1, n1, cap1, hR1⟩; have HR1 := Lib.hid hR1; clear hR1) | go_in)
  go_ret
  exact ⟨rfl, hg0.trans hg1, _, _, _, HR1.out⟩
theorem bytes_err (most : Int) (e : Int) (he : (e == 0) = false) (hR : RdAt w R D l e A n cap) : Calls Try.prog 20 #[.pointer (some ⟨R, 0, none⟩), .int .i64 most] w (Meth R D (.slice none 0 0) l e w) := by
  have hc1 := hR.c1
  have hlt := hR.lt
  have HR := Lib.hid hR
  clear hR
  have hmf := make_func
  go_enter Try.func20, Try.ntmps20
  go_wp2
  go_ret
  exact ⟨rfl, grown_alloc' (grown_alloc _ _ _) _, _, _, _, HR.out.kept (row := none) (grown_alloc' (grown_alloc _ _ _) _) (by simp) (by simp)⟩
theorem bytes_bad (most : Int) (c : Int) (hc : (c == 0) = false) (hR : RdAt w R D l 0 A n cap) (hB : ∀ W, RdAt W R D l 0 A n cap → Calls Try.prog 45 #[.pointer (some ⟨R, 0, none⟩), .int .i64 most] W (Bad R D c W)) : Calls Try.prog 20 #[.pointer (some ⟨R, 0, none⟩), .int .i64 most] w (Meth R D (.slice none 0 0) l c w) := by
  have hc0 := hR.c0
  have hc1 := hR.c1
  have hlt := hR.lt
  have HR := Lib.hid hR
  have HB := Lib.hid hB
  have hg0 : w.grownBy ((w.alloc (.cells #[.func (Fn.func 45) #[.pointer (some ⟨R, 0, none⟩)] #[]] 63)).alloc (.cells #[.int .i64 most] 3)) (some R) := grown_alloc' (grown_alloc _ _ _) _
  have HA := Lib.hid (hR.kept (w' := ((w.alloc (.cells #[.func (Fn.func 45) #[.pointer (some ⟨R, 0, none⟩)] #[]] 63)).alloc (.cells #[.int .i64 most] 3))) (row := none) (grown_alloc' (grown_alloc _ _ _) _) (by simp) (by simp))
  clear hR hB
  have hmf := make_func
  go_enter Try.func20, Try.ntmps20
  go_wp2_with (first | (go_at_call 45; refine (HB.out _ HA.out).mono ?_; rintro e w1 ⟨x, rfl, hg1, l1, A1, n1, cap1, hR1⟩; have HR1 := Lib.hid hR1; have k0 := hR1.c0; have k1 := hR1.c1; have k2 := hR1.f0; have k3 := hR1.f1; clear hR1) | go_in)
  go_ret
  exact ⟨rfl, (hg0.trans hg1).trans ((grown_set _ R 0 _).trans (grown_set _ R 1 _)), _, _, _, HA.out.back hg1 HR1.out c⟩
theorem bytes_good (most : Int) (x : List Nat) (l' : List Nat) (hR : RdAt w R D l 0 A n cap) (hG : ∀ W, RdAt W R D l 0 A n cap → Calls Try.prog 45 #[.pointer (some ⟨R, 0, none⟩), .int .i64 most] W (GoodB R D x l' W)) : Calls Try.prog 20 #[.pointer (some ⟨R, 0, none⟩), .int .i64 most] w (MethB R D x l' 0 w) := by
  have hc0 := hR.c0
  have hc1 := hR.c1
  have hlt := hR.lt
  have HG := Lib.hid hG
  have hg0 : w.grownBy ((w.alloc (.cells #[.func (Fn.func 45) #[.pointer (some ⟨R, 0, none⟩)] #[]] 63)).alloc (.cells #[.int .i64 most] 3)) (some R) := grown_alloc' (grown_alloc _ _ _) _
  have HA := Lib.hid (hR.kept (w' := ((w.alloc (.cells #[.func (Fn.func 45) #[.pointer (some ⟨R, 0, none⟩)] #[]] 63)).alloc (.cells #[.int .i64 most] 3))) (row := none) (grown_alloc' (grown_alloc _ _ _) _) (by simp) (by simp))
  clear hR hG
  have hmf := make_func
  go_enter Try.func20, Try.ntmps20
  go_wp2_with (first | (go_at_call 45; refine (HG.out _ HA.out).mono ?_; rintro e w1 ⟨val, ⟨A2, n2, cap2, g2, rfl, hn2, hlg, hr2, hc2, hm2⟩, rfl, hg1, A1, n1, cap1, hR1⟩; have HR1 := Lib.hid hR1; clear hR1) | go_in)
  go_ret
  exact ⟨_, ⟨_, _, _, g2, rfl, hn2, Nat.le_trans hg0.size hlg, hr2, hc2, hm2⟩, rfl, hg0.trans hg1, _, _, _, HR1.out⟩
theorem text_err (most : Int) (e : Int) (he : (e == 0) = false) (hR : RdAt w R D l e A n cap) : Calls Try.prog 22 #[.pointer (some ⟨R, 0, none⟩), .int .i64 most] w (Meth R D (.string ⟨#[]⟩) l e w) := by
  have hc1 := hR.c1
  have hlt := hR.lt
  have HR := Lib.hid hR
  clear hR
  have hmf := make_func
  go_enter Try.func22, Try.ntmps22
  go_wp2
  go_ret
  exact ⟨rfl, grown_alloc' (grown_alloc _ _ _) _, _, _, _, HR.out.kept (row := none) (grown_alloc' (grown_alloc _ _ _) _) (by simp) (by simp)⟩
theorem text_bad (most : Int) (c : Int) (hc : (c == 0) = false) (hR : RdAt w R D l 0 A n cap) (hB : ∀ W, RdAt W R D l 0 A n cap → Calls Try.prog 47 #[.pointer (some ⟨R, 0, none⟩), .int .i64 most] W (Bad R D c W)) : Calls Try.prog 22 #[.pointer (some ⟨R, 0, none⟩), .int .i64 most] w (Meth R D (.string ⟨#[]⟩) l c w) := by
  have hc0 := hR.c0
  have hc1 := hR.c1
  have hlt := hR.lt
  have HR := Lib.hid hR
  have HB := Lib.hid hB
  have hg0 : w.grownBy ((w.alloc (.cells #[.func (Fn.func 47) #[.pointer (some ⟨R, 0, none⟩)] #[]] 65)).alloc (.cells #[.int .i64 most] 3)) (some R) := grown_alloc' (grown_alloc _ _ _) _
  have HA := Lib.hid (hR.kept (w' := ((w.alloc (.cells #[.func (Fn.func 47) #[.pointer (some ⟨R, 0, none⟩)] #[]] 65)).alloc (.cells #[.int .i64 most] 3))) (row := none) (grown_alloc' (grown_alloc _ _ _) _) (by simp) (by simp))
  clear hR hB
  have hmf := make_func
  go_enter Try.func22, Try.ntmps22
  go_wp2_with (first | (go_at_call 47; refine (HB.out _ HA.out).mono ?_; rintro e w1 ⟨x, rfl, hg1, l1, A1, n1, cap1, hR1⟩; have HR1 := Lib.hid hR1; have k0 := hR1.c0; have k1 := hR1.c1; have k2 := hR1.f0; have k3 := hR1.f1; clear hR1) | go_in)
  go_ret
  exact ⟨rfl, (hg0.trans hg1).trans ((grown_set _ R 0 _).trans (grown_set _ R 1 _)), _, _, _, HA.out.back hg1 HR1.out c⟩
theorem text_good (most : Int) (s : ByteArray) (l' : List Nat) (hR : RdAt w R D l 0 A n cap) (hG : ∀ W, RdAt W R D l 0 A n cap → Calls Try.prog 47 #[.pointer (some ⟨R, 0, none⟩), .int .i64 most] W (Good R D (.string s) l' W)) : Calls Try.prog 22 #[.pointer (some ⟨R, 0, none⟩), .int .i64 most] w (Meth R D (.string s) l' 0 w) := by
  have hc0 := hR.c0
  have hc1 := hR.c1
  have hlt := hR.lt
  have HG := Lib.hid hG
  have hg0 : w.grownBy ((w.alloc (.cells #[.func (Fn.func 47) #[.pointer (some ⟨R, 0, none⟩)] #[]] 65)).alloc (.cells #[.int .i64 most] 3)) (some R) := grown_alloc' (grown_alloc _ _ _) _
  have HA := Lib.hid (hR.kept (w' := ((w.alloc (.cells #[.func (Fn.func 47) #[.pointer (some ⟨R, 0, none⟩)] #[]] 65)).alloc (.cells #[.int .i64 most] 3))) (row := none) (grown_alloc' (grown_alloc _ _ _) _) (by simp) (by simp))
  clear hR hG
  have hmf := make_func
  go_enter Try.func22, Try.ntmps22
  go_wp2_with (first | (go_at_call 47; refine (HG.out _ HA.out).mono ?_; rintro e w1 ⟨rfl, hg1, A1, n1, cap1, hR1⟩; have HR1 := Lib.hid hR1; clear hR1) | go_in)
  go_ret
  exact ⟨rfl, hg0.trans hg1, _, _, _, HR1.out⟩
theorem bool_err (e : Int) (he : (e == 0) = false) (hR : RdAt w R D l e A n cap) : Calls Try.prog 18 #[.pointer (some ⟨R, 0, none⟩)] w (Meth R D (.bool false) l e w) := by
  have hc1 := hR.c1
  have hlt := hR.lt
  have HR := Lib.hid hR
  clear hR
  have hmf := make_func
  go_enter Try.func18, Try.ntmps18
  go_wp2
  go_ret
  exact ⟨rfl, World.grownBy.refl _ _, _, _, _, HR.out.kept (row := none) (World.grownBy.refl _ _) (by simp) (by simp)⟩
theorem bool_bad (c : Int) (hc : (c == 0) = false) (hR : RdAt w R D l 0 A n cap) (hB : ∀ W, RdAt W R D l 0 A n cap → Calls Try.prog 43 #[.pointer (some ⟨R, 0, none⟩)] W (Bad R D c W)) : Calls Try.prog 18 #[.pointer (some ⟨R, 0, none⟩)] w (Meth R D (.bool false) l c w) := by
  have hc0 := hR.c0
  have hc1 := hR.c1
  have hlt := hR.lt
  have HR := Lib.hid hR
  have HB := Lib.hid hB
  have hg0 : w.grownBy w (some R) := World.grownBy.refl _ _
  have HA := Lib.hid (hR.kept (w' := w) (row := none) (World.grownBy.refl _ _) (by simp) (by simp))
  clear hR hB
  have hmf := make_func
  go_enter Try.func18, Try.ntmps18
  go_wp2_with (first | (go_at_call 43; refine (HB.out _ HA.out).mono ?_; rintro e w1 ⟨x, rfl, hg1, l1, A1, n1, cap1, hR1⟩; have HR1 := Lib.hid hR1; have k0 := hR1.c0; have k1 := hR1.c1; have k2 := hR1.f0; have k3 := hR1.f1; clear hR1) | go_in)
  go_ret
  exact ⟨rfl, (hg0.trans hg1).trans ((grown_set _ R 0 _).trans (grown_set _ R 1 _)), _, _, _, HA.out.back hg1 HR1.out c⟩
theorem bool_good (b : Bool) (l' : List Nat) (hR : RdAt w R D l 0 A n cap) (hG : ∀ W, RdAt W R D l 0 A n cap → Calls Try.prog 43 #[.pointer (some ⟨R, 0, none⟩)] W (Good R D (.bool b) l' W)) : Calls Try.prog 18 #[.pointer (some ⟨R, 0, none⟩)] w (Meth R D (.bool b) l' 0 w) := by
  have hc0 := hR.c0
  have hc1 := hR.c1
  have hlt := hR.lt
  have HG := Lib.hid hG
  have hg0 : w.grownBy w (some R) := World.grownBy.refl _ _
  have HA := Lib.hid (hR.kept (w' := w) (row := none) (World.grownBy.refl _ _) (by simp) (by simp))
  clear hR hG
  have hmf := make_func
  go_enter Try.func18, Try.ntmps18
  go_wp2_with (first | (go_at_call 43; refine (HG.out _ HA.out).mono ?_; rintro e w1 ⟨rfl, hg1, A1, n1, cap1, hR1⟩; have HR1 := Lib.hid hR1; clear hR1) | go_in)
  go_ret
  exact ⟨rfl, hg0.trans hg1, _, _, _, HR1.out⟩
end
end Go.Proofs.Ythfimcbjbkbcjaa
