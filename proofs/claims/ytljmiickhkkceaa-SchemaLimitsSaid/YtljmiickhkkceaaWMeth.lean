/- The reader's methods of package wire: what they return. -/
import Derived.Test.YtljmiickhkkceaaJRead
namespace Go.Proofs.Ytljmiickhkkceaa
open Go.RowKit

/-- A method returns val; behind it l' is left and e' the first error. -/
def Meth (R D : Nat) (val : Value) (l' : List Nat) (e' : Int) (w : World) (en : Ending) (w' : World) : Prop := en = .returned val ∧ w.grownBy w' (some R) ∧ ∃ A' n' cap', RdAt w' R D l' e' A' n' cap'
/-- The same, and val holds the bytes x. -/
def MethB (R D : Nat) (x l' : List Nat) (e' : Int) (w : World) (en : Ending) (w' : World) : Prop := ∃ val, NewL w x val w' ∧ Meth R D val l' e' w en w'
set_option maxRecDepth 100000 in
theorem make_func (fn : Fn) (first cap : Array Value) (w : World) : (Instr.makeFunc fn first cap).run Try.prog w = .ok (.func fn first cap) w := rfl
section
variable (R D : Nat) (l : List Nat) (A : Option Addr) (n cap : Nat) (w : World)
set_option maxRecDepth 100000 in
theorem two_kept {w w1 : World} {R : Nat} (hR : R < w.heap.size) {o1 o2 : Array Value} {t1 t2 : TypeId} (hg : ((w.alloc (.cells o1 t1)).alloc (.cells o2 t2)).grownBy w1 (some R)) :
    (∀ i, w1.cell? ⟨w.heap.size, i, none⟩ = o1[i]?) ∧ (∀ i, w1.frozen? ⟨w.heap.size, i, none⟩ = false) ∧ (∀ i, w1.cell? ⟨w.heap.size + 1, i, none⟩ = o2[i]?) ∧ (∀ i, w1.frozen? ⟨w.heap.size + 1, i, none⟩ = false) ∧ w.heap.size + 1 < w1.heap.size := by
  have hs := hg.size
  simp only [World.size_alloc] at hs
  refine ⟨fun i => ?_, fun i => ?_, fun i => ?_, fun i => ?_, by omega⟩
  · rw [cell_kept hg (by simp only [World.size_alloc]; omega) (by simp; omega), World.cell?_alloc_past _ _ _ (by simp), World.cell?_alloc_new]
  · rw [frozen_kept hg (by simp only [World.size_alloc]; omega) (by simp; omega), World.frozen?_alloc_past _ _ _ (by simp), World.frozen?_alloc_new]
  · rw [cell_kept hg (by simp only [World.size_alloc]; omega) (by simp; omega)]
    have := World.cell?_alloc_new (w.alloc (.cells o1 t1)) o2 t2 i
    rwa [World.size_alloc] at this
  · rw [frozen_kept hg (by simp only [World.size_alloc]; omega) (by simp; omega)]
    have := World.frozen?_alloc_new (w.alloc (.cells o1 t1)) o2 t2 i
    rwa [World.size_alloc] at this
set_option maxRecDepth 100000 in
theorem att_err (fv : Value) (e : Int) (he : (e == 0) = false) (hR : RdAt w R D l e A n cap) : Calls Try.prog 108 #[.pointer (some ⟨R, 0, none⟩), fv] w fun en w' => en = .returned (.agg #[.int .u64 0, .int .u64 0]) ∧ Below w.heap.size w w' := by
  have hc1 := hR.c1
  have hlt := hR.lt
  have hlt1 : R < w.heap.size + 1 := by omega
  clear hR
  go_enter Try.func108, Try.ntmps108
  go_wp2
  refine bodyPost_ret (v := .agg #[.int .u64 0, .int .u64 0]) (by simp [results, Try.results108, go_sem]) rfl ⟨rfl, ?_⟩
  exact ((Below.refl _ _).alloc (by simp) _).alloc (by simp) _
set_option maxRecDepth 100000 in
theorem att_bad (c : Int) (hc : (c == 0) = false) (hR : RdAt w R D l 0 A n cap) (hB : ∀ W, RdAt W R D l 0 A n cap → Calls Try.prog 109 #[.pointer (some ⟨R, 0, none⟩)] W (BadV R D c W)) :
    Calls Try.prog 108 #[.pointer (some ⟨R, 0, none⟩), .func (Fn.func 109) #[.pointer (some ⟨R, 0, none⟩)] #[]] w (Meth R D (.agg #[.int .u64 0, .int .u64 0]) l c w) := by
  have hc0 := hR.c0
  have hc1 := hR.c1
  have hlt := hR.lt
  have hlt1 : R < w.heap.size + 1 := by omega
  have r1 : w.heap.size ≠ R := by omega
  have r2 : w.heap.size + 1 ≠ R := by omega
  have r3 : R ≠ w.heap.size := by omega
  have r4 : R ≠ w.heap.size + 1 := by omega
  have r5 : w.heap.size ≠ D := by have := hR.dlt; omega
  have hg0 : w.grownBy ((w.alloc (.cells #[.int .u64 0, .int .u64 0] 80)).alloc (.cells #[.int .u64 0, .int .u64 0] 80)) (some R) := grown_alloc' (grown_alloc _ _ _) _
  have HA := Lib.hid (hR.kept (w' := (w.alloc (.cells #[.int .u64 0, .int .u64 0] 80)).alloc (.cells #[.int .u64 0, .int .u64 0] 80)) (row := none) (grown_alloc' (grown_alloc _ _ _) _) (by simp) (by simp))
  have HB := Lib.hid hB
  clear hR hB
  go_enter Try.func108, Try.ntmps108
  go_wp2_with (go_at_call 109; (refine (HB.out _ HA.out).mono ?_; rintro e w1 ⟨rfl, hg1, l1, A1, n1, cap1, hR1⟩; have HR1 := Lib.hid hR1; have k0 := hR1.c0; have k1 := hR1.c1; have k2 := hR1.f0; have k3 := hR1.f1; have k4 := hR1.lt; clear hR1; obtain ⟨z1, z2, z3, z4, z5⟩ := two_kept hlt hg1; have z10 := z1 0; have z11 := z1 1; have z20 := z2 0; have z21 := z2 1; have z30 := z3 0; have z31 := z3 1; have z6 : w.heap.size < w1.heap.size := (by omega); clear z1 z2 z3 z4; simp only [List.getElem?_toArray, List.getElem?_cons_zero, List.getElem?_cons_succ] at z10 z11 z30 z31))
  refine bodyPost_ret (v := .agg #[.int .u64 0, .int .u64 0]) (by simp [results, Try.results108, go_sem, z6, z10, z11]) rfl ⟨rfl, ?_, _, _, _, (((HA.out.back hg1 HR1.out c).far r1 r5 _).far r1 r5 _).kept (row := none) (grown_alloc _ _ none) (by simp) (by simp)⟩
  exact grown_alloc' (grown_new (grown_new ((hg0.trans hg1).trans ((grown_set _ R 0 _).trans (grown_set _ R 1 _))) (Nat.le_refl _) _) (Nat.le_refl _) _) _
set_option maxRecDepth 100000 in
theorem att_good (u : Nat) (l' : List Nat) (hR : RdAt w R D l 0 A n cap) (hB : ∀ W, RdAt W R D l 0 A n cap → Calls Try.prog 109 #[.pointer (some ⟨R, 0, none⟩)] W (Good R D (.agg #[.int .u64 (hi u), .int .u64 (lo u)]) l' W)) :
    Calls Try.prog 108 #[.pointer (some ⟨R, 0, none⟩), .func (Fn.func 109) #[.pointer (some ⟨R, 0, none⟩)] #[]] w (Meth R D (.agg #[.int .u64 (hi u), .int .u64 (lo u)]) l' 0 w) := by
  have hc0 := hR.c0
  have hc1 := hR.c1
  have hlt := hR.lt
  have hlt1 : R < w.heap.size + 1 := by omega
  have r1 : w.heap.size ≠ R := by omega
  have r2 : w.heap.size + 1 ≠ R := by omega
  have r3 : R ≠ w.heap.size := by omega
  have r4 : R ≠ w.heap.size + 1 := by omega
  have r5 : w.heap.size ≠ D := by have := hR.dlt; omega
  have hg0 : w.grownBy ((w.alloc (.cells #[.int .u64 0, .int .u64 0] 80)).alloc (.cells #[.int .u64 0, .int .u64 0] 80)) (some R) := grown_alloc' (grown_alloc _ _ _) _
  have HA := Lib.hid (hR.kept (w' := (w.alloc (.cells #[.int .u64 0, .int .u64 0] 80)).alloc (.cells #[.int .u64 0, .int .u64 0] 80)) (row := none) (grown_alloc' (grown_alloc _ _ _) _) (by simp) (by simp))
  have HB := Lib.hid hB
  clear hR hB
  go_enter Try.func108, Try.ntmps108
  go_wp2_with (go_at_call 109; (refine (HB.out _ HA.out).mono ?_; rintro e w1 ⟨rfl, hg1, A1, n1, cap1, hR1⟩; have HR1 := Lib.hid hR1; clear hR1; obtain ⟨z1, z2, z3, z4, z5⟩ := two_kept hlt hg1; have z10 := z1 0; have z11 := z1 1; have z20 := z2 0; have z21 := z2 1; have z6 : w.heap.size < w1.heap.size := (by omega); clear z1 z2 z3 z4; simp only [List.getElem?_toArray, List.getElem?_cons_zero, List.getElem?_cons_succ] at z10 z11))
  refine bodyPost_ret (v := .agg #[.int .u64 (hi u), .int .u64 (lo u)]) (by simp [results, Try.results108, go_sem, z6, z10, z11]) rfl ⟨rfl, ?_, _, _, _, ((HR1.out.far r1 r5 _).far r1 r5 _).kept (row := none) (grown_alloc _ _ none) (by simp) (by simp)⟩
  exact grown_alloc' (grown_new (grown_new (hg0.trans hg1) (Nat.le_refl _) _) (Nat.le_refl _) _) _
set_option maxRecDepth 100000 in
theorem one_kept {w w1 : World} {row : Option Nat} {o1 : Array Value} {t1 : TypeId} (hr : row ≠ some w.heap.size) (hg : (w.alloc (.cells o1 t1)).grownBy w1 row) :
    (∀ i, w1.cell? ⟨w.heap.size, i, none⟩ = o1[i]?) ∧ (∀ i, w1.frozen? ⟨w.heap.size, i, none⟩ = false) ∧ w.heap.size < w1.heap.size := by
  have hs := hg.size
  simp only [World.size_alloc] at hs
  refine ⟨fun i => ?_, fun i => ?_, by omega⟩
  · rw [cell_kept hg (by simp only [World.size_alloc]; omega) (Ne.symm hr), World.cell?_alloc_new]
  · rw [frozen_kept hg (by simp only [World.size_alloc]; omega) (Ne.symm hr), World.frozen?_alloc_new]
set_option maxRecDepth 100000 in
theorem value_meth (val : Nat) (l' : List Nat) (e e' : Int) (hR : RdAt w R D l e A n cap) (hB : ∀ W, RdAt W R D l e A n cap → Calls Try.prog 108 #[.pointer (some ⟨R, 0, none⟩), .func (Fn.func 109) #[.pointer (some ⟨R, 0, none⟩)] #[]] W (Meth R D (.agg #[.int .u64 (hi val), .int .u64 (lo val)]) l' e' W)) :
    Calls Try.prog 74 #[.pointer (some ⟨R, 0, none⟩)] w (Meth R D (valOf val) l' e' w) := by
  have hlt := hR.lt
  have r1 : w.heap.size ≠ R := by omega
  have r3 : R ≠ w.heap.size := by omega
  have r5 : w.heap.size ≠ D := by have := hR.dlt; omega
  have HA := Lib.hid (hR.kept (w' := w.alloc (.cells #[.int .u64 0, .int .u64 0] 80)) (row := none) (grown_alloc _ _ _) (by simp) (by simp))
  have HB := Lib.hid hB
  clear hR hB
  have hmf := make_func
  go_enter Try.func74, Try.ntmps74
  go_wp2_with (go_at_call 108; (refine (HB.out _ HA.out).mono ?_; rintro e w1 ⟨rfl, hg1, A1, n1, cap1, hR1⟩; have HR1 := Lib.hid hR1; clear hR1; obtain ⟨z1, z2, z6⟩ := one_kept (by simpa using r3) hg1; have z10 := z1 0; have z11 := z1 1; have z20 := z2 0; have z21 := z2 1; clear z1 z2; simp only [List.getElem?_toArray, List.getElem?_cons_zero, List.getElem?_cons_succ] at z10 z11))
  refine bodyPost_ret (v := valOf val) (by simp [results, Try.results74, go_sem, z10, z11, valOf]) rfl ⟨rfl, ?_, _, _, _, (HR1.out.far r1 r5 _).far r1 r5 _⟩
  exact grown_new (grown_new ((grown_alloc w _ (some R)).trans hg1) (Nat.le_refl _) _) (Nat.le_refl _) _
set_option maxRecDepth 100000 in
theorem value_err (e : Int) (he : (e == 0) = false) (hR : RdAt w R D l e A n cap) : Calls Try.prog 74 #[.pointer (some ⟨R, 0, none⟩)] w (Meth R D (valOf 0) l e w) :=
  value_meth R D l A n cap w 0 l e e hR fun W hW => (att_err R D l A n cap W _ e he hW).mono fun _ _ ⟨h1, h2⟩ => ⟨h1, grown_of_below h2 _, _, _, _, hW.kept (grown_of_below h2 none) (by simp) (by simp)⟩
set_option maxRecDepth 100000 in
theorem value_bad (c : Int) (hc : (c == 0) = false) (hR : RdAt w R D l 0 A n cap) (hB : ∀ W, RdAt W R D l 0 A n cap → Calls Try.prog 109 #[.pointer (some ⟨R, 0, none⟩)] W (BadV R D c W)) : Calls Try.prog 74 #[.pointer (some ⟨R, 0, none⟩)] w (Meth R D (valOf 0) l c w) :=
  value_meth R D l A n cap w 0 l 0 c hR fun W hW => att_bad R D l A n cap W c hc hW hB
set_option maxRecDepth 100000 in
theorem value_good (u : Nat) (l' : List Nat) (hR : RdAt w R D l 0 A n cap) (hB : ∀ W, RdAt W R D l 0 A n cap → Calls Try.prog 109 #[.pointer (some ⟨R, 0, none⟩)] W (Good R D (valOf u) l' W)) : Calls Try.prog 74 #[.pointer (some ⟨R, 0, none⟩)] w (Meth R D (valOf u) l' 0 w) :=
  value_meth R D l A n cap w u l' 0 0 hR fun W hW => att_good R D l A n cap W u l' hW hB
set_option maxRecDepth 100000 in
theorem uint_err (k : Int) (e : Int) (he : (e == 0) = false) (hR : RdAt w R D l e A n cap) : Calls Try.prog 69 #[.pointer (some ⟨R, 0, none⟩), .int .i64 k] w (Meth R D (.int .i64 0) l e w) := by
  have hc1 := hR.c1
  have hlt := hR.lt
  have HR := Lib.hid hR
  clear hR
  have hmf := make_func
  go_enter Try.func69, Try.ntmps69
  go_wp2
  go_ret
  exact ⟨rfl, grown_alloc' (grown_alloc _ _ _) _, _, _, _, HR.out.kept (row := none) (grown_alloc' (grown_alloc _ _ _) _) (by simp) (by simp)⟩
set_option maxRecDepth 100000 in
theorem uint_bad (k : Int) (c : Int) (hc : (c == 0) = false) (hR : RdAt w R D l 0 A n cap) (hB : ∀ W, RdAt W R D l 0 A n cap → Calls Try.prog 105 #[.pointer (some ⟨R, 0, none⟩), .int .i64 k] W (Bad R D c W)) : Calls Try.prog 69 #[.pointer (some ⟨R, 0, none⟩), .int .i64 k] w (Meth R D (.int .i64 0) l c w) := by
  have hc0 := hR.c0
  have hc1 := hR.c1
  have hlt := hR.lt
  have HR := Lib.hid hR
  have HB := Lib.hid hB
  have hg0 : w.grownBy ((w.alloc (.cells #[.func (Fn.func 105) #[.pointer (some ⟨R, 0, none⟩)] #[]] 198)).alloc (.cells #[.int .i64 k] 3)) (some R) := grown_alloc' (grown_alloc _ _ _) _
  have HA := Lib.hid (hR.kept (w' := ((w.alloc (.cells #[.func (Fn.func 105) #[.pointer (some ⟨R, 0, none⟩)] #[]] 198)).alloc (.cells #[.int .i64 k] 3))) (row := none) (grown_alloc' (grown_alloc _ _ _) _) (by simp) (by simp))
  clear hR hB
  have hmf := make_func
  go_enter Try.func69, Try.ntmps69
  go_wp2_with (first | (go_at_call 105; refine (HB.out _ HA.out).mono ?_; rintro e w1 ⟨x, rfl, hg1, l1, A1, n1, cap1, hR1⟩; have HR1 := Lib.hid hR1; have k0 := hR1.c0; have k1 := hR1.c1; have k2 := hR1.f0; have k3 := hR1.f1; clear hR1) | go_in)
  go_ret
  exact ⟨rfl, (hg0.trans hg1).trans ((grown_set _ R 0 _).trans (grown_set _ R 1 _)), _, _, _, HA.out.back hg1 HR1.out c⟩
set_option maxRecDepth 100000 in
theorem uint_good (k : Int) (v : Int) (l' : List Nat) (hR : RdAt w R D l 0 A n cap) (hG : ∀ W, RdAt W R D l 0 A n cap → Calls Try.prog 105 #[.pointer (some ⟨R, 0, none⟩), .int .i64 k] W (Good R D (.int .i64 v) l' W)) : Calls Try.prog 69 #[.pointer (some ⟨R, 0, none⟩), .int .i64 k] w (Meth R D (.int .i64 v) l' 0 w) := by
  have hc0 := hR.c0
  have hc1 := hR.c1
  have hlt := hR.lt
  have HG := Lib.hid hG
  have hg0 : w.grownBy ((w.alloc (.cells #[.func (Fn.func 105) #[.pointer (some ⟨R, 0, none⟩)] #[]] 198)).alloc (.cells #[.int .i64 k] 3)) (some R) := grown_alloc' (grown_alloc _ _ _) _
  have HA := Lib.hid (hR.kept (w' := ((w.alloc (.cells #[.func (Fn.func 105) #[.pointer (some ⟨R, 0, none⟩)] #[]] 198)).alloc (.cells #[.int .i64 k] 3))) (row := none) (grown_alloc' (grown_alloc _ _ _) _) (by simp) (by simp))
  clear hR hG
  have hmf := make_func
  go_enter Try.func69, Try.ntmps69
  go_wp2_with (first | (go_at_call 105; refine (HG.out _ HA.out).mono ?_; rintro e w1 ⟨rfl, hg1, A1, n1, cap1, hR1⟩; have HR1 := Lib.hid hR1; clear hR1) | go_in)
  go_ret
  exact ⟨rfl, hg0.trans hg1, _, _, _, HR1.out⟩
set_option maxRecDepth 100000 in
theorem count_err (most : Int) (e : Int) (he : (e == 0) = false) (hR : RdAt w R D l e A n cap) : Calls Try.prog 78 #[.pointer (some ⟨R, 0, none⟩), .int .i64 most] w (Meth R D (.int .i64 0) l e w) := by
  have hc1 := hR.c1
  have hlt := hR.lt
  have HR := Lib.hid hR
  clear hR
  have hmf := make_func
  go_enter Try.func78, Try.ntmps78
  go_wp2
  go_ret
  exact ⟨rfl, grown_alloc' (grown_alloc _ _ _) _, _, _, _, HR.out.kept (row := none) (grown_alloc' (grown_alloc _ _ _) _) (by simp) (by simp)⟩
set_option maxRecDepth 100000 in
theorem count_bad (most : Int) (c : Int) (hc : (c == 0) = false) (hR : RdAt w R D l 0 A n cap) (hB : ∀ W, RdAt W R D l 0 A n cap → Calls Try.prog 112 #[.pointer (some ⟨R, 0, none⟩), .int .i64 most] W (Bad R D c W)) : Calls Try.prog 78 #[.pointer (some ⟨R, 0, none⟩), .int .i64 most] w (Meth R D (.int .i64 0) l c w) := by
  have hc0 := hR.c0
  have hc1 := hR.c1
  have hlt := hR.lt
  have HR := Lib.hid hR
  have HB := Lib.hid hB
  have hg0 : w.grownBy ((w.alloc (.cells #[.func (Fn.func 112) #[.pointer (some ⟨R, 0, none⟩)] #[]] 198)).alloc (.cells #[.int .i64 most] 3)) (some R) := grown_alloc' (grown_alloc _ _ _) _
  have HA := Lib.hid (hR.kept (w' := ((w.alloc (.cells #[.func (Fn.func 112) #[.pointer (some ⟨R, 0, none⟩)] #[]] 198)).alloc (.cells #[.int .i64 most] 3))) (row := none) (grown_alloc' (grown_alloc _ _ _) _) (by simp) (by simp))
  clear hR hB
  have hmf := make_func
  go_enter Try.func78, Try.ntmps78
  go_wp2_with (first | (go_at_call 112; refine (HB.out _ HA.out).mono ?_; rintro e w1 ⟨x, rfl, hg1, l1, A1, n1, cap1, hR1⟩; have HR1 := Lib.hid hR1; have k0 := hR1.c0; have k1 := hR1.c1; have k2 := hR1.f0; have k3 := hR1.f1; clear hR1) | go_in)
  go_ret
  exact ⟨rfl, (hg0.trans hg1).trans ((grown_set _ R 0 _).trans (grown_set _ R 1 _)), _, _, _, HA.out.back hg1 HR1.out c⟩
set_option maxRecDepth 100000 in
theorem count_good (most : Int) (v : Int) (l' : List Nat) (hR : RdAt w R D l 0 A n cap) (hG : ∀ W, RdAt W R D l 0 A n cap → Calls Try.prog 112 #[.pointer (some ⟨R, 0, none⟩), .int .i64 most] W (Good R D (.int .i64 v) l' W)) : Calls Try.prog 78 #[.pointer (some ⟨R, 0, none⟩), .int .i64 most] w (Meth R D (.int .i64 v) l' 0 w) := by
  have hc0 := hR.c0
  have hc1 := hR.c1
  have hlt := hR.lt
  have HG := Lib.hid hG
  have hg0 : w.grownBy ((w.alloc (.cells #[.func (Fn.func 112) #[.pointer (some ⟨R, 0, none⟩)] #[]] 198)).alloc (.cells #[.int .i64 most] 3)) (some R) := grown_alloc' (grown_alloc _ _ _) _
  have HA := Lib.hid (hR.kept (w' := ((w.alloc (.cells #[.func (Fn.func 112) #[.pointer (some ⟨R, 0, none⟩)] #[]] 198)).alloc (.cells #[.int .i64 most] 3))) (row := none) (grown_alloc' (grown_alloc _ _ _) _) (by simp) (by simp))
  clear hR hG
  have hmf := make_func
  go_enter Try.func78, Try.ntmps78
  go_wp2_with (first | (go_at_call 112; refine (HG.out _ HA.out).mono ?_; rintro e w1 ⟨rfl, hg1, A1, n1, cap1, hR1⟩; have HR1 := Lib.hid hR1; clear hR1) | go_in)
  go_ret
  exact ⟨rfl, hg0.trans hg1, _, _, _, HR1.out⟩
set_option maxRecDepth 100000 in
theorem text_err (most : Int) (e : Int) (he : (e == 0) = false) (hR : RdAt w R D l e A n cap) : Calls Try.prog 76 #[.pointer (some ⟨R, 0, none⟩), .int .i64 most] w (Meth R D (.string ⟨#[]⟩) l e w) := by
  have hc1 := hR.c1
  have hlt := hR.lt
  have HR := Lib.hid hR
  clear hR
  have hmf := make_func
  go_enter Try.func76, Try.ntmps76
  go_wp2
  go_ret
  exact ⟨rfl, grown_alloc' (grown_alloc _ _ _) _, _, _, _, HR.out.kept (row := none) (grown_alloc' (grown_alloc _ _ _) _) (by simp) (by simp)⟩
set_option maxRecDepth 100000 in
theorem text_bad (most : Int) (c : Int) (hc : (c == 0) = false) (hR : RdAt w R D l 0 A n cap) (hB : ∀ W, RdAt W R D l 0 A n cap → Calls Try.prog 111 #[.pointer (some ⟨R, 0, none⟩), .int .i64 most] W (Bad R D c W)) : Calls Try.prog 76 #[.pointer (some ⟨R, 0, none⟩), .int .i64 most] w (Meth R D (.string ⟨#[]⟩) l c w) := by
  have hc0 := hR.c0
  have hc1 := hR.c1
  have hlt := hR.lt
  have HR := Lib.hid hR
  have HB := Lib.hid hB
  have hg0 : w.grownBy ((w.alloc (.cells #[.func (Fn.func 111) #[.pointer (some ⟨R, 0, none⟩)] #[]] 204)).alloc (.cells #[.int .i64 most] 3)) (some R) := grown_alloc' (grown_alloc _ _ _) _
  have HA := Lib.hid (hR.kept (w' := ((w.alloc (.cells #[.func (Fn.func 111) #[.pointer (some ⟨R, 0, none⟩)] #[]] 204)).alloc (.cells #[.int .i64 most] 3))) (row := none) (grown_alloc' (grown_alloc _ _ _) _) (by simp) (by simp))
  clear hR hB
  have hmf := make_func
  go_enter Try.func76, Try.ntmps76
  go_wp2_with (first | (go_at_call 111; refine (HB.out _ HA.out).mono ?_; rintro e w1 ⟨x, rfl, hg1, l1, A1, n1, cap1, hR1⟩; have HR1 := Lib.hid hR1; have k0 := hR1.c0; have k1 := hR1.c1; have k2 := hR1.f0; have k3 := hR1.f1; clear hR1) | go_in)
  go_ret
  exact ⟨rfl, (hg0.trans hg1).trans ((grown_set _ R 0 _).trans (grown_set _ R 1 _)), _, _, _, HA.out.back hg1 HR1.out c⟩
set_option maxRecDepth 100000 in
theorem text_good (most : Int) (s : ByteArray) (l' : List Nat) (hR : RdAt w R D l 0 A n cap) (hG : ∀ W, RdAt W R D l 0 A n cap → Calls Try.prog 111 #[.pointer (some ⟨R, 0, none⟩), .int .i64 most] W (Good R D (.string s) l' W)) : Calls Try.prog 76 #[.pointer (some ⟨R, 0, none⟩), .int .i64 most] w (Meth R D (.string s) l' 0 w) := by
  have hc0 := hR.c0
  have hc1 := hR.c1
  have hlt := hR.lt
  have HG := Lib.hid hG
  have hg0 : w.grownBy ((w.alloc (.cells #[.func (Fn.func 111) #[.pointer (some ⟨R, 0, none⟩)] #[]] 204)).alloc (.cells #[.int .i64 most] 3)) (some R) := grown_alloc' (grown_alloc _ _ _) _
  have HA := Lib.hid (hR.kept (w' := ((w.alloc (.cells #[.func (Fn.func 111) #[.pointer (some ⟨R, 0, none⟩)] #[]] 204)).alloc (.cells #[.int .i64 most] 3))) (row := none) (grown_alloc' (grown_alloc _ _ _) _) (by simp) (by simp))
  clear hR hG
  have hmf := make_func
  go_enter Try.func76, Try.ntmps76
  go_wp2_with (first | (go_at_call 111; refine (HG.out _ HA.out).mono ?_; rintro e w1 ⟨rfl, hg1, A1, n1, cap1, hR1⟩; have HR1 := Lib.hid hR1; clear hR1) | go_in)
  go_ret
  exact ⟨rfl, hg0.trans hg1, _, _, _, HR1.out⟩
set_option maxRecDepth 100000 in
theorem bool_err (e : Int) (he : (e == 0) = false) (hR : RdAt w R D l e A n cap) : Calls Try.prog 72 #[.pointer (some ⟨R, 0, none⟩)] w (Meth R D (.bool false) l e w) := by
  have hc1 := hR.c1
  have hlt := hR.lt
  have HR := Lib.hid hR
  clear hR
  have hmf := make_func
  go_enter Try.func72, Try.ntmps72
  go_wp2
  go_ret
  exact ⟨rfl, World.grownBy.refl _ _, _, _, _, HR.out.kept (row := none) (World.grownBy.refl _ _) (by simp) (by simp)⟩
set_option maxRecDepth 100000 in
theorem bool_bad (c : Int) (hc : (c == 0) = false) (hR : RdAt w R D l 0 A n cap) (hB : ∀ W, RdAt W R D l 0 A n cap → Calls Try.prog 107 #[.pointer (some ⟨R, 0, none⟩)] W (Bad R D c W)) : Calls Try.prog 72 #[.pointer (some ⟨R, 0, none⟩)] w (Meth R D (.bool false) l c w) := by
  have hc0 := hR.c0
  have hc1 := hR.c1
  have hlt := hR.lt
  have HR := Lib.hid hR
  have HB := Lib.hid hB
  have hg0 : w.grownBy w (some R) := World.grownBy.refl _ _
  have HA := Lib.hid (hR.kept (w' := w) (row := none) (World.grownBy.refl _ _) (by simp) (by simp))
  clear hR hB
  have hmf := make_func
  go_enter Try.func72, Try.ntmps72
  go_wp2_with (first | (go_at_call 107; refine (HB.out _ HA.out).mono ?_; rintro e w1 ⟨x, rfl, hg1, l1, A1, n1, cap1, hR1⟩; have HR1 := Lib.hid hR1; have k0 := hR1.c0; have k1 := hR1.c1; have k2 := hR1.f0; have k3 := hR1.f1; clear hR1) | go_in)
  go_ret
  exact ⟨rfl, (hg0.trans hg1).trans ((grown_set _ R 0 _).trans (grown_set _ R 1 _)), _, _, _, HA.out.back hg1 HR1.out c⟩
set_option maxRecDepth 100000 in
theorem bool_good (b : Bool) (l' : List Nat) (hR : RdAt w R D l 0 A n cap) (hG : ∀ W, RdAt W R D l 0 A n cap → Calls Try.prog 107 #[.pointer (some ⟨R, 0, none⟩)] W (Good R D (.bool b) l' W)) : Calls Try.prog 72 #[.pointer (some ⟨R, 0, none⟩)] w (Meth R D (.bool b) l' 0 w) := by
  have hc0 := hR.c0
  have hc1 := hR.c1
  have hlt := hR.lt
  have HG := Lib.hid hG
  have hg0 : w.grownBy w (some R) := World.grownBy.refl _ _
  have HA := Lib.hid (hR.kept (w' := w) (row := none) (World.grownBy.refl _ _) (by simp) (by simp))
  clear hR hG
  have hmf := make_func
  go_enter Try.func72, Try.ntmps72
  go_wp2_with (first | (go_at_call 107; refine (HG.out _ HA.out).mono ?_; rintro e w1 ⟨rfl, hg1, A1, n1, cap1, hR1⟩; have HR1 := Lib.hid hR1; clear hR1) | go_in)
  go_ret
  exact ⟨rfl, hg0.trans hg1, _, _, _, HR1.out⟩
end
end Go.Proofs.Ytljmiickhkkceaa
