/- readValue of package wire: what it returns. -/
import Derived.Test.YthfimcbjbkbcjaaWText
namespace Go.Proofs.Ythfimcbjbkbcjaa
open Go.RowKit

def valOf (a : Nat) : Value := .agg #[.int .u64 (hi a), .int .u64 (lo a)]
/-- What Parse says of the bytes l. -/
def pE (l : List Nat) : Int := parseE l.length fun i => l.getD i 0
def pV (l : List Nat) : Nat := parseV l.length fun i => l.getD i 0
theorem parse_list {A : Option Addr} {D n cap : Nat} {l : List Nat} {w : World} (hr : ReadsL w D A l) (hs : Small l) (hl : l.length = n) (hn : n ≤ 100) {v : Nat} {c : Int} (hv : Hid (pV l = v)) (hc : Hid (pE l = c)) :
    Calls Try.prog 65 #[.slice A n cap] w (RetVE v c w) := by
  subst hl
  rw [← hv.out, ← hc.out]
  exact parse_any A l.length cap _ w (hr.readsB hs) hn

/-- An error was found by readValue. -/
def BadV (R D : Nat) (c : Int) (w : World) (en : Ending) (w' : World) : Prop := en = .returned (.tuple #[.agg #[.int .u64 0, .int .u64 0], .int .i64 c]) ∧ w.grownBy w' (some R) ∧ ∃ l' A' n' cap', RdAt w' R D l' 0 A' n' cap'
section
variable (R D : Nat) (l : List Nat) (A : Option Addr) (n cap : Nat) (w : World)
theorem rvalue_short (hR : RdAt w R D l 0 A n cap) (h : n < 1) : Calls Try.prog 50 #[.pointer (some ⟨R, 0, none⟩)] w (BadV R D 1 w) := by
  have HA := Lib.hid (hR.kept (grown_alloc w (.cells #[.int .u64 0, .int .u64 0] 26) none) (by simp) (by simp))
  have r1 : w.heap.size ≠ R := by have := hR.lt; omega
  have r2 : w.heap.size ≠ D := by have := hR.dlt; omega
  clear hR
  go_enter Try.func50, Try.ntmps50
  go_wp2_with (go_at_call 40; refine (ruint1_short R D l A n cap _ 0 HA.out h).mono ?_; rintro e w' ⟨rfl, rfl⟩)
  refine bodyPost_ret (v := .tuple #[.agg #[.int .u64 0, .int .u64 0], .int .i64 1]) (by simp [results, Try.results50, go_sem]) rfl ?_
  exact ⟨rfl, grown_alloc _ _ _, _, _, _, _, HA.out⟩
theorem rvalue_form0 (hR : RdAt w R D l 0 A n cap) (h : 1 ≤ n) (v : Nat) (hv : Hid (num (l.take 1) = v)) (hx : v < 1) : Calls Try.prog 50 #[.pointer (some ⟨R, 0, none⟩)] w (BadV R D 2 w) := by
  have HA := Lib.hid (hR.kept (grown_alloc w (.cells #[.int .u64 0, .int .u64 0] 26) none) (by simp) (by simp))
  have r1 : w.heap.size ≠ R := by have := hR.lt; omega
  have r2 : w.heap.size ≠ D := by have := hR.dlt; omega
  have HS := Lib.hid (HA.out.skip 1 h)
  have hx' : (v : Int) < 1 := by omega
  clear hR
  go_enter Try.func50, Try.ntmps50
  go_wp2_with (go_at_call 40; refine (ruint1_ok R D l A n cap _ 0 HA.out h _ hv).mono ?_; rintro e w' ⟨rfl, rfl⟩)
  refine bodyPost_ret (v := .tuple #[.agg #[.int .u64 0, .int .u64 0], .int .i64 2]) (by simp [results, Try.results50, go_sem]) rfl ?_
  exact ⟨rfl, grown_new (grown_new ((grown_alloc _ _ _).trans (grown_set _ R 0 _)) (Nat.le_refl _) _) (Nat.le_refl _) _, _, _, _, _, (HS.out.far r1 r2 _).far r1 r2 _⟩
theorem rvalue_form16 (hR : RdAt w R D l 0 A n cap) (h : 1 ≤ n) (v : Nat) (hv : Hid (num (l.take 1) = v)) (hx : 16 < v) : Calls Try.prog 50 #[.pointer (some ⟨R, 0, none⟩)] w (BadV R D 2 w) := by
  have HA := Lib.hid (hR.kept (grown_alloc w (.cells #[.int .u64 0, .int .u64 0] 26) none) (by simp) (by simp))
  have r1 : w.heap.size ≠ R := by have := hR.lt; omega
  have r2 : w.heap.size ≠ D := by have := hR.dlt; omega
  have HS := Lib.hid (HA.out.skip 1 h)
  have hx' : 16 < (v : Int) := by omega
  have hx2 : decide ((v : Int) < 1) = false := by simp; omega
  clear hR
  go_enter Try.func50, Try.ntmps50
  go_wp2_with (go_at_call 40; refine (ruint1_ok R D l A n cap _ 0 HA.out h _ hv).mono ?_; rintro e w' ⟨rfl, rfl⟩)
  refine bodyPost_ret (v := .tuple #[.agg #[.int .u64 0, .int .u64 0], .int .i64 2]) (by simp [results, Try.results50, go_sem]) rfl ?_
  exact ⟨rfl, grown_new (grown_new ((grown_alloc _ _ _).trans (grown_set _ R 0 _)) (Nat.le_refl _) _) (Nat.le_refl _) _, _, _, _, _, (HS.out.far r1 r2 _).far r1 r2 _⟩
theorem rvalue_short2 (hR : RdAt w R D l 0 A n cap) (h : 1 ≤ n) (v : Nat) (hv : Hid (num (l.take 1) = v)) (hx : 1 ≤ v) (hx16 : v ≤ 16) (h2 : n - 1 < v) : Calls Try.prog 50 #[.pointer (some ⟨R, 0, none⟩)] w (BadV R D 1 w) := by
  have HA := Lib.hid (hR.kept (grown_alloc w (.cells #[.int .u64 0, .int .u64 0] 26) none) (by simp) (by simp))
  have r1 : w.heap.size ≠ R := by have := hR.lt; omega
  have r2 : w.heap.size ≠ D := by have := hR.dlt; omega
  have HS := Lib.hid (HA.out.skip 1 h)
  have hx1 : decide ((v : Int) < 1) = false := by simp; omega
  have hx2 : decide (16 < (v : Int)) = false := by simp; omega
  clear hR
  go_enter Try.func50, Try.ntmps50
  go_wp2_with (first | (go_at_call 40; refine (ruint1_ok R D l A n cap _ 0 HA.out h _ hv).mono ?_; rintro e w' ⟨rfl, rfl⟩) | (go_at_call 60; refine (take_short R v _ _ _ _ HS.out.c0 h2).mono ?_; rintro e w' ⟨rfl, rfl⟩))
  refine bodyPost_ret (v := .tuple #[.agg #[.int .u64 0, .int .u64 0], .int .i64 1]) (by simp [results, Try.results50, go_sem]) rfl ?_
  exact ⟨rfl, grown_new (grown_new ((grown_alloc _ _ _).trans (grown_set _ R 0 _)) (Nat.le_refl _) _) (Nat.le_refl _) _, _, _, _, _, (HS.out.far r1 r2 _).far r1 r2 _⟩
theorem rvalue_value (hR : RdAt w R D l 0 A n cap) (h : 1 ≤ n) (v : Nat) (hv : Hid (num (l.take 1) = v)) (hx : 1 ≤ v) (hx16 : v ≤ 16) (h2 : v ≤ n - 1) (c : Int) (hp : Hid (pE ((l.drop 1).take v) = c)) (hc : (c == 0) = false) : Calls Try.prog 50 #[.pointer (some ⟨R, 0, none⟩)] w (BadV R D 5 w) := by
  have HA := Lib.hid (hR.kept (grown_alloc w (.cells #[.int .u64 0, .int .u64 0] 26) none) (by simp) (by simp))
  have r1 : w.heap.size ≠ R := by have := hR.lt; omega
  have r2 : w.heap.size ≠ D := by have := hR.dlt; omega
  have HS := Lib.hid (HA.out.skip 1 h)
  have HS2 := Lib.hid (HS.out.skip v h2)
  have HL : Hid (((l.drop 1).take v).length = v) := Lib.hid (by rw [List.length_take, List.length_drop, hR.len]; omega)
  have HQ := Lib.hid ((HS.out.reads.take v).kept (grown_set _ R 0 (.slice (cutA (cutA A cap 1) (cap - 1) v) (n - 1 - v) (cap - 1 - v))) (by simp; exact fun e => hR.apart e.symm))
  have HM := Lib.hid ((hR.small.drop 1).take v)
  have hx1 : decide ((v : Int) < 1) = false := by simp; omega
  have hx2 : decide (16 < (v : Int)) = false := by simp; omega
  obtain ⟨u, HV⟩ : ∃ u, Hid (pV ((l.drop 1).take v) = u) := ⟨_, Lib.hid rfl⟩
  clear hR
  go_enter Try.func50, Try.ntmps50
  go_wp2_with (first | (go_at_call 40; refine (ruint1_ok R D l A n cap _ 0 HA.out h _ hv).mono ?_; rintro e w' ⟨rfl, rfl⟩) | (go_at_call 60; refine (take_ok R v _ _ _ _ HS.out.c0 HS.out.f0 h2 HS.out.le).mono ?_; rintro e w' ⟨rfl, rfl⟩) | (go_at_call 65; refine (parse_list HQ.out HM.out HL.out (by omega) HV hp).mono ?_; rintro e w1 ⟨rfl, hb1⟩; obtain ⟨hc1, hf1, hz1⟩ := after (w.heap.size + 1) hb1 (by simp [World.setCell]) (by simp [World.setCell])))
  have l1 : w.heap.size < w1.heap.size := hz1 _ (by omega)
  have k0 : w1.cell? ⟨w.heap.size, 0, none⟩ = some (.int .u64 0) := by
    rw [hc1 _ _ (by omega), World.cell?_setCell_far _ _ _ _ (by simpa using Ne.symm r1), World.cell?_setCell_far _ _ _ _ (by simpa using Ne.symm r1), World.cell?_alloc_new]; rfl
  have k1 : w1.cell? ⟨w.heap.size, 1, none⟩ = some (.int .u64 0) := by
    rw [hc1 _ _ (by omega), World.cell?_setCell_far _ _ _ _ (by simpa using Ne.symm r1), World.cell?_setCell_far _ _ _ _ (by simpa using Ne.symm r1), World.cell?_alloc_new]; rfl
  refine bodyPost_ret (v := .tuple #[.agg #[.int .u64 0, .int .u64 0], .int .i64 5]) (by simp [results, Try.results50, go_sem, l1, k0, k1]) rfl ?_
  have hg := (((grown_alloc w (.cells #[.int .u64 0, .int .u64 0] 26) (some R)).trans (grown_set _ R 0 _)).trans (grown_set _ R 0 _)).trans (grown_of_below hb1 (some R))
  have hk := HS2.out.kept (grown_of_below hb1 none) (by simp) (by simp)
  exact ⟨rfl, grown_alloc' (grown_new (grown_new hg (Nat.le_refl _) _) (Nat.le_refl _) _) _, _, _, _, _, ((hk.far r1 r2 _).far r1 r2 _).kept (grown_alloc _ _ none) (by simp) (by simp)⟩
theorem rvalue_ok (hR : RdAt w R D l 0 A n cap) (h : 1 ≤ n) (v : Nat) (hv : Hid (num (l.take 1) = v)) (hx : 1 ≤ v) (hx16 : v ≤ 16) (h2 : v ≤ n - 1) (u : Nat) (hp : Hid (pE ((l.drop 1).take v) = 0)) (HV : Hid (pV ((l.drop 1).take v) = u)) : Calls Try.prog 50 #[.pointer (some ⟨R, 0, none⟩)] w (Good R D (valOf u) (l.drop (1 + v)) w) := by
  have HA := Lib.hid (hR.kept (grown_alloc w (.cells #[.int .u64 0, .int .u64 0] 26) none) (by simp) (by simp))
  have r1 : w.heap.size ≠ R := by have := hR.lt; omega
  have r2 : w.heap.size ≠ D := by have := hR.dlt; omega
  have HS := Lib.hid (HA.out.skip 1 h)
  have HS2 := Lib.hid (HS.out.skip v h2)
  have HL : Hid (((l.drop 1).take v).length = v) := Lib.hid (by rw [List.length_take, List.length_drop, hR.len]; omega)
  have HQ := Lib.hid ((HS.out.reads.take v).kept (grown_set _ R 0 (.slice (cutA (cutA A cap 1) (cap - 1) v) (n - 1 - v) (cap - 1 - v))) (by simp; exact fun e => hR.apart e.symm))
  have HM := Lib.hid ((hR.small.drop 1).take v)
  have hx1 : decide ((v : Int) < 1) = false := by simp; omega
  have hx2 : decide (16 < (v : Int)) = false := by simp; omega
  clear hR
  go_enter Try.func50, Try.ntmps50
  go_wp2_with (first | (go_at_call 40; refine (ruint1_ok R D l A n cap _ 0 HA.out h _ hv).mono ?_; rintro e w' ⟨rfl, rfl⟩) | (go_at_call 60; refine (take_ok R v _ _ _ _ HS.out.c0 HS.out.f0 h2 HS.out.le).mono ?_; rintro e w' ⟨rfl, rfl⟩) | (go_at_call 65; refine (parse_list HQ.out HM.out HL.out (by omega) HV hp).mono ?_; rintro e w1 ⟨rfl, hb1⟩; obtain ⟨hc1, hf1, hz1⟩ := after (w.heap.size + 1) hb1 (by simp [World.setCell]) (by simp [World.setCell])))
  have l1 : w.heap.size < w1.heap.size := hz1 _ (by omega)
  have k0 : w1.cell? ⟨w.heap.size, 0, none⟩ = some (.int .u64 0) := by
    rw [hc1 _ _ (by omega), World.cell?_setCell_far _ _ _ _ (by simpa using Ne.symm r1), World.cell?_setCell_far _ _ _ _ (by simpa using Ne.symm r1), World.cell?_alloc_new]; rfl
  have k1 : w1.cell? ⟨w.heap.size, 1, none⟩ = some (.int .u64 0) := by
    rw [hc1 _ _ (by omega), World.cell?_setCell_far _ _ _ _ (by simpa using Ne.symm r1), World.cell?_setCell_far _ _ _ _ (by simpa using Ne.symm r1), World.cell?_alloc_new]; rfl
  refine bodyPost_ret (v := .tuple #[.agg #[.int .u64 (hi u), .int .u64 (lo u)], .int .i64 0]) (by simp [results, Try.results50, go_sem, l1, k0, k1]) rfl ?_
  have hg := (((grown_alloc w (.cells #[.int .u64 0, .int .u64 0] 26) (some R)).trans (grown_set _ R 0 _)).trans (grown_set _ R 0 _)).trans (grown_of_below hb1 (some R))
  have hk := HS2.out.kept (grown_of_below hb1 none) (by simp) (by simp)
  have hE : (l.drop 1).drop v = l.drop (1 + v) := by rw [List.drop_drop]
  rw [hE] at hk
  exact ⟨rfl, grown_alloc' (grown_new (grown_new hg (Nat.le_refl _) _) (Nat.le_refl _) _) _, _, _, _, ((hk.far r1 r2 _).far r1 r2 _).kept (grown_alloc _ _ none) (by simp) (by simp)⟩
end
end Go.Proofs.Ythfimcbjbkbcjaa
