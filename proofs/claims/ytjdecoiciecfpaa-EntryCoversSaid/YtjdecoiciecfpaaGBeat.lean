/- Who wins: the program's Prefix and Beats. -/
import Derived.Test.YtjdecoiciecfpaaGPre
namespace Go.Proofs.Ytjdecoiciecfpaa
open Go.RowKit

def sgI (a b : Int) : Int := if a < b then -1 else if b < a then 1 else 0
def fstNZ : List Int → Int
  | [] => 0
  | x :: r => if x = 0 then fstNZ r else x
def lpmI (ks : List KeyD) : Int := ixI 2 (ks.map (·.kind)) 0
set_option maxRecDepth 100000 in
theorem g_nan (a : Int) (w : World) : Calls Try.prog 91 #[.int .i64 a] w fun e w' => e = .returned (.bool false) ∧ w' = w := by
  go_enter Try.func91, Try.ntmps91
  go_wp2
  go_ret
  exact ⟨by simp, rfl⟩
set_option maxRecDepth 100000 in
set_option maxHeartbeats 2000000 in
theorem g_cmp (a b : Int) (w : World) : Calls Try.prog 66 #[.int .i64 a, .int .i64 b] w fun e w' => e = .returned (.int .i64 (sgI a b)) ∧ w' = w := by
  unfold sgI
  by_cases h1 : a < b
  · rw [if_pos h1]
    go_enter Try.func66, Try.ntmps66
    go_wp2_with (go_at_call 91; refine (g_nan _ _).mono ?_; rintro e w' ⟨rfl, rfl⟩)
    go_ret
    exact ⟨rfl, rfl⟩
  · rw [if_neg h1]
    by_cases h2 : b < a
    · rw [if_pos h2]
      go_enter Try.func66, Try.ntmps66
      go_wp2_with (go_at_call 91; refine (g_nan _ _).mono ?_; rintro e w' ⟨rfl, rfl⟩)
      go_ret
      exact ⟨rfl, rfl⟩
    · rw [if_neg h2]
      go_enter Try.func66, Try.ntmps66
      go_wp2_with (go_at_call 91; refine (g_nan _ _).mono ?_; rintro e w' ⟨rfl, rfl⟩)
      go_ret
      exact ⟨rfl, rfl⟩
set_option maxRecDepth 100000 in
set_option maxHeartbeats 2000000 in
theorem g_firstOf (w : World) (L n c : Nat) (xs : List Int) (hn : xs.length = n) (hc : n ≤ c) (hm : n ≤ 1000) (h : ∀ j x, xs[j]? = some x → w.cell? ⟨L, j, none⟩ = some (.int .i64 x)) :
    Calls Try.prog 65 #[.slice (some ⟨L, 0, none⟩) n c] w fun e w' => e = .returned (.int .i64 (fstNZ xs)) ∧ Below w.heap.size w w' := by
  have HN := Lib.hid hn
  have HC := Lib.hid h
  obtain ⟨r, hr⟩ : ∃ r, r = fstNZ xs := ⟨_, rfl⟩
  rw [← hr]
  have HRR := Lib.hid hr
  clear hn h hr
  go_enter Try.func65, Try.ntmps65
  go_wp2_with fail
  go_loopw [7] (fun i w' => ∃ k : Nat, k ≤ n ∧ i = .int .i64 k ∧ w' = w ∧ Hid (r = fstNZ (xs.drop k))) (fun i _ => n - (intOf i).toNat)
  case atStart => exact ⟨0, by omega, rfl, rfl, HRR⟩
  case round =>
    obtain ⟨k, hk, rfl, rfl, hx⟩ := hrel
    by_cases hlt : k < n
    · have hkI : (k : Int) < (n : Int) := by omega
      have hkc : (k : Int) < (c : Int) := by omega
      have hk0 : 0 ≤ (k : Int) := by omega
      obtain ⟨x, hxk⟩ : ∃ x, xs[k]? = some x := ⟨_, List.getElem?_eq_getElem (by rw [HN.out]; exact hlt)⟩
      have cx := HC.out k x hxk
      have hdr : xs.drop k = x :: xs.drop (k + 1) := by
        rw [List.drop_eq_getElem_cons (by rw [HN.out]; exact hlt), (List.getElem?_eq_some_iff.1 hxk).2]
      have hx2 := hx.out
      rw [hdr, fstNZ] at hx2
      clear hx hxk hdr
      by_cases h0 : x = 0
      · rw [if_pos h0] at hx2
        have HX := Lib.hid hx2
        clear hx2
        go_wp2_with fail
        go_roundw
        case rel => (go_light; exact ⟨k + 1, by omega, by simp, by first | exact rfl | exact trivial, HX⟩)
        case measure => simp [intOf]; omega
      · rw [if_neg h0] at hx2
        subst hx2
        go_wp2_with fail
        go_ret
        exact ⟨rfl, Below.refl _ _⟩
    · have hkI : ¬ (k : Int) < (n : Int) := by omega
      have hval : r = 0 := by rw [hx.out, List.drop_of_length_le (by rw [HN.out]; omega)]; rfl
      subst hval
      clear hx
      go_wp2_with fail
      go_ret
      exact ⟨rfl, Below.refl _ _⟩
set_option maxRecDepth 100000 in
set_option maxHeartbeats 2000000 in
theorem g_isLpm (nm : ByteArray) (f kd : Int) (w : World) : Calls Try.prog 61 #[.agg #[.string nm, .int .i64 f, .int .i64 kd]] w (RetX (.bool (decide (kd = 2))) w) := by
  by_cases h : kd = 2
  · subst h
    go_enter Try.func61, Try.ntmps61
    go_wp2
    go_ret
    exact ⟨rfl, (Below.refl _ _).alloc (Nat.le_refl _) _⟩
  · rw [decide_eq_false h]
    go_enter Try.func61, Try.ntmps61
    go_wp2
    go_ret
    exact ⟨by simp [h], (Below.refl _ _).alloc (Nat.le_refl _) _⟩
set_option maxRecDepth 100000 in
set_option maxHeartbeats 2000000 in
theorem g_ix_key (w : World) (B : Nat) (A : Option Addr) (n c : Nat) (xs : List KeyD) (h : RowV 3 KeyV B w (.slice A n c) xs) (hB : B ≤ w.heap.size) :
    Calls Try.prog 60 #[.slice A n c, .func (.func 61) #[] #[]] w (RetX (.int .i64 (lpmI xs)) w) := by
  obtain ⟨hn, hc, hm⟩ := h.len
  have HR := Lib.hid h
  obtain ⟨r, hr⟩ : ∃ r, r = lpmI xs := ⟨_, rfl⟩
  rw [← hr]
  have HRR : Hid (r = ixI 2 (xs.map (·.kind)) 0) := Lib.hid hr
  clear h hr
  go_enter Try.func60, Try.ntmps60
  go_wp2_with fail
  go_loopw [8] (fun i w' => ∃ k : Nat, k ≤ n ∧ i = .int .i64 k ∧ Below w.heap.size w w' ∧ Hid (r = ixI 2 ((xs.map (·.kind)).drop k) k)) (fun i _ => n - (intOf i).toNat)
  case atStart => exact ⟨0, by omega, rfl, Below.refl _ _, HRR⟩
  case round =>
    obtain ⟨k, hk, rfl, hb, hxh⟩ := hrel
    have hx := hxh.out
    clear hxh HRR
    have HB := Lib.hid hb
    clear hb
    by_cases hlt : k < n
    · have hkI : (k : Int) < (n : Int) := by omega
      have hkc : (k : Int) < (c : Int) := by omega
      have hk0 : 0 ≤ (k : Int) := by omega
      obtain ⟨g, oo, e1, x, hxk, _, cs, hcs, hV⟩ := row_at (HR.out.below kept_key (HB.out.mono hB)) (q := k) (by rw [← hn.out]; exact hlt)
      have hlen : k < (xs.map (·.kind)).length := by rw [List.length_map, ← hn.out]; exact hlt
      have hdr : (xs.map (·.kind)).drop k = x.kind :: (xs.map (·.kind)).drop (k + 1) := by
        rw [List.drop_eq_getElem_cons hlen]
        congr 1
        have := List.getElem?_eq_some_iff.1 (show (xs.map (·.kind))[k]? = some x.kind by rw [List.getElem?_map, hxk]; rfl)
        exact this.2
      rw [hdr, ixI] at hx
      obtain ⟨rfl, -⟩ := hV
      subst e1
      have d0 : wr.cell? ⟨g, oo + k * 3, none⟩ = some _ := hcs.at0 _ rfl
      have d1 : wr.cell? ⟨g, oo + k * 3 + 1, none⟩ = some _ := hcs.at 1 _ rfl
      have d2 : wr.cell? ⟨g, oo + k * 3 + 2, none⟩ = some _ := hcs.at 2 _ rfl
      have HX := Lib.hid hx
      clear hdr hx hcs hxk hlen
      go_wp2_with fail
      go_at_call 61
      refine (g_isLpm _ _ _ _).mono ?_
      rintro e w1 ⟨rfl, hb1⟩
      have HB1 := Lib.hid (HB.out.trans (hb1.mono HB.out.size))
      clear hb1
      by_cases hi : x.kind = 2
      · have hval : r = (k : Int) := by rw [HX.out, if_pos hi]
        rw [decide_eq_true hi]
        subst hval
        clear HX
        go_wp2_with fail
        go_ret
        exact ⟨rfl, HB1.out⟩
      · have hval : r = ixI 2 ((xs.map (·.kind)).drop (k + 1)) (k + 1) := by rw [HX.out, if_neg hi]
        have HVAL := Lib.hid hval
        clear hval HX
        rw [decide_eq_false hi]
        go_wp2_with fail
        go_roundw
        case rel => (go_light; exact ⟨k + 1, by omega, by simp, HB1.out, HVAL⟩)
        case measure => simp [intOf]; omega
    · have hkI : ¬ (k : Int) < (n : Int) := by omega
      have hval : r = -1 := by rw [hx, List.drop_of_length_le (by rw [List.length_map, ← hn.out]; omega)]; rfl
      subst hval
      clear hx
      go_wp2_with fail
      go_ret
      exact ⟨rfl, HB.out⟩
set_option maxRecDepth 100000 in
set_option maxHeartbeats 2000000 in
theorem g_Prefix (w : World) (B : Nat) (A4 : Option Addr) (n4 c4 : Nat) (ts : List TableD) (h : RowV 8 TableV B w (.slice A4 n4 c4) ts) (hB : B ≤ w.heap.size) (s0 s1 s2 s3 s5 s6 s7 s8 s9 : Value) (e : EntryD) (A1 : Option Addr) (m1 k1 : Nat) (u : Value) (hr : RowV 8 MatchV B w (.slice A1 m1 k1) e.ms) :
    Calls Try.prog 19 #[.agg #[s0, s1, s2, s3, .slice A4 n4 c4, s5, s6, s7, s8, s9], .agg #[.int .i64 e.table, .slice A1 m1 k1, .int .i64 e.prio, .int .i64 e.action, u]] w (RetX (.int .i64 (preE ts e)) w) := by
  obtain ⟨hn, hc, hm⟩ := h.len
  obtain ⟨hn1, hc1, hm1⟩ := hr.len
  obtain ⟨W0, hW0⟩ : ∃ W, W = ((w.alloc (.cells #[s0, s1, s2, s3, .slice A4 n4 c4, s5, s6, s7, s8, s9] 45)).alloc (.cells #[.int .i64 e.table, .slice A1 m1 k1, .int .i64 e.prio, .int .i64 e.action, u] 51)) := ⟨_, rfl⟩
  have hB0 : Below w.heap.size w W0 := by rw [hW0]; exact (((Below.refl w.heap.size w).alloc (by simp <;> omega) _).alloc (by simp <;> omega) _)
  have hz0 : W0.heap.size = w.heap.size + 2 := by rw [hW0]; simp
  have b0_0 : W0.heap[w.heap.size]? = some (.cells #[s0, s1, s2, s3, .slice A4 n4 c4, s5, s6, s7, s8, s9] 45 (0, 0)) := by
    rw [hW0]
    exact (((Below.refl (w.alloc (.cells #[s0, s1, s2, s3, .slice A4 n4 c4, s5, s6, s7, s8, s9] 45)).heap.size (w.alloc (.cells #[s0, s1, s2, s3, .slice A4 n4 c4, s5, s6, s7, s8, s9] 45))).alloc (by simp <;> omega) _).block w.heap.size (by simp)).trans (heap_alloc_new _ _)
  have b0_1 : W0.heap[w.heap.size + 1]? = some (.cells #[.int .i64 e.table, .slice A1 m1 k1, .int .i64 e.prio, .int .i64 e.action, u] 51 (0, 0)) := by
    rw [hW0]
    rw [show w.heap.size + 1 = (w.alloc (.cells #[s0, s1, s2, s3, .slice A4 n4 c4, s5, s6, s7, s8, s9] 45)).heap.size by simp]
    exact heap_alloc_new _ _
  have KX := Lib.hid (g_tableOf W0 B A4 n4 c4 ts (h.below kept_table (hB0.mono hB)) (Nat.le_trans hB hB0.size) s0 s1 s2 s3 s5 s6 s7 s8 s9 (.slice A1 m1 k1) (.int .i64 e.prio) (.int .i64 e.action) u e.table)
  have HR := Lib.hid hr
  have HB0 := Lib.hid hB0
  have HW0 := Lib.hid hW0
  have Hb1 := Lib.hid b0_1
  obtain ⟨r, hrr⟩ : ∃ r, r = preE ts e := ⟨_, rfl⟩
  rw [← hrr]
  have HPR := Lib.hid hrr
  clear h hr hB0 hW0 b0_0 b0_1 hrr
  go_enter Try.func19, Try.ntmps19
  go_wp2_with fail
  rw [← HW0.out]
  refine KX.out.mono ?_
  rintro en w1 ⟨vk, va, vr, rfl, rk, ra, rr, hb1⟩
  obtain ⟨Ak, nk, ck, rfl, _⟩ := rk.parts
  obtain ⟨Aa, na, ca, rfl, _⟩ := ra.parts
  obtain ⟨Ar, nr, cr, rfl, _⟩ := rr.parts
  have hz1 : w.heap.size + 2 ≤ w1.heap.size := by have := hb1.size; omega
  have HB1 := Lib.hid hb1
  have hB1 : B ≤ w1.heap.size := by omega
  have KI : Hid (∀ W, Below w1.heap.size w1 W → Calls Try.prog 60 #[.slice Ak nk ck, .func (.func 61) #[] #[]] W (RetX (.int .i64 (lpmI (tabOr ts e.table).keys)) W)) :=
    Lib.hid fun W hb => g_ix_key W B Ak nk ck _ (rk.below kept_key (hb.mono hB1)) (Nat.le_trans hB1 hb.size)
  obtain ⟨tb, htb⟩ : ∃ tb, tb = tabOr ts e.table := ⟨_, rfl⟩
  have HTB := Lib.hid htb
  rw [← htb] at KI
  try rw [← htb]
  clear htb rk ra rr hb1
  go_wp2_with fail
  refine (KI.out _ ((Below.refl _ _).alloc (Nat.le_refl _) _)).mono ?_
  rintro en w2 ⟨rfl, hb2⟩
  have hb2' : Below w1.heap.size w1 w2 := ((Below.refl _ _).alloc (Nat.le_refl _) _).trans (hb2.mono (by simp))
  have HB2 := Lib.hid (HB0.out.trans ((HB1.out.trans (hb2'.mono HB1.out.size)).mono HB0.out.size))
  have d1 := (hb2'.block (w.heap.size + 1) (by omega)).trans ((HB1.out.block (w.heap.size + 1) (by omega)).trans Hb1.out)
  have e1 : w2.cell? ⟨w.heap.size + 1, 1, none⟩ = some (.slice A1 m1 k1) := blk_cell d1 1 _ rfl
  have HR2 := Lib.hid (HR.out.below kept_match (HB2.out.mono hB))
  have hrr := HPR.out
  have hr2 : r = match lpmI tb.keys with
    | .ofNat j => ((e.ms[j]?).map (·.pre)).getD 0
    | .negSucc _ => 0 := by rw [hrr, HTB.out]; rfl
  clear hb2 hb2' d1 KI hrr
  rcases ixI_is 2 (tb.keys.map (·.kind)) 0 with ⟨h1, _⟩ | ⟨j, h1, _, _⟩
  · rw [show lpmI tb.keys = -1 from h1] at hr2 ⊢
    have hv : r = 0 := hr2
    subst hv
    clear hr2 h1
    go_wp2_with fail
    go_ret
    exact ⟨rfl, HB2.out⟩
  · rw [Nat.zero_add] at h1
    rw [show lpmI tb.keys = ((j : Nat) : Int) from h1] at hr2 ⊢
    have hj0 : ¬ (j : Int) < 0 := by omega
    have hj1 : 0 ≤ (j : Int) := by omega
    clear h1
    by_cases hjm : j < m1
    · have hj2 : ¬ (m1 : Int) ≤ (j : Int) := by omega
      have hj3 : (j : Int) < (m1 : Int) := by omega
      have hj4 : (j : Int) < (k1 : Int) := by omega
      obtain ⟨g, oo, e5, x, hxk, _, cs, hcs, hV⟩ := row_at HR2.out (q := j) (by rw [← hn1.out]; exact hjm)
      obtain ⟨rfl, -⟩ := hV
      subst e5
      have hv : r = x.pre := by rw [hr2]; show ((e.ms[j]?).map (·.pre)).getD 0 = _; rw [hxk]; rfl
      have d5 : w2.cell? ⟨g, oo + j * 8 + 5, none⟩ = some (.int .i64 x.pre) := hcs.at 5 _ rfl
      subst hv
      clear hr2 hxk hcs
      go_wp2_with fail
      go_ret
      exact ⟨rfl, HB2.out⟩
    · have hj2 : (m1 : Int) ≤ (j : Int) := by omega
      have hv : r = 0 := by
        rw [hr2]
        show ((e.ms[j]?).map (·.pre)).getD 0 = _
        rw [List.getElem?_eq_none (by rw [← hn1.out]; omega)]; rfl
      subst hv
      clear hr2
      go_wp2_with fail
      go_ret
      exact ⟨rfl, HB2.out⟩
end Go.Proofs.Ytjdecoiciecfpaa
