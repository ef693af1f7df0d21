/- Contracts, joined: GBeat, GWin. -/
import Derived.Test.YtldgjahpmlafgaaGreatGPre
namespace Go.Proofs.YtldgjahpmlafgaaGreat
section
open Go.RowKit

def sgI (a b : Int) : Int := if a < b then -1 else if b < a then 1 else 0
def fstNZ : List Int → Int
  | [] => 0
  | x :: r => if x = 0 then fstNZ r else x
def lpmI (ks : List KeyD) : Int := ixI 2 (ks.map (·.kind)) 0
set_option maxRecDepth 100000 in
theorem g_nan (a : Int) (w : World) : Calls Tryz.prog 178 #[.int .i64 a] w fun e w' => e = .returned (.bool false) ∧ w' = w := by
  go_enter Tryz.func178, Tryz.ntmps178
  go_wp2
  go_ret
  exact ⟨by simp, rfl⟩
set_option maxRecDepth 100000 in
set_option maxHeartbeats 2000000 in
theorem g_cmp (a b : Int) (w : World) : Calls Tryz.prog 140 #[.int .i64 a, .int .i64 b] w fun e w' => e = .returned (.int .i64 (sgI a b)) ∧ w' = w := by
  unfold sgI
  by_cases h1 : a < b
  · rw [if_pos h1]
    go_enter Tryz.func140, Tryz.ntmps140
    go_wp2_with (go_at_call 178; refine (g_nan _ _).mono ?_; rintro e w' ⟨rfl, rfl⟩)
    go_ret
    exact ⟨rfl, rfl⟩
  · rw [if_neg h1]
    by_cases h2 : b < a
    · rw [if_pos h2]
      go_enter Tryz.func140, Tryz.ntmps140
      go_wp2_with (go_at_call 178; refine (g_nan _ _).mono ?_; rintro e w' ⟨rfl, rfl⟩)
      go_ret
      exact ⟨rfl, rfl⟩
    · rw [if_neg h2]
      go_enter Tryz.func140, Tryz.ntmps140
      go_wp2_with (go_at_call 178; refine (g_nan _ _).mono ?_; rintro e w' ⟨rfl, rfl⟩)
      go_ret
      exact ⟨rfl, rfl⟩
set_option maxRecDepth 100000 in
set_option maxHeartbeats 2000000 in
theorem g_firstOf (w : World) (L n c : Nat) (xs : List Int) (hn : xs.length = n) (hc : n ≤ c) (hm : n ≤ 1000) (h : ∀ j x, xs[j]? = some x → w.cell? ⟨L, j, none⟩ = some (.int .i64 x)) :
    Calls Tryz.prog 139 #[.slice (some ⟨L, 0, none⟩) n c] w fun e w' => e = .returned (.int .i64 (fstNZ xs)) ∧ Below w.heap.size w w' := by
  have HN := Lib.hid hn
  have HC := Lib.hid h
  obtain ⟨r, hr⟩ : ∃ r, r = fstNZ xs := ⟨_, rfl⟩
  rw [← hr]
  have HRR := Lib.hid hr
  clear hn h hr
  go_enter Tryz.func139, Tryz.ntmps139
  go_wp2_with fail
  go_loopw [7] (fun i w' => ∃ k : Nat, k ≤ n ∧ i = .int .i64 k ∧ w' = w ∧ Hid (r = fstNZ (xs.drop k))) (fun i _ => n - (intOf i).toNat)
  case atStart => exact ⟨0, by omega, rfl, rfl, HRR⟩
  case round =>
    obtain ⟨k, hk, rfl, rfl, hx⟩ := hrel
    by_cases hlt : k < n
    · have hkI : (k : Int) < (n : Int) := by omega
      have hkc : (k : Int) < (c : Int) := by omega
      have hk0 : 0 ≤ (k : Int) := by omega
      obtain ⟨x, hxk⟩ : ∃ x, xs[k]? = some x := ⟨_, List.getElem?_eq_getElem (by rw [HN.out]; exact hlt)⟩
      have cx := HC.out k x hxk
      have hdr : xs.drop k = x :: xs.drop (k + 1) := by
        rw [List.drop_eq_getElem_cons (by rw [HN.out]; exact hlt), (List.getElem?_eq_some_iff.1 hxk).2]
      have hx2 := hx.out
      rw [hdr, fstNZ] at hx2
      clear hx hxk hdr
      by_cases h0 : x = 0
      · rw [if_pos h0] at hx2
        have HX := Lib.hid hx2
        clear hx2
        go_wp2_with fail
        go_roundw
        case rel => (go_light; exact ⟨k + 1, by omega, by simp, by first | exact rfl | exact trivial, HX⟩)
        case measure => simp [intOf]; omega
      · rw [if_neg h0] at hx2
        subst hx2
        go_wp2_with fail
        go_ret
        exact ⟨rfl, Below.refl _ _⟩
    · have hkI : ¬ (k : Int) < (n : Int) := by omega
      have hval : r = 0 := by rw [hx.out, List.drop_of_length_le (by rw [HN.out]; omega)]; rfl
      subst hval
      clear hx
      go_wp2_with fail
      go_ret
      exact ⟨rfl, Below.refl _ _⟩
set_option maxRecDepth 100000 in
set_option maxHeartbeats 2000000 in
theorem g_isLpm (nm : ByteArray) (f kd : Int) (w : World) : Calls Tryz.prog 204 #[.agg #[.string nm, .int .i64 f, .int .i64 kd]] w (RetX (.bool (decide (kd = 2))) w) := by
  by_cases h : kd = 2
  · subst h
    go_enter Tryz.func204, Tryz.ntmps204
    go_wp2
    go_ret
    exact ⟨rfl, (Below.refl _ _).alloc (Nat.le_refl _) _⟩
  · rw [decide_eq_false h]
    go_enter Tryz.func204, Tryz.ntmps204
    go_wp2
    go_ret
    exact ⟨by simp [h], (Below.refl _ _).alloc (Nat.le_refl _) _⟩
set_option maxRecDepth 100000 in
set_option maxHeartbeats 2000000 in
theorem g_ix_key (w : World) (B : Nat) (A : Option Addr) (n c : Nat) (xs : List KeyD) (h : RowV 3 KeyV B w (.slice A n c) xs) (hB : B ≤ w.heap.size) :
    Calls Tryz.prog 166 #[.slice A n c, .func (.func 204) #[] #[]] w (RetX (.int .i64 (lpmI xs)) w) := by
  obtain ⟨hn, hc, hm⟩ := h.len
  have HR := Lib.hid h
  obtain ⟨r, hr⟩ : ∃ r, r = lpmI xs := ⟨_, rfl⟩
  rw [← hr]
  have HRR : Hid (r = ixI 2 (xs.map (·.kind)) 0) := Lib.hid hr
  clear h hr
  go_enter Tryz.func166, Tryz.ntmps166
  go_wp2_with fail
  go_loopw [8] (fun i w' => ∃ k : Nat, k ≤ n ∧ i = .int .i64 k ∧ Below w.heap.size w w' ∧ Hid (r = ixI 2 ((xs.map (·.kind)).drop k) k)) (fun i _ => n - (intOf i).toNat)
  case atStart => exact ⟨0, by omega, rfl, Below.refl _ _, HRR⟩
  case round =>
    obtain ⟨k, hk, rfl, hb, hxh⟩ := hrel
    have hx := hxh.out
    clear hxh HRR
    have HB := Lib.hid hb
    clear hb
    by_cases hlt : k < n
    · have hkI : (k : Int) < (n : Int) := by omega
      have hkc : (k : Int) < (c : Int) := by omega
      have hk0 : 0 ≤ (k : Int) := by omega
      obtain ⟨g, oo, e1, x, hxk, _, cs, hcs, hV⟩ := row_at (HR.out.below kept_key (HB.out.mono hB)) (q := k) (by rw [← hn.out]; exact hlt)
      have hlen : k < (xs.map (·.kind)).length := by rw [List.length_map, ← hn.out]; exact hlt
      have hdr : (xs.map (·.kind)).drop k = x.kind :: (xs.map (·.kind)).drop (k + 1) := by
        rw [List.drop_eq_getElem_cons hlen]
        congr 1
        have := List.getElem?_eq_some_iff.1 (show (xs.map (·.kind))[k]? = some x.kind by rw [List.getElem?_map, hxk]; rfl)
        exact this.2
      rw [hdr, ixI] at hx
      obtain ⟨rfl, -⟩ := hV
      subst e1
      have d0 : wr.cell? ⟨g, oo + k * 3, none⟩ = some _ := hcs.at0 _ rfl
      have d1 : wr.cell? ⟨g, oo + k * 3 + 1, none⟩ = some _ := hcs.at 1 _ rfl
      have d2 : wr.cell? ⟨g, oo + k * 3 + 2, none⟩ = some _ := hcs.at 2 _ rfl
      have HX := Lib.hid hx
      clear hdr hx hcs hxk hlen
      go_wp2_with fail
      go_at_call 204
      refine (g_isLpm _ _ _ _).mono ?_
      rintro e w1 ⟨rfl, hb1⟩
      have HB1 := Lib.hid (HB.out.trans (hb1.mono HB.out.size))
      clear hb1
      by_cases hi : x.kind = 2
      · have hval : r = (k : Int) := by rw [HX.out, if_pos hi]
        rw [decide_eq_true hi]
        subst hval
        clear HX
        go_wp2_with fail
        go_ret
        exact ⟨rfl, HB1.out⟩
      · have hval : r = ixI 2 ((xs.map (·.kind)).drop (k + 1)) (k + 1) := by rw [HX.out, if_neg hi]
        have HVAL := Lib.hid hval
        clear hval HX
        rw [decide_eq_false hi]
        go_wp2_with fail
        go_roundw
        case rel => (go_light; exact ⟨k + 1, by omega, by simp, HB1.out, HVAL⟩)
        case measure => simp [intOf]; omega
    · have hkI : ¬ (k : Int) < (n : Int) := by omega
      have hval : r = -1 := by rw [hx, List.drop_of_length_le (by rw [List.length_map, ← hn.out]; omega)]; rfl
      subst hval
      clear hx
      go_wp2_with fail
      go_ret
      exact ⟨rfl, HB.out⟩
set_option maxRecDepth 100000 in
set_option maxHeartbeats 2000000 in
theorem g_Prefix (w : World) (B : Nat) (A4 : Option Addr) (n4 c4 : Nat) (ts : List TableD) (h : RowV 8 TableV B w (.slice A4 n4 c4) ts) (hB : B ≤ w.heap.size) (s0 s1 s2 s3 s5 s6 s7 s8 s9 : Value) (e : EntryD) (A1 : Option Addr) (m1 k1 : Nat) (u : Value) (hr : RowV 8 MatchV B w (.slice A1 m1 k1) e.ms) :
    Calls Tryz.prog 181 #[.agg #[s0, s1, s2, s3, .slice A4 n4 c4, s5, s6, s7, s8, s9], .agg #[.int .i64 e.table, .slice A1 m1 k1, .int .i64 e.prio, .int .i64 e.action, u]] w (RetX (.int .i64 (preE ts e)) w) := by
  obtain ⟨hn, hc, hm⟩ := h.len
  obtain ⟨hn1, hc1, hm1⟩ := hr.len
  obtain ⟨W0, hW0⟩ : ∃ W, W = ((w.alloc (.cells #[s0, s1, s2, s3, .slice A4 n4 c4, s5, s6, s7, s8, s9] 36)).alloc (.cells #[.int .i64 e.table, .slice A1 m1 k1, .int .i64 e.prio, .int .i64 e.action, u] 26)) := ⟨_, rfl⟩
  have hB0 : Below w.heap.size w W0 := by rw [hW0]; exact (((Below.refl w.heap.size w).alloc (by simp <;> omega) _).alloc (by simp <;> omega) _)
  have hz0 : W0.heap.size = w.heap.size + 2 := by rw [hW0]; simp
  have b0_0 : W0.heap[w.heap.size]? = some (.cells #[s0, s1, s2, s3, .slice A4 n4 c4, s5, s6, s7, s8, s9] 36 (0, 0)) := by
    rw [hW0]
    exact (((Below.refl (w.alloc (.cells #[s0, s1, s2, s3, .slice A4 n4 c4, s5, s6, s7, s8, s9] 36)).heap.size (w.alloc (.cells #[s0, s1, s2, s3, .slice A4 n4 c4, s5, s6, s7, s8, s9] 36))).alloc (by simp <;> omega) _).block w.heap.size (by simp)).trans (heap_alloc_new _ _)
  have b0_1 : W0.heap[w.heap.size + 1]? = some (.cells #[.int .i64 e.table, .slice A1 m1 k1, .int .i64 e.prio, .int .i64 e.action, u] 26 (0, 0)) := by
    rw [hW0]
    rw [show w.heap.size + 1 = (w.alloc (.cells #[s0, s1, s2, s3, .slice A4 n4 c4, s5, s6, s7, s8, s9] 36)).heap.size by simp]
    exact heap_alloc_new _ _
  have KX := Lib.hid (g_tableOf W0 B A4 n4 c4 ts (h.below kept_table (hB0.mono hB)) (Nat.le_trans hB hB0.size) s0 s1 s2 s3 s5 s6 s7 s8 s9 (.slice A1 m1 k1) (.int .i64 e.prio) (.int .i64 e.action) u e.table)
  have HR := Lib.hid hr
  have HB0 := Lib.hid hB0
  have HW0 := Lib.hid hW0
  have Hb1 := Lib.hid b0_1
  obtain ⟨r, hrr⟩ : ∃ r, r = preE ts e := ⟨_, rfl⟩
  rw [← hrr]
  have HPR := Lib.hid hrr
  clear h hr hB0 hW0 b0_0 b0_1 hrr
  go_enter Tryz.func181, Tryz.ntmps181
  go_wp2_with fail
  rw [← HW0.out]
  refine KX.out.mono ?_
  rintro en w1 ⟨vk, va, vr, rfl, rk, ra, rr, hb1⟩
  obtain ⟨Ak, nk, ck, rfl, _⟩ := rk.parts
  obtain ⟨Aa, na, ca, rfl, _⟩ := ra.parts
  obtain ⟨Ar, nr, cr, rfl, _⟩ := rr.parts
  have hz1 : w.heap.size + 2 ≤ w1.heap.size := by have := hb1.size; omega
  have HB1 := Lib.hid hb1
  have hB1 : B ≤ w1.heap.size := by omega
  have KI : Hid (∀ W, Below w1.heap.size w1 W → Calls Tryz.prog 166 #[.slice Ak nk ck, .func (.func 204) #[] #[]] W (RetX (.int .i64 (lpmI (tabOr ts e.table).keys)) W)) :=
    Lib.hid fun W hb => g_ix_key W B Ak nk ck _ (rk.below kept_key (hb.mono hB1)) (Nat.le_trans hB1 hb.size)
  obtain ⟨tb, htb⟩ : ∃ tb, tb = tabOr ts e.table := ⟨_, rfl⟩
  have HTB := Lib.hid htb
  rw [← htb] at KI
  try rw [← htb]
  clear htb rk ra rr hb1
  go_wp2_with fail
  refine (KI.out _ ((Below.refl _ _).alloc (Nat.le_refl _) _)).mono ?_
  rintro en w2 ⟨rfl, hb2⟩
  have hb2' : Below w1.heap.size w1 w2 := ((Below.refl _ _).alloc (Nat.le_refl _) _).trans (hb2.mono (by simp))
  have HB2 := Lib.hid (HB0.out.trans ((HB1.out.trans (hb2'.mono HB1.out.size)).mono HB0.out.size))
  have d1 := (hb2'.block (w.heap.size + 1) (by omega)).trans ((HB1.out.block (w.heap.size + 1) (by omega)).trans Hb1.out)
  have e1 : w2.cell? ⟨w.heap.size + 1, 1, none⟩ = some (.slice A1 m1 k1) := blk_cell d1 1 _ rfl
  have HR2 := Lib.hid (HR.out.below kept_match (HB2.out.mono hB))
  have hrr := HPR.out
  have hr2 : r = match lpmI tb.keys with
    | .ofNat j => ((e.ms[j]?).map (·.pre)).getD 0
    | .negSucc _ => 0 := by rw [hrr, HTB.out]; rfl
  clear hb2 hb2' d1 KI hrr
  rcases ixI_is 2 (tb.keys.map (·.kind)) 0 with ⟨h1, _⟩ | ⟨j, h1, _, _⟩
  · rw [show lpmI tb.keys = -1 from h1] at hr2 ⊢
    have hv : r = 0 := hr2
    subst hv
    clear hr2 h1
    go_wp2_with fail
    go_ret
    exact ⟨rfl, HB2.out⟩
  · rw [Nat.zero_add] at h1
    rw [show lpmI tb.keys = ((j : Nat) : Int) from h1] at hr2 ⊢
    have hj0 : ¬ (j : Int) < 0 := by omega
    have hj1 : 0 ≤ (j : Int) := by omega
    clear h1
    by_cases hjm : j < m1
    · have hj2 : ¬ (m1 : Int) ≤ (j : Int) := by omega
      have hj3 : (j : Int) < (m1 : Int) := by omega
      have hj4 : (j : Int) < (k1 : Int) := by omega
      obtain ⟨g, oo, e5, x, hxk, _, cs, hcs, hV⟩ := row_at HR2.out (q := j) (by rw [← hn1.out]; exact hjm)
      obtain ⟨rfl, -⟩ := hV
      subst e5
      have hv : r = x.pre := by rw [hr2]; show ((e.ms[j]?).map (·.pre)).getD 0 = _; rw [hxk]; rfl
      have d5 : w2.cell? ⟨g, oo + j * 8 + 5, none⟩ = some (.int .i64 x.pre) := hcs.at 5 _ rfl
      subst hv
      clear hr2 hxk hcs
      go_wp2_with fail
      go_ret
      exact ⟨rfl, HB2.out⟩
    · have hj2 : (m1 : Int) ≤ (j : Int) := by omega
      have hv : r = 0 := by
        rw [hr2]
        show ((e.ms[j]?).map (·.pre)).getD 0 = _
        rw [List.getElem?_eq_none (by rw [← hn1.out]; omega)]; rfl
      subst hv
      clear hr2
      go_wp2_with fail
      go_ret
      exact ⟨rfl, HB2.out⟩
end
section
open Go.RowKit

/-- Who wins, by priority, prefix and number. -/
def beatsE (ts : List TableD) (a b : EntryD) (na nb : Int) : Bool := if a.prio = b.prio then (if preE ts a = preE ts b then decide (nb < na) else decide (preE ts b < preE ts a)) else decide (b.prio < a.prio)
theorem beats_fst (ts : List TableD) (a b : EntryD) (na nb : Int) : beatsE ts a b na nb = decide (0 < fstNZ [sgI a.prio b.prio, sgI (preE ts a) (preE ts b), sgI na nb]) := by
  unfold beatsE
  simp only [fstNZ]
  generalize preE ts a = x
  generalize preE ts b = y
  generalize a.prio = x1
  generalize b.prio = y1
  unfold sgI
  rcases Int.lt_trichotomy x1 y1 with h | h | h <;> rcases Int.lt_trichotomy x y with h2 | h2 | h2 <;> rcases Int.lt_trichotomy na nb with h3 | h3 | h3 <;>
    simp [h, h2, h3, Int.lt_irrefl, Int.ne_of_lt, Int.ne_of_gt, Int.lt_asymm] <;> (try simp only [Int.lt_asymm h, if_false]) <;> (try omega) <;> simp_all <;> omega
theorem below_alloc {W0 W : World} (h : Below W0.heap.size W0 W) (o : Obj) : Below W0.heap.size W0 (W.alloc o) := h.alloc h.size _
theorem below_call {W0 W W' : World} (h : Below W0.heap.size W0 W) (h2 : Below W.heap.size W W') : Below W0.heap.size W0 W' := h.trans (h2.mono h.size)
set_option maxRecDepth 100000 in
set_option maxHeartbeats 4000000 in
theorem g_Beats (w : World) (B : Nat) (A4 : Option Addr) (n4 c4 : Nat) (ts : List TableD) (h : RowV 8 TableV B w (.slice A4 n4 c4) ts) (hB : B ≤ w.heap.size) (s0 s1 s2 s3 s5 s6 s7 s8 s9 : Value) (a b : EntryD) (A1 A2 : Option Addr) (m1 k1 m2 k2 : Nat) (u1 u2 o1 o2 : Value) (na nb : Int) (hr1 : RowV 8 MatchV B w (.slice A1 m1 k1) a.ms) (hr2 : RowV 8 MatchV B w (.slice A2 m2 k2) b.ms) :
    Calls Tryz.prog 150 #[.agg #[s0, s1, s2, s3, .slice A4 n4 c4, s5, s6, s7, s8, s9], .agg #[.int .i64 a.table, .slice A1 m1 k1, .int .i64 a.prio, .int .i64 a.action, u1, .int .i64 na, o1], .agg #[.int .i64 b.table, .slice A2 m2 k2, .int .i64 b.prio, .int .i64 b.action, u2, .int .i64 nb, o2]] w (RetX (.bool (beatsE ts a b na nb)) w) := by
  rw [beats_fst]
  obtain ⟨W0, hW0⟩ : ∃ W, W = (((w.alloc (.cells #[s0, s1, s2, s3, .slice A4 n4 c4, s5, s6, s7, s8, s9] 36)).alloc (.cells #[.int .i64 a.table, .slice A1 m1 k1, .int .i64 a.prio, .int .i64 a.action, u1, .int .i64 na, o1] 43)).alloc (.cells #[.int .i64 b.table, .slice A2 m2 k2, .int .i64 b.prio, .int .i64 b.action, u2, .int .i64 nb, o2] 43)) := ⟨_, rfl⟩
  have hB0 : Below w.heap.size w W0 := by rw [hW0]; exact ((((Below.refl w.heap.size w).alloc (by simp <;> omega) _).alloc (by simp <;> omega) _).alloc (by simp <;> omega) _)
  have hz0 : W0.heap.size = w.heap.size + 3 := by rw [hW0]; simp
  have b0_0 : W0.heap[w.heap.size]? = some (.cells #[s0, s1, s2, s3, .slice A4 n4 c4, s5, s6, s7, s8, s9] 36 (0, 0)) := by
    rw [hW0]
    exact ((((Below.refl (w.alloc (.cells #[s0, s1, s2, s3, .slice A4 n4 c4, s5, s6, s7, s8, s9] 36)).heap.size (w.alloc (.cells #[s0, s1, s2, s3, .slice A4 n4 c4, s5, s6, s7, s8, s9] 36))).alloc (by simp <;> omega) _).alloc (by simp <;> omega) _).block w.heap.size (by simp)).trans (heap_alloc_new _ _)
  have b0_1 : W0.heap[w.heap.size + 1]? = some (.cells #[.int .i64 a.table, .slice A1 m1 k1, .int .i64 a.prio, .int .i64 a.action, u1, .int .i64 na, o1] 43 (0, 0)) := by
    rw [hW0]
    rw [show w.heap.size + 1 = (w.alloc (.cells #[s0, s1, s2, s3, .slice A4 n4 c4, s5, s6, s7, s8, s9] 36)).heap.size by simp]
    exact (((Below.refl ((w.alloc (.cells #[s0, s1, s2, s3, .slice A4 n4 c4, s5, s6, s7, s8, s9] 36)).alloc (.cells #[.int .i64 a.table, .slice A1 m1 k1, .int .i64 a.prio, .int .i64 a.action, u1, .int .i64 na, o1] 43)).heap.size ((w.alloc (.cells #[s0, s1, s2, s3, .slice A4 n4 c4, s5, s6, s7, s8, s9] 36)).alloc (.cells #[.int .i64 a.table, .slice A1 m1 k1, .int .i64 a.prio, .int .i64 a.action, u1, .int .i64 na, o1] 43))).alloc (by simp <;> omega) _).block (w.alloc (.cells #[s0, s1, s2, s3, .slice A4 n4 c4, s5, s6, s7, s8, s9] 36)).heap.size (by simp)).trans (heap_alloc_new _ _)
  have b0_2 : W0.heap[w.heap.size + 2]? = some (.cells #[.int .i64 b.table, .slice A2 m2 k2, .int .i64 b.prio, .int .i64 b.action, u2, .int .i64 nb, o2] 43 (0, 0)) := by
    rw [hW0]
    rw [show w.heap.size + 2 = ((w.alloc (.cells #[s0, s1, s2, s3, .slice A4 n4 c4, s5, s6, s7, s8, s9] 36)).alloc (.cells #[.int .i64 a.table, .slice A1 m1 k1, .int .i64 a.prio, .int .i64 a.action, u1, .int .i64 na, o1] 43)).heap.size by simp]
    exact heap_alloc_new _ _
  have K1 : Hid (∀ W, Below W0.heap.size W0 W → Calls Tryz.prog 181 #[.agg #[s0, s1, s2, s3, .slice A4 n4 c4, s5, s6, s7, s8, s9], .agg #[.int .i64 a.table, .slice A1 m1 k1, .int .i64 a.prio, .int .i64 a.action, u1]] W (RetX (.int .i64 (preE ts a)) W)) :=
    Lib.hid fun W hb => g_Prefix W B A4 n4 c4 ts (h.below kept_table ((hB0.trans (hb.mono hB0.size)).mono hB)) (Nat.le_trans hB (Nat.le_trans hB0.size hb.size)) s0 s1 s2 s3 s5 s6 s7 s8 s9 a A1 m1 k1 u1 (hr1.below kept_match ((hB0.trans (hb.mono hB0.size)).mono hB))
  have K2 : Hid (∀ W, Below W0.heap.size W0 W → Calls Tryz.prog 181 #[.agg #[s0, s1, s2, s3, .slice A4 n4 c4, s5, s6, s7, s8, s9], .agg #[.int .i64 b.table, .slice A2 m2 k2, .int .i64 b.prio, .int .i64 b.action, u2]] W (RetX (.int .i64 (preE ts b)) W)) :=
    Lib.hid fun W hb => g_Prefix W B A4 n4 c4 ts (h.below kept_table ((hB0.trans (hb.mono hB0.size)).mono hB)) (Nat.le_trans hB (Nat.le_trans hB0.size hb.size)) s0 s1 s2 s3 s5 s6 s7 s8 s9 b A2 m2 k2 u2 (hr2.below kept_match ((hB0.trans (hb.mono hB0.size)).mono hB))
  have KF : Hid (∀ (W : World) (x y z : Int), Calls Tryz.prog 139 #[.slice (some ⟨W.heap.size, 0, none⟩) 3 3] (W.alloc (.cells #[.int .i64 x, .int .i64 y, .int .i64 z] 3)) fun en w' => en = .returned (.int .i64 (fstNZ [x, y, z])) ∧ Below (W.alloc (.cells #[.int .i64 x, .int .i64 y, .int .i64 z] 3)).heap.size (W.alloc (.cells #[.int .i64 x, .int .i64 y, .int .i64 z] 3)) w') :=
    Lib.hid fun W x y z => g_firstOf _ _ _ _ [x, y, z] rfl (Nat.le_refl _) (by decide) (fun j v hj => by
      rw [World.cell?_alloc_new]
      match j, hj with
      | 0, hj => simpa using hj
      | 1, hj => simpa using hj
      | 2, hj => simpa using hj)
  have HKS : Hid (∀ w', Below W0.heap.size W0 w' → Below W0.heap.size W0 w' ∧ w'.cell? ⟨w.heap.size, 0, none⟩ = some (s0) ∧ w'.cell? ⟨w.heap.size, 1, none⟩ = some (s1) ∧ w'.cell? ⟨w.heap.size, 2, none⟩ = some (s2) ∧ w'.cell? ⟨w.heap.size, 3, none⟩ = some (s3) ∧ w'.cell? ⟨w.heap.size, 4, none⟩ = some (.slice A4 n4 c4) ∧ w'.cell? ⟨w.heap.size, 5, none⟩ = some (s5) ∧ w'.cell? ⟨w.heap.size, 6, none⟩ = some (s6) ∧ w'.cell? ⟨w.heap.size, 7, none⟩ = some (s7) ∧ w'.cell? ⟨w.heap.size, 8, none⟩ = some (s8) ∧ w'.cell? ⟨w.heap.size, 9, none⟩ = some (s9) ∧ w'.cell? ⟨w.heap.size + 1, 0, none⟩ = some (.int .i64 a.table) ∧ w'.cell? ⟨w.heap.size + 1, 1, none⟩ = some (.slice A1 m1 k1) ∧ w'.cell? ⟨w.heap.size + 1, 2, none⟩ = some (.int .i64 a.prio) ∧ w'.cell? ⟨w.heap.size + 1, 3, none⟩ = some (.int .i64 a.action) ∧ w'.cell? ⟨w.heap.size + 1, 4, none⟩ = some (u1) ∧ w'.cell? ⟨w.heap.size + 1, 5, none⟩ = some (.int .i64 na) ∧ w'.cell? ⟨w.heap.size + 2, 0, none⟩ = some (.int .i64 b.table) ∧ w'.cell? ⟨w.heap.size + 2, 1, none⟩ = some (.slice A2 m2 k2) ∧ w'.cell? ⟨w.heap.size + 2, 2, none⟩ = some (.int .i64 b.prio) ∧ w'.cell? ⟨w.heap.size + 2, 3, none⟩ = some (.int .i64 b.action) ∧ w'.cell? ⟨w.heap.size + 2, 4, none⟩ = some (u2) ∧ w'.cell? ⟨w.heap.size + 2, 5, none⟩ = some (.int .i64 nb)) := Lib.hid fun w' hb => by
    have q0 := (hb.block w.heap.size (by omega)).trans b0_0
    have q1 := (hb.block (w.heap.size + 1) (by omega)).trans b0_1
    have q2 := (hb.block (w.heap.size + 2) (by omega)).trans b0_2
    exact ⟨hb, blk_cell q0 0 _ rfl, blk_cell q0 1 _ rfl, blk_cell q0 2 _ rfl, blk_cell q0 3 _ rfl, blk_cell q0 4 _ rfl, blk_cell q0 5 _ rfl, blk_cell q0 6 _ rfl, blk_cell q0 7 _ rfl, blk_cell q0 8 _ rfl, blk_cell q0 9 _ rfl, blk_cell q1 0 _ rfl, blk_cell q1 1 _ rfl, blk_cell q1 2 _ rfl, blk_cell q1 3 _ rfl, blk_cell q1 4 _ rfl, blk_cell q1 5 _ rfl, blk_cell q2 0 _ rfl, blk_cell q2 1 _ rfl, blk_cell q2 2 _ rfl, blk_cell q2 3 _ rfl, blk_cell q2 4 _ rfl, blk_cell q2 5 _ rfl⟩
  obtain ⟨P1, hP1⟩ : ∃ x, x = preE ts a := ⟨_, rfl⟩
  obtain ⟨P2, hP2⟩ : ∃ x, x = preE ts b := ⟨_, rfl⟩
  rw [← hP1] at K1 ⊢
  rw [← hP2] at K2 ⊢
  have HB0 := Lib.hid hB0
  have HW0 := Lib.hid hW0
  clear h hr1 hr2 hB0 hW0 b0_0 b0_1 b0_2 hP1 hP2
  go_enter Tryz.func150, Tryz.ntmps150
  go_upto_region 1 with fail
  change Code.wp _ _ _ _ (((w.alloc (.cells #[s0, s1, s2, s3, .slice A4 n4 c4, s5, s6, s7, s8, s9] 36)).alloc (.cells #[.int .i64 a.table, .slice A1 m1 k1, .int .i64 a.prio, .int .i64 a.action, u1, .int .i64 na, o1] 43)).alloc (.cells #[.int .i64 b.table, .slice A2 m2 k2, .int .i64 b.prio, .int .i64 b.action, u2, .int .i64 nb, o2] 43))
  rw [← HW0.out]
  go_region_held3 (fun w' => Below W0.heap.size W0 w' ∧ w'.cell? ⟨w.heap.size, 0, none⟩ = some (s0) ∧ w'.cell? ⟨w.heap.size, 1, none⟩ = some (s1) ∧ w'.cell? ⟨w.heap.size, 2, none⟩ = some (s2) ∧ w'.cell? ⟨w.heap.size, 3, none⟩ = some (s3) ∧ w'.cell? ⟨w.heap.size, 4, none⟩ = some (.slice A4 n4 c4) ∧ w'.cell? ⟨w.heap.size, 5, none⟩ = some (s5) ∧ w'.cell? ⟨w.heap.size, 6, none⟩ = some (s6) ∧ w'.cell? ⟨w.heap.size, 7, none⟩ = some (s7) ∧ w'.cell? ⟨w.heap.size, 8, none⟩ = some (s8) ∧ w'.cell? ⟨w.heap.size, 9, none⟩ = some (s9) ∧ w'.cell? ⟨w.heap.size + 1, 0, none⟩ = some (.int .i64 a.table) ∧ w'.cell? ⟨w.heap.size + 1, 1, none⟩ = some (.slice A1 m1 k1) ∧ w'.cell? ⟨w.heap.size + 1, 2, none⟩ = some (.int .i64 a.prio) ∧ w'.cell? ⟨w.heap.size + 1, 3, none⟩ = some (.int .i64 a.action) ∧ w'.cell? ⟨w.heap.size + 1, 4, none⟩ = some (u1) ∧ w'.cell? ⟨w.heap.size + 1, 5, none⟩ = some (.int .i64 na) ∧ w'.cell? ⟨w.heap.size + 2, 0, none⟩ = some (.int .i64 b.table) ∧ w'.cell? ⟨w.heap.size + 2, 1, none⟩ = some (.slice A2 m2 k2) ∧ w'.cell? ⟨w.heap.size + 2, 2, none⟩ = some (.int .i64 b.prio) ∧ w'.cell? ⟨w.heap.size + 2, 3, none⟩ = some (.int .i64 b.action) ∧ w'.cell? ⟨w.heap.size + 2, 4, none⟩ = some (u2) ∧ w'.cell? ⟨w.heap.size + 2, 5, none⟩ = some (.int .i64 nb))
    (first
      | exact HKS.out _ (Below.drew (Below.refl _ _))
      | exact HKS.out _ (below_call (And.left (by assumption)) (by assumption))
      | exact HKS.out _ (below_alloc (And.left (by assumption)) _)
      | assumption)
    (first
      | (go_at_call 140; (with_reducible refine (g_cmp _ _ _).mono ?_); rintro en v1 ⟨rfl, rfl⟩)
      | (go_at_call 181; (with_reducible refine (K1.out _ (And.left (by assumption))).mono ?_); rintro en v2 ⟨rfl, hv2⟩)
      | (go_at_call 181; (with_reducible refine (K2.out _ (And.left (by assumption))).mono ?_); rintro en v3 ⟨rfl, hv3⟩)
      | (go_at_call 139; (with_reducible refine (KF.out _ _ _ _).mono ?_); rintro en v4 ⟨rfl, hv4⟩))
  all_goals go_wp2
  all_goals go_ret
  all_goals exact ⟨by first | rfl | simp, HB0.out.trans ((And.left (by assumption : Below W0.heap.size W0 _ ∧ _)).mono HB0.out.size)⟩
end
end Go.Proofs.YtldgjahpmlafgaaGreat
