/- WireBack: its walk. -/
import Derived.Test.YthfimcbjbkbcjaaWBackPure
import Derived.BigRegion
namespace Go.Proofs.Ythfimcbjbkbcjaa
open Go.RowKit

section
variable (A : Option Addr) (D n cap : Nat) (l : List Nat) (w : World)
theorem au1 (x : Int) (hx1 : -9223372036854775808 ≤ x) (hx2 : x ≤ 9223372036854775807) (hr : ReadsL w D A l) (hl : l.length = n) (hn : n ≤ 1000000) : Calls Try.prog 26 #[.slice A n cap, .int .i64 x, .int .i64 1] w (RetS (l ++ encU x 1) w) :=
  auint_any A D n cap l w x 1 (by decide) (by decide) hx1 hx2 hr hl hn
theorem au2 (x : Int) (hx1 : -9223372036854775808 ≤ x) (hx2 : x ≤ 9223372036854775807) (hr : ReadsL w D A l) (hl : l.length = n) (hn : n ≤ 1000000) : Calls Try.prog 26 #[.slice A n cap, .int .i64 x, .int .i64 2] w (RetS (l ++ encU x 2) w) :=
  auint_any A D n cap l w x 2 (by decide) (by decide) hx1 hx2 hr hl hn
theorem au4 (x : Int) (hx1 : -9223372036854775808 ≤ x) (hx2 : x ≤ 9223372036854775807) (hr : ReadsL w D A l) (hl : l.length = n) (hn : n ≤ 1000000) : Calls Try.prog 26 #[.slice A n cap, .int .i64 x, .int .i64 4] w (RetS (l ++ encU x 4) w) :=
  auint_any A D n cap l w x 4 (by decide) (by decide) hx1 hx2 hr hl hn
end
section
variable (R D : Nat) (A : Option Addr) (n cap : Nat) (w : World) (r : List Nat) (v : Int)
theorem gu1 (h0 : 0 ≤ v) (h1 : v < 256) (hR : RdAt w R D (encU v 1 ++ r) 0 A n cap) : Calls Try.prog 16 #[.pointer (some ⟨R, 0, none⟩), .int .i64 1] w (Meth R D (.int .i64 v) r 0 w) :=
  g_uint R D A n cap w r v 1 (by decide) (num_e1 v h0 h1) hR
theorem gu2 (h0 : 0 ≤ v) (h1 : v < 65536) (hR : RdAt w R D (encU v 2 ++ r) 0 A n cap) : Calls Try.prog 16 #[.pointer (some ⟨R, 0, none⟩), .int .i64 2] w (Meth R D (.int .i64 v) r 0 w) :=
  g_uint R D A n cap w r v 2 (by decide) (num_e2 v h0 h1) hR
theorem gu4 (h0 : 0 ≤ v) (h1 : v < 4294967296) (hR : RdAt w R D (encU v 4 ++ r) 0 A n cap) : Calls Try.prog 16 #[.pointer (some ⟨R, 0, none⟩), .int .i64 4] w (Meth R D (.int .i64 v) r 0 w) :=
  g_uint R D A n cap w r v 4 (by decide) (num_e4 v h0 h1) hR
end
/-- The bytes of the i-th element. -/
def recF (f : Nat → OpR) (i : Nat) : List Nat := recL (f i).nn (f i).val ((f i).xs.take (min (f i).sn 40))
/-- What has been written before the q-th of m elements. -/
def BackAt (w : World) (f : Nat → OpR) (m q : Nat) (va : Value) (W : World) : Prop :=
  ∃ la A n cap g, va = .slice A n cap ∧ Hid (n = la.length) ∧ ReadsL W g A la ∧ Below w.heap.size w W ∧ Small la ∧ la.length ≤ 70 * q ∧ Hid (la ++ sufL (recF f) q (m - q) = sufL (recF f) 0 m)
/-- A step of below, seen from a block that stays. -/
theorem keep_below {W W' : World} {b : Nat} (hb : Below W.heap.size W W') (h : b < W.heap.size) : ∀ o, W'.cell? ⟨b, o, none⟩ = W.cell? ⟨b, o, none⟩ := fun o => hb.cell (p := ⟨b, o, none⟩) h
set_option maxRecDepth 100000 in
set_option maxHeartbeats 8000000 in
theorem back_any (a1 : Option Addr) (len1 cap1 : Nat) (f : Nat → OpR) (w : World) (hc1 : len1 ≤ cap1) (hf : OpsAt w a1 len1 f) :
    Calls Try.prog 6 #[.slice a1 len1 cap1] w fun e w' => e = .returned (.bool true) ∧ Below w.heap.size w w' := by
  obtain ⟨m, hm⟩ : ∃ m : Nat, m = min len1 20 := ⟨_, rfl⟩
  have hm20 : m ≤ 20 := by omega
  have hml : m ≤ len1 := by omega
  have e1 : min (len1 : Int) 20 = m := by omega
  have b1 : (m : Int) ≤ (cap1 : Int) := by omega
  have HF := Lib.hid hf
  clear hf hm
  go_enter Try.func6, Try.ntmps6
  go_wp2
  go_loopw [3, 16] (fun va i w' => ∃ q : Nat, q ≤ m ∧ i = .int .i64 q ∧ BackAt w f m q va w') (fun _ i _ => m - (intOf i).toNat)
  case atStart => exact ⟨0, by omega, rfl, [], none, 0, 0, 0, rfl, Lib.hid rfl, .inl rfl, Below.refl _ _, Small.nil, by simp, Lib.hid (by rw [Nat.sub_zero]; rfl)⟩
  case round =>
    obtain ⟨q, hq, rfl, la, A, n, cap, g, rfl, hn, hr, hb, hs, hla, hsuf⟩ := hrel
    by_cases hqm : q < m
    · have hqm' : (q : Int) < (m : Int) := by omega
      obtain ⟨b, o, rfl, hops⟩ := HF.out.resolve_left (by omega)
      have hop := (hops q (by omega)).below hb
      have hqz : 0 ≤ (q : Int) := by omega
      have hF : Hid (la ++ recF f q ++ sufL (recF f) (q + 1) (m - (q + 1)) = sufL (recF f) 0 m) := Lib.hid (by rw [List.append_assoc, ← sufL_step _ _ _ hqm]; exact hsuf.out)
      unfold recF at hF
      have hFr : recL (f q).nn (f q).val ((f q).xs.take (min (f q).sn 40)) = recF f q := rfl
      generalize hxq : f q = x at hop hF hFr
      obtain ⟨kind, nn, most, val, sA, sn, sc, sD, xs⟩ := x
      have d0 : wr.cell? ⟨b, o + q * 6, none⟩ = some (.int .i64 kind) := hop.c0
      have d1 : wr.cell? ⟨b, o + q * 6 + 1, none⟩ = some (.int .i64 nn) := hop.c1
      have d2 : wr.cell? ⟨b, o + q * 6 + 2, none⟩ = some (.int .i64 most) := hop.c2
      have d3 : wr.cell? ⟨b, o + q * 6 + 3, none⟩ = some (.int .u64 (hi val)) := hop.c3
      have d4 : wr.cell? ⟨b, o + q * 6 + 4, none⟩ = some (.int .u64 (lo val)) := hop.c4
      have d5 : wr.cell? ⟨b, o + q * 6 + 5, none⟩ = some (.slice sA sn sc) := hop.c5
      obtain ⟨mm, hmm⟩ : ∃ mm : Nat, mm = min sn 40 := ⟨_, rfl⟩
      have hmin : min (sn : Int) 40 = (mm : Int) := by omega
      have hsc : sn ≤ sc := hop.le
      have hmc : (mm : Int) ≤ (sc : Int) := by omega
      have hm40 : mm ≤ 40 := by omega
      have hv1 : val < 2 ^ 128 := hop.v1
      have hxlen : xs.length = sn := hop.len
      have hX : ReadsL wr sD sA (xs.take mm) := hop.reads.take mm
      have hXl : (xs.take mm).length = mm := by rw [List.length_take]; omega
      have hXs : Small (xs.take mm) := hop.small.take mm
      simp only [← hmm] at hF hFr
      generalize xs.take mm = ys at *
      have m1 : bits .and .i64 nn 255 = nn % 256 := i64_mask nn 8 (by decide)
      have m2 : bits .and .i64 nn 65535 = nn % 65536 := i64_mask nn 16 (by decide)
      have m3 : bits .and .i64 nn 4294967295 = nn % 4294967296 := i64_mask nn 32 (by decide)
      have m4 : bits .and .i64 nn 1 = nn % 2 := i64_mask nn 1 (by decide)
      have HV := Lib.hid hv1
      have HX := Lib.hid hX
      have HXl := Lib.hid hXl
      have HXs := Lib.hid hXs
      have HS := Lib.hid hs
      have HLA := Lib.hid hla
      have HB := Lib.hid hb
      have W0 : Below wr.heap.size wr (wr.alloc (.cells #[.int .i64 kind, .int .i64 nn, .int .i64 most, .int .u64 (hi val), .int .u64 (lo val), .slice sA sn sc] 28)) := (Below.refl _ _).alloc (Nat.le_refl _) _
      have hr0 := hr.kept (row := none) (grown_alloc wr (.cells #[.int .i64 kind, .int .i64 nn, .int .i64 most, .int .u64 (hi val), .int .u64 (lo val), .slice sA sn sc] 28) none) (by simp)
      have HR0 := Lib.hid hr0
      have hnl : n ≤ 100000 := by have := hn.out; omega
      have z0 : wr.heap.size < (wr.alloc (.cells #[.int .i64 kind, .int .i64 nn, .int .i64 most, .int .u64 (hi val), .int .u64 (lo val), .slice sA sn sc] 28)).heap.size := by simp
      have HW0 := Lib.hid W0
      clear hop hops hv1 hX hXl hXs hs hla hb hr hr0 W0 hxlen hsuf hmm hxq
      go_wp2_with fail
      go_at_call 26; refine (au1 A g n cap (la) _ (nn % 256) (by omega) (by omega) HR0.out hn.out.symm (by omega)).mono ?_
      rintro en w1 ⟨A1, n1, c1, g1, rfl, hn1, hr1, hg1, hq1, hb1⟩
      have k1 := keep_below hb1 z0
      have z1 : wr.heap.size < w1.heap.size := Nat.lt_of_lt_of_le z0 hb1.size
      have HW1 := Lib.hid (HW0.out.trans (hb1.mono (Nat.le_of_lt z0)))
      have hl1 : n1 ≤ n + 1 := by have h1 := hn1.out; have h0 := hn.out; simp only [List.length_append, encU_len] at h1; omega
      have HR1 := Lib.hid hr1
      have hb1' := Lib.hid hb1
      clear hr1 hb1 hg1 hq1
      go_wp2_with fail
      go_at_call 26; refine (au2 A1 g1 n1 c1 (la ++ encU (nn % 256) 1) _ (nn % 65536) (by omega) (by omega) HR1.out hn1.out.symm (by omega)).mono ?_
      rintro en w2 ⟨A2, n2, c2, g2, rfl, hn2, hr2, hg2, hq2, hb2⟩
      have k2 := keep_below hb2 z1
      have z2 : wr.heap.size < w2.heap.size := Nat.lt_of_lt_of_le z1 hb2.size
      have HW2 := Lib.hid (HW1.out.trans (hb2.mono (Nat.le_of_lt z1)))
      have hl2 : n2 ≤ n + 3 := by have h1 := hn2.out; have h0 := hn.out; simp only [List.length_append, encU_len] at h1; omega
      have HR2 := Lib.hid hr2
      have hb2' := Lib.hid hb2
      clear hr2 hb2 hg2 hq2
      go_wp2_with fail
      go_at_call 26; refine (au4 A2 g2 n2 c2 (la ++ encU (nn % 256) 1 ++ encU (nn % 65536) 2) _ (nn % 4294967296) (by omega) (by omega) HR2.out hn2.out.symm (by omega)).mono ?_
      rintro en w3 ⟨A3, n3, c3, g3, rfl, hn3, hr3, hg3, hq3, hb3⟩
      have k3 := keep_below hb3 z2
      have z3 : wr.heap.size < w3.heap.size := Nat.lt_of_lt_of_le z2 hb3.size
      have HW3 := Lib.hid (HW2.out.trans (hb3.mono (Nat.le_of_lt z2)))
      have hl3 : n3 ≤ n + 7 := by have h1 := hn3.out; have h0 := hn.out; simp only [List.length_append, encU_len] at h1; omega
      have HR3 := Lib.hid hr3
      have hb3' := Lib.hid hb3
      clear hr3 hb3 hg3 hq3
      go_wp2_with fail
      go_at_call 27; refine (abool_any A3 g3 n3 c3 (la ++ encU (nn % 256) 1 ++ encU (nn % 65536) 2 ++ encU (nn % 4294967296) 4) _ (nn % 2 == 1) HR3.out hn3.out.symm (by omega)).mono ?_
      rintro en w4 ⟨A4, n4, c4, g4, rfl, hn4, hr4, hg4, hq4, hb4⟩
      have k4 := keep_below hb4 z3
      have z4 : wr.heap.size < w4.heap.size := Nat.lt_of_lt_of_le z3 hb4.size
      have HW4 := Lib.hid (HW3.out.trans (hb4.mono (Nat.le_of_lt z3)))
      have hl4 : n4 ≤ n + 8 := by have h1 := hn4.out; have h0 := hn.out; simp only [List.length_append, encU_len, List.length_singleton] at h1; omega
      have HR4 := Lib.hid hr4
      have hb4' := Lib.hid hb4
      clear hr4 hb4 hg4 hq4
      go_wp2_with fail
      have hnv := nb_le val HV.out
      go_at_call 28; refine (avalue_any A4 g4 n4 c4 (la ++ encU (nn % 256) 1 ++ encU (nn % 65536) 2 ++ encU (nn % 4294967296) 4 ++ [if (nn % 2 == 1) = true then 1 else 0]) _ val HV.out HR4.out hn4.out.symm (by omega)).mono ?_
      rintro en w5 ⟨A5, n5, c5, g5, rfl, hn5, hr5, hg5, hq5, hb5⟩
      have k5 := keep_below hb5 z4
      have z5 : wr.heap.size < w5.heap.size := Nat.lt_of_lt_of_le z4 hb5.size
      have HW5 := Lib.hid (HW4.out.trans (hb5.mono (Nat.le_of_lt z4)))
      have hl5 : n5 ≤ n + 25 := by have h1 := hn5.out; have h0 := hn.out; simp only [List.length_append, encU_len, bl_len, List.length_singleton] at h1; omega
      have HR5 := Lib.hid hr5
      have hb5' := Lib.hid hb5
      clear hr5 hb5 hg5 hq5
      go_wp2_with fail
      go_at_call 29; refine (abytes_any A5 g5 n5 c5 (la ++ encU (nn % 256) 1 ++ encU (nn % 65536) 2 ++ encU (nn % 4294967296) 4 ++ [if (nn % 2 == 1) = true then 1 else 0] ++ encU (nb val) 1 ++ bl val) _ sA sD mm sc ys HR5.out hn5.out.symm (by omega) (HX.out.kept (grown_of_below HW5.out none) (by simp)) HXl.out (by omega) (by omega)).mono ?_
      rintro en w6 ⟨A6, n6, c6, g6, rfl, hn6, hr6, hg6, hq6, hb6⟩
      have k6 := keep_below hb6 z5
      have z6 : wr.heap.size < w6.heap.size := Nat.lt_of_lt_of_le z5 hb6.size
      have HW6 := Lib.hid (HW5.out.trans (hb6.mono (Nat.le_of_lt z5)))
      have hl6 : n6 ≤ n + 70 := by have h1 := hn6.out; have h0 := hn.out; have h2 := HXl.out; simp only [List.length_append, encU_len, bl_len, List.length_singleton] at h1; omega
      have HR6 := Lib.hid hr6
      have hb6' := Lib.hid hb6
      clear hr6 hb6 hg6 hq6
      go_wp2_with fail
      go_roundw
      case rel =>
        have hE : la ++ encU (nn % 256) 1 ++ encU (nn % 65536) 2 ++ encU (nn % 4294967296) 4 ++ [if (nn % 2 == 1) = true then 1 else 0] ++ encU (nb val) 1 ++ bl val ++ encU mm 2 ++ ys = la ++ recF f q := by
          rw [← hFr]
          simp only [recL, HXl.out, List.append_assoc]
        rw [hE] at hn6 HR6
        rw [hFr] at hF
        have hsm : Small (recF f q) := by rw [← hFr]; exact recL_small nn val ys HXs.out
        have hrl : (recF f q).length ≤ 70 := by rw [← hFr]; exact recL_len nn val ys HV.out (by have := HXl.out; omega)
        exact ⟨q + 1, by omega, by simp, la ++ recF f q, A6, n6, c6, g6, rfl, hn6, HR6.out, HB.out.trans (HW6.out.mono HB.out.size), HS.out.append hsm, by rw [List.length_append]; have := HLA.out; omega, hF⟩
      case measure => simp [intOf]; omega
    · obtain rfl : q = m := by omega
      have hT : Hid (la = sufL (recF f) 0 q) := Lib.hid (by have := hsuf.out; rw [Nat.sub_self, sufL, List.append_nil] at this; exact this)
      have HB := Lib.hid hb
      have HRL := Lib.hid hr
      have HS := Lib.hid hs
      have hlb : n ≤ 100000 := by have := hn.out; omega
      clear hb hr hs hsuf hla
      go_wp2_with (go_at_call 10; (refine (new_any A g n cap la _ HRL.out HS.out hn.out.symm (by omega)).mono ?_; rintro e w1 ⟨R, D, A1, n1, c1, rfl, hR, hD, hr1, hb1⟩; have HR1 := Lib.hid hr1; have HB1 := Lib.hid (HB.out.trans (hb1.mono HB.out.size)); have hR' : w.heap.size ≤ R := Nat.le_trans HB.out.size hR; clear hr1 hb1 hR hD))
      go_loopw [59] (fun i w' => ∃ p : Nat, p ≤ q ∧ i = .int .i64 p ∧ Below w.heap.size w w' ∧ ∃ A n cap, RdAt w' R D (sufL (recF f) p (q - p)) 0 A n cap) (fun i _ => q - (intOf i).toNat)
      case atStart => exact ⟨0, by omega, rfl, HB1.out, _, _, _, by rw [Nat.sub_zero, ← hT.out]; exact HR1.out⟩
      case round =>
        obtain ⟨p, hp, rfl, hb3, A3, n3, c3, hr3⟩ := hrel
        by_cases hpq : p < q
        · have hpq' : (p : Int) < (q : Int) := by omega
          obtain ⟨b, o, rfl, hops⟩ := HF.out.resolve_left (by omega)
          have hop0 := hops p (by omega)
          have hop := hop0.below hb3
          have hD0 := hop0.dlt
          have hpz : 0 ≤ (p : Int) := by omega
          rw [sufL_step _ _ _ hpq] at hr3
          have hFr : recF f p = recL (f p).nn (f p).val ((f p).xs.take (min (f p).sn 40)) := rfl
          rw [hFr] at hr3
          clear hFr
          generalize f p = x at hop hr3 hD0
          obtain ⟨kind, nn, most, val, sA, sn, sc, sD, xs⟩ := x
          have d0 : wr.cell? ⟨b, o + p * 6, none⟩ = some (.int .i64 kind) := hop.c0
          have d1 : wr.cell? ⟨b, o + p * 6 + 1, none⟩ = some (.int .i64 nn) := hop.c1
          have d2 : wr.cell? ⟨b, o + p * 6 + 2, none⟩ = some (.int .i64 most) := hop.c2
          have d3 : wr.cell? ⟨b, o + p * 6 + 3, none⟩ = some (.int .u64 (hi val)) := hop.c3
          have d4 : wr.cell? ⟨b, o + p * 6 + 4, none⟩ = some (.int .u64 (lo val)) := hop.c4
          have d5 : wr.cell? ⟨b, o + p * 6 + 5, none⟩ = some (.slice sA sn sc) := hop.c5
          obtain ⟨mm, hmm⟩ : ∃ mm : Nat, mm = min sn 40 := ⟨_, rfl⟩
          have hmin : min (sn : Int) 40 = (mm : Int) := by omega
          have hsc : sn ≤ sc := hop.le
          have hmc : (mm : Int) ≤ (sc : Int) := by omega
          have hmz : 0 ≤ (mm : Int) := by omega
          have hm40 : mm ≤ 40 := by omega
          have hv1 : val < 2 ^ 128 := hop.v1
          have hxlen : xs.length = sn := hop.len
          have hX : ReadsL wr sD sA (xs.take mm) := hop.reads.take mm
          have hXl : (xs.take mm).length = mm := by rw [List.length_take]; omega
          simp only [← hmm, recL, List.append_assoc] at hr3
          have hys : xs = [] → xs.take mm = [] := fun e => by rw [e]; simp
          generalize xs.take mm = ys at *
          obtain ⟨rest, hrest⟩ : ∃ rest, Hid (sufL (recF f) (p + 1) (q - (p + 1)) = rest) := ⟨_, Lib.hid rfl⟩
          rw [hrest.out] at hr3
          have m1 : bits .and .i64 nn 255 = nn % 256 := i64_mask nn 8 (by decide)
          have m2 : bits .and .i64 nn 65535 = nn % 65536 := i64_mask nn 16 (by decide)
          have m3 : bits .and .i64 nn 4294967295 = nn % 4294967296 := i64_mask nn 32 (by decide)
          have m4 : bits .and .i64 nn 1 = nn % 2 := i64_mask nn 1 (by decide)
          have HV := Lib.hid hv1
          have HXl := Lib.hid hXl
          have hX0 : Hid (∀ W, (wr.alloc (.cells #[.int .i64 kind, .int .i64 nn, .int .i64 most, .int .u64 (hi val), .int .u64 (lo val), .slice sA sn sc] 28)).drew.grownBy W (some R) → (convert 23 9 (.slice sA mm sc)).run Try.prog W = .ok (.string (strL ys)) W) := Lib.hid (by
            intro W hW
            refine conv_list (D := sD) sc ?_ hXl
            by_cases hy : ys = []
            · exact .inl hy
            · exact (ReadsL.drew (hX.kept (w' := wr.alloc (.cells #[.int .i64 kind, .int .i64 nn, .int .i64 most, .int .u64 (hi val), .int .u64 (lo val), .slice sA sn sc] 28)) (row := none) (grown_alloc wr (.cells #[.int .i64 kind, .int .i64 nn, .int .i64 most, .int .u64 (hi val), .int .u64 (lo val), .slice sA sn sc] 28) none) (by simp))).kept hW (by have hD1 : sD < w.heap.size := hD0 (fun e => hy (hys e)); simp; omega))
          have hRlt := hr3.lt
          have s0 : wr.heap.size ≠ R := by omega
          have HR3 := Lib.hid (rd_alloc hr3 (.cells #[.int .i64 kind, .int .i64 nn, .int .i64 most, .int .u64 (hi val), .int .u64 (lo val), .slice sA sn sc] 28)).drew
          have HB3 := Lib.hid ((hb3.alloc hb3.size (.cells #[.int .i64 kind, .int .i64 nn, .int .i64 most, .int .u64 (hi val), .int .u64 (lo val), .slice sA sn sc] 28)).drew)
          clear hop hop0 hops hv1 hX hXl hr3 hb3 hxlen hmm hys hD0
          have zz : wr.heap.size < (wr.alloc (.cells #[.int .i64 kind, .int .i64 nn, .int .i64 most, .int .u64 (hi val), .int .u64 (lo val), .slice sA sn sc] 28)).drew.heap.size := by simp
          have gg : (wr.alloc (.cells #[.int .i64 kind, .int .i64 nn, .int .i64 most, .int .u64 (hi val), .int .u64 (lo val), .slice sA sn sc] 28)).drew.grownBy (wr.alloc (.cells #[.int .i64 kind, .int .i64 nn, .int .i64 most, .int .u64 (hi val), .int .u64 (lo val), .slice sA sn sc] 28)).drew (some R) := World.grownBy.refl _ _
          go_wp2
          have nc : ∀ j, (wr.alloc (.cells #[.int .i64 kind, .int .i64 nn, .int .i64 most, .int .u64 (hi val), .int .u64 (lo val), .slice sA sn sc] 28)).drew.cell? ⟨wr.heap.size, j, none⟩ = (#[.int .i64 kind, .int .i64 nn, .int .i64 most, .int .u64 (hi val), .int .u64 (lo val), .slice sA sn sc] : Array Value)[j]? := fun j => World.cell?_alloc_new wr _ _ j
          refine wp_region_noPanic ?_
          refine wp_region_held_drew (S := (fun w' : World => w'.cell? ⟨wr.heap.size, 1, none⟩ = some (.int .i64 nn) ∧ w'.cell? ⟨wr.heap.size, 3, none⟩ = some (.int .u64 (hi val)) ∧ w'.cell? ⟨wr.heap.size, 4, none⟩ = some (.int .u64 (lo val)) ∧ w'.cell? ⟨wr.heap.size, 5, none⟩ = some (.slice sA sn sc) ∧ (convert 23 9 (.slice sA mm sc)).run Try.prog w' = .ok (.string (strL ys)) w')) (by kernel_rfl) ⟨nc 1, nc 3, nc 4, nc 5, hX0.out _ gg⟩ (fun hHeld => ?_)
          clear nc
          refine wpAnyH_take (i := 0) (oi := ({ dst := some 63, op := Op.move (Operand.tmp 6), type := _, pos := "law.go:146", after := _, guard := none } : Oper)) (v := ?_) rfl (by kernel_rfl) (by kernel_rfl) (by kernel_rfl) (fun _ _ _ h => h) (Or.inl ⟨by rfl, ?_⟩) hHeld ?_
          rotate_left
          · (intro w1 hSw; (try dsimp only at hSw); go_simp; all_goals with_reducible rfl)
          (try simp only [Act.put, List.setIfInBounds_toArray, List.set_cons_zero, List.set_cons_succ])
          refine wpAnyH_take (i := 2) (oi := ({ dst := some 65, op := Op.fieldAddr 28 (Operand.tmp 8) 1, type := _, pos := "law.go:146", after := _, guard := none } : Oper)) (v := ?_) rfl (by kernel_rfl) (by kernel_rfl) (by kernel_rfl) (fun _ _ _ h => h) (Or.inl ⟨by rfl, ?_⟩) hHeld ?_
          rotate_left
          · (intro w1 hSw; (try dsimp only at hSw); go_simp; all_goals with_reducible rfl)
          (try simp only [Act.put, List.setIfInBounds_toArray, List.set_cons_zero, List.set_cons_succ])
          refine wpAnyH_take (i := 3) (oi := ({ dst := some 66, op := Op.load 3 (Operand.tmp 65), type := _, pos := "law.go:146", after := _, guard := none } : Oper)) (v := ?_) rfl (by kernel_rfl) (by kernel_rfl) (by kernel_rfl) (fun _ _ _ h => h) (Or.inl ⟨by rfl, ?_⟩) hHeld ?_
          rotate_left
          · (intro w1 hSw; (try dsimp only at hSw); go_simp; all_goals with_reducible rfl)
          (try simp only [Act.put, List.setIfInBounds_toArray, List.set_cons_zero, List.set_cons_succ])
          refine wpAnyH_take (i := 4) (oi := ({ dst := some 67, op := Op.binOp BinOp.and 3 (Operand.tmp 66) (Operand.const (Value.int IntKind.i64 255)) 3, type := _, pos := "law.go:146", after := _, guard := none } : Oper)) (v := ?_) rfl (by kernel_rfl) (by kernel_rfl) (by kernel_rfl) (fun _ _ _ h => h) (Or.inl ⟨by rfl, ?_⟩) hHeld ?_
          rotate_left
          · (intro w1 hSw; (try dsimp only at hSw); go_simp; all_goals with_reducible rfl)
          (try simp only [Act.put, List.setIfInBounds_toArray, List.set_cons_zero, List.set_cons_succ])
          refine wpAnyH_ready (rs := [1]) (by kernel_rfl) (by simp) ?_
          refine AllReadyH.cons (o := ({ dst := some 64, op := Op.call { callee := Callee.value (Operand.func 16), args := #[Operand.tmp 63, Operand.const (Value.int IntKind.i64 1)], argTypes := _ }, type := _, pos := "law.go:146", after := _, guard := none } : Oper)) rfl (fun K hK => ?_) AllReadyH.nil
          go_simp
          go_wp2_with (go_at_call 16; (refine (gu1 R D _ _ _ _ _ (nn % 256) (by omega) (by omega) HR3.out).mono ?_; rintro en w11 ⟨rfl, G11, A11, n11, c11, r11⟩; have kk := keep_row G11 (b := wr.heap.size) zz s0; have zz := Nat.lt_of_lt_of_le zz G11.size; have gg := gg.trans G11; have cvv := hX0.out _ gg; have HR21 := Lib.hid r11; clear r11))
          refine hK.out _ _ ?_ (fun hHeld2 => ?_)
          · first | exact hHeld | exact ⟨(kk _).trans hHeld.1, (kk _).trans hHeld.2.1, (kk _).trans hHeld.2.2.1, (kk _).trans hHeld.2.2.2.1, cvv⟩
          clear hK K hHeld
          have hHeld := hHeld2
          clear hHeld2
          (try simp only [Act.put, List.setIfInBounds_toArray, List.set_cons_zero, List.set_cons_succ])
          refine wpAnyH_take (i := 5) (oi := ({ dst := some 68, op := Op.binOp BinOp.neq 3 (Operand.tmp 64) (Operand.tmp 67) 3, type := _, pos := "law.go:146", after := _, guard := none } : Oper)) (v := ?_) rfl (by kernel_rfl) (by kernel_rfl) (by kernel_rfl) (fun _ _ _ h => h) (Or.inl ⟨by rfl, ?_⟩) hHeld ?_
          rotate_left
          · (intro w1 hSw; (try dsimp only at hSw); go_simp; all_goals with_reducible rfl)
          (try simp only [Act.put, List.setIfInBounds_toArray, List.set_cons_zero, List.set_cons_succ])
          refine wpAnyH_take (i := 6) (oi := ({ dst := some 69, op := Op.move (Operand.tmp 68), type := _, pos := "law.go:146", after := _, guard := none } : Oper)) (v := ?_) rfl (by kernel_rfl) (by kernel_rfl) (by kernel_rfl) (fun _ _ _ h => h) (Or.inl ⟨by rfl, ?_⟩) hHeld ?_
          rotate_left
          · (intro w1 hSw; (try dsimp only at hSw); go_simp; all_goals with_reducible rfl)
          (try simp only [Act.put, List.setIfInBounds_toArray, List.set_cons_zero, List.set_cons_succ])
          refine wpAnyH_take (i := 7) (oi := ({ dst := some 70, op := Op.move (Operand.tmp 6), type := _, pos := "law.go:146", after := _, guard := some (6, false) } : Oper)) (v := ?_) rfl (by kernel_rfl) (by kernel_rfl) (by kernel_rfl) (fun _ _ _ h => h) (Or.inl ⟨by rfl, ?_⟩) hHeld ?_
          rotate_left
          · (intro w1 hSw; (try dsimp only at hSw); go_simp; all_goals with_reducible rfl)
          (try simp only [Act.put, List.setIfInBounds_toArray, List.set_cons_zero, List.set_cons_succ])
          refine wpAnyH_take (i := 9) (oi := ({ dst := some 72, op := Op.fieldAddr 28 (Operand.tmp 8) 1, type := _, pos := "law.go:146", after := _, guard := some (6, false) } : Oper)) (v := ?_) rfl (by kernel_rfl) (by kernel_rfl) (by kernel_rfl) (fun _ _ _ h => h) (Or.inl ⟨by rfl, ?_⟩) hHeld ?_
          rotate_left
          · (intro w1 hSw; (try dsimp only at hSw); go_simp; all_goals with_reducible rfl)
          (try simp only [Act.put, List.setIfInBounds_toArray, List.set_cons_zero, List.set_cons_succ])
          refine wpAnyH_take (i := 10) (oi := ({ dst := some 73, op := Op.load 3 (Operand.tmp 72), type := _, pos := "law.go:146", after := _, guard := some (6, false) } : Oper)) (v := ?_) rfl (by kernel_rfl) (by kernel_rfl) (by kernel_rfl) (fun _ _ _ h => h) (Or.inl ⟨by rfl, ?_⟩) hHeld ?_
          rotate_left
          · (intro w1 hSw; (try dsimp only at hSw); go_simp; all_goals with_reducible rfl)
          (try simp only [Act.put, List.setIfInBounds_toArray, List.set_cons_zero, List.set_cons_succ])
          refine wpAnyH_take (i := 11) (oi := ({ dst := some 74, op := Op.binOp BinOp.and 3 (Operand.tmp 73) (Operand.const (Value.int IntKind.i64 65535)) 3, type := _, pos := "law.go:146", after := _, guard := some (6, false) } : Oper)) (v := ?_) rfl (by kernel_rfl) (by kernel_rfl) (by kernel_rfl) (fun _ _ _ h => h) (Or.inl ⟨by rfl, ?_⟩) hHeld ?_
          rotate_left
          · (intro w1 hSw; (try dsimp only at hSw); go_simp; all_goals with_reducible rfl)
          (try simp only [Act.put, List.setIfInBounds_toArray, List.set_cons_zero, List.set_cons_succ])
          refine wpAnyH_ready (rs := [8]) (by kernel_rfl) (by simp) ?_
          refine AllReadyH.cons (o := ({ dst := some 71, op := Op.call { callee := Callee.value (Operand.func 16), args := #[Operand.tmp 70, Operand.const (Value.int IntKind.i64 2)], argTypes := _ }, type := _, pos := "law.go:146", after := _, guard := some (6, false) } : Oper)) rfl (fun K hK => ?_) AllReadyH.nil
          go_simp
          go_wp2_with (go_at_call 16; (refine (gu2 R D _ _ _ _ _ (nn % 65536) (by omega) (by omega) HR21.out).mono ?_; rintro en w12 ⟨rfl, G12, A12, n12, c12, r12⟩; have kk := keep_row G12 (b := wr.heap.size) zz s0; have zz := Nat.lt_of_lt_of_le zz G12.size; have gg := gg.trans G12; have cvv := hX0.out _ gg; have HR22 := Lib.hid r12; clear r12))
          refine hK.out _ _ ?_ (fun hHeld2 => ?_)
          · first | exact hHeld | exact ⟨(kk _).trans hHeld.1, (kk _).trans hHeld.2.1, (kk _).trans hHeld.2.2.1, (kk _).trans hHeld.2.2.2.1, cvv⟩
          clear hK K hHeld
          have hHeld := hHeld2
          clear hHeld2
          (try simp only [Act.put, List.setIfInBounds_toArray, List.set_cons_zero, List.set_cons_succ])
          refine wpAnyH_take (i := 12) (oi := ({ dst := some 75, op := Op.binOp BinOp.neq 3 (Operand.tmp 71) (Operand.tmp 74) 3, type := _, pos := "law.go:146", after := _, guard := some (6, false) } : Oper)) (v := ?_) rfl (by kernel_rfl) (by kernel_rfl) (by kernel_rfl) (fun _ _ _ h => h) (Or.inl ⟨by rfl, ?_⟩) hHeld ?_
          rotate_left
          · (intro w1 hSw; (try dsimp only at hSw); go_simp; all_goals with_reducible rfl)
          (try simp only [Act.put, List.setIfInBounds_toArray, List.set_cons_zero, List.set_cons_succ])
          refine wpAnyH_take (i := 13) (oi := ({ dst := some 76, op := Op.pick (Operand.tmp 69) (Operand.const (Value.bool true)) (Operand.tmp 75), type := _, pos := "law.go:146", after := _, guard := none } : Oper)) (v := ?_) rfl (by kernel_rfl) (by kernel_rfl) (by kernel_rfl) (fun _ _ _ h => h) (Or.inl ⟨by rfl, ?_⟩) hHeld ?_
          rotate_left
          · (intro w1 hSw; (try dsimp only at hSw); go_simp; all_goals with_reducible rfl)
          (try simp only [Act.put, List.setIfInBounds_toArray, List.set_cons_zero, List.set_cons_succ])
          refine wpAnyH_take (i := 14) (oi := ({ dst := some 77, op := Op.move (Operand.tmp 76), type := _, pos := "law.go:146", after := _, guard := none } : Oper)) (v := ?_) rfl (by kernel_rfl) (by kernel_rfl) (by kernel_rfl) (fun _ _ _ h => h) (Or.inl ⟨by rfl, ?_⟩) hHeld ?_
          rotate_left
          · (intro w1 hSw; (try dsimp only at hSw); go_simp; all_goals with_reducible rfl)
          (try simp only [Act.put, List.setIfInBounds_toArray, List.set_cons_zero, List.set_cons_succ])
          refine wpAnyH_take (i := 15) (oi := ({ dst := some 78, op := Op.move (Operand.tmp 6), type := _, pos := "law.go:146", after := _, guard := some (14, false) } : Oper)) (v := ?_) rfl (by kernel_rfl) (by kernel_rfl) (by kernel_rfl) (fun _ _ _ h => h) (Or.inl ⟨by rfl, ?_⟩) hHeld ?_
          rotate_left
          · (intro w1 hSw; (try dsimp only at hSw); go_simp; all_goals with_reducible rfl)
          (try simp only [Act.put, List.setIfInBounds_toArray, List.set_cons_zero, List.set_cons_succ])
          refine wpAnyH_take (i := 17) (oi := ({ dst := some 80, op := Op.fieldAddr 28 (Operand.tmp 8) 1, type := _, pos := "law.go:146", after := _, guard := some (14, false) } : Oper)) (v := ?_) rfl (by kernel_rfl) (by kernel_rfl) (by kernel_rfl) (fun _ _ _ h => h) (Or.inl ⟨by rfl, ?_⟩) hHeld ?_
          rotate_left
          · (intro w1 hSw; (try dsimp only at hSw); go_simp; all_goals with_reducible rfl)
          (try simp only [Act.put, List.setIfInBounds_toArray, List.set_cons_zero, List.set_cons_succ])
          refine wpAnyH_take (i := 18) (oi := ({ dst := some 81, op := Op.load 3 (Operand.tmp 80), type := _, pos := "law.go:146", after := _, guard := some (14, false) } : Oper)) (v := ?_) rfl (by kernel_rfl) (by kernel_rfl) (by kernel_rfl) (fun _ _ _ h => h) (Or.inl ⟨by rfl, ?_⟩) hHeld ?_
          rotate_left
          · (intro w1 hSw; (try dsimp only at hSw); go_simp; all_goals with_reducible rfl)
          (try simp only [Act.put, List.setIfInBounds_toArray, List.set_cons_zero, List.set_cons_succ])
          refine wpAnyH_take (i := 19) (oi := ({ dst := some 82, op := Op.binOp BinOp.and 3 (Operand.tmp 81) (Operand.const (Value.int IntKind.i64 4294967295)) 3, type := _, pos := "law.go:146", after := _, guard := some (14, false) } : Oper)) (v := ?_) rfl (by kernel_rfl) (by kernel_rfl) (by kernel_rfl) (fun _ _ _ h => h) (Or.inl ⟨by rfl, ?_⟩) hHeld ?_
          rotate_left
          · (intro w1 hSw; (try dsimp only at hSw); go_simp; all_goals with_reducible rfl)
          (try simp only [Act.put, List.setIfInBounds_toArray, List.set_cons_zero, List.set_cons_succ])
          refine wpAnyH_ready (rs := [16]) (by kernel_rfl) (by simp) ?_
          refine AllReadyH.cons (o := ({ dst := some 79, op := Op.call { callee := Callee.value (Operand.func 16), args := #[Operand.tmp 78, Operand.const (Value.int IntKind.i64 4)], argTypes := _ }, type := _, pos := "law.go:146", after := _, guard := some (14, false) } : Oper)) rfl (fun K hK => ?_) AllReadyH.nil
          go_simp
          go_wp2_with (go_at_call 16; (refine (gu4 R D _ _ _ _ _ (nn % 4294967296) (by omega) (by omega) HR22.out).mono ?_; rintro en w13 ⟨rfl, G13, A13, n13, c13, r13⟩; have kk := keep_row G13 (b := wr.heap.size) zz s0; have zz := Nat.lt_of_lt_of_le zz G13.size; have gg := gg.trans G13; have cvv := hX0.out _ gg; have HR23 := Lib.hid r13; clear r13))
          refine hK.out _ _ ?_ (fun hHeld2 => ?_)
          · first | exact hHeld | exact ⟨(kk _).trans hHeld.1, (kk _).trans hHeld.2.1, (kk _).trans hHeld.2.2.1, (kk _).trans hHeld.2.2.2.1, cvv⟩
          clear hK K hHeld
          have hHeld := hHeld2
          clear hHeld2
          (try simp only [Act.put, List.setIfInBounds_toArray, List.set_cons_zero, List.set_cons_succ])
          refine wpAnyH_take (i := 20) (oi := ({ dst := some 83, op := Op.binOp BinOp.neq 3 (Operand.tmp 79) (Operand.tmp 82) 3, type := _, pos := "law.go:146", after := _, guard := some (14, false) } : Oper)) (v := ?_) rfl (by kernel_rfl) (by kernel_rfl) (by kernel_rfl) (fun _ _ _ h => h) (Or.inl ⟨by rfl, ?_⟩) hHeld ?_
          rotate_left
          · (intro w1 hSw; (try dsimp only at hSw); go_simp; all_goals with_reducible rfl)
          (try simp only [Act.put, List.setIfInBounds_toArray, List.set_cons_zero, List.set_cons_succ])
          refine wpAnyH_take (i := 21) (oi := ({ dst := some 84, op := Op.pick (Operand.tmp 77) (Operand.const (Value.bool true)) (Operand.tmp 83), type := _, pos := "law.go:146", after := _, guard := none } : Oper)) (v := ?_) rfl (by kernel_rfl) (by kernel_rfl) (by kernel_rfl) (fun _ _ _ h => h) (Or.inl ⟨by rfl, ?_⟩) hHeld ?_
          rotate_left
          · (intro w1 hSw; (try dsimp only at hSw); go_simp; all_goals with_reducible rfl)
          (try simp only [Act.put, List.setIfInBounds_toArray, List.set_cons_zero, List.set_cons_succ])
          refine wpAnyH_take (i := 22) (oi := ({ dst := some 85, op := Op.move (Operand.tmp 84), type := _, pos := "law.go:146", after := _, guard := none } : Oper)) (v := ?_) rfl (by kernel_rfl) (by kernel_rfl) (by kernel_rfl) (fun _ _ _ h => h) (Or.inl ⟨by rfl, ?_⟩) hHeld ?_
          rotate_left
          · (intro w1 hSw; (try dsimp only at hSw); go_simp; all_goals with_reducible rfl)
          (try simp only [Act.put, List.setIfInBounds_toArray, List.set_cons_zero, List.set_cons_succ])
          refine wpAnyH_take (i := 23) (oi := ({ dst := some 86, op := Op.move (Operand.tmp 6), type := _, pos := "law.go:146", after := _, guard := some (22, false) } : Oper)) (v := ?_) rfl (by kernel_rfl) (by kernel_rfl) (by kernel_rfl) (fun _ _ _ h => h) (Or.inl ⟨by rfl, ?_⟩) hHeld ?_
          rotate_left
          · (intro w1 hSw; (try dsimp only at hSw); go_simp; all_goals with_reducible rfl)
          (try simp only [Act.put, List.setIfInBounds_toArray, List.set_cons_zero, List.set_cons_succ])
          refine wpAnyH_take (i := 25) (oi := ({ dst := some 88, op := Op.fieldAddr 28 (Operand.tmp 8) 1, type := _, pos := "law.go:146", after := _, guard := some (22, false) } : Oper)) (v := ?_) rfl (by kernel_rfl) (by kernel_rfl) (by kernel_rfl) (fun _ _ _ h => h) (Or.inl ⟨by rfl, ?_⟩) hHeld ?_
          rotate_left
          · (intro w1 hSw; (try dsimp only at hSw); go_simp; all_goals with_reducible rfl)
          (try simp only [Act.put, List.setIfInBounds_toArray, List.set_cons_zero, List.set_cons_succ])
          refine wpAnyH_take (i := 26) (oi := ({ dst := some 89, op := Op.load 3 (Operand.tmp 88), type := _, pos := "law.go:146", after := _, guard := some (22, false) } : Oper)) (v := ?_) rfl (by kernel_rfl) (by kernel_rfl) (by kernel_rfl) (fun _ _ _ h => h) (Or.inl ⟨by rfl, ?_⟩) hHeld ?_
          rotate_left
          · (intro w1 hSw; (try dsimp only at hSw); go_simp; all_goals with_reducible rfl)
          (try simp only [Act.put, List.setIfInBounds_toArray, List.set_cons_zero, List.set_cons_succ])
          refine wpAnyH_take (i := 27) (oi := ({ dst := some 90, op := Op.binOp BinOp.and 3 (Operand.tmp 89) (Operand.const (Value.int IntKind.i64 1)) 3, type := _, pos := "law.go:146", after := _, guard := some (22, false) } : Oper)) (v := ?_) rfl (by kernel_rfl) (by kernel_rfl) (by kernel_rfl) (fun _ _ _ h => h) (Or.inl ⟨by rfl, ?_⟩) hHeld ?_
          rotate_left
          · (intro w1 hSw; (try dsimp only at hSw); go_simp; all_goals with_reducible rfl)
          (try simp only [Act.put, List.setIfInBounds_toArray, List.set_cons_zero, List.set_cons_succ])
          refine wpAnyH_take (i := 28) (oi := ({ dst := some 91, op := Op.binOp BinOp.eql 3 (Operand.tmp 90) (Operand.const (Value.int IntKind.i64 1)) 3, type := _, pos := "law.go:146", after := _, guard := some (22, false) } : Oper)) (v := ?_) rfl (by kernel_rfl) (by kernel_rfl) (by kernel_rfl) (fun _ _ _ h => h) (Or.inl ⟨by rfl, ?_⟩) hHeld ?_
          rotate_left
          · (intro w1 hSw; (try dsimp only at hSw); go_simp; all_goals with_reducible rfl)
          (try simp only [Act.put, List.setIfInBounds_toArray, List.set_cons_zero, List.set_cons_succ])
          refine wpAnyH_ready (rs := [24]) (by kernel_rfl) (by simp) ?_
          refine AllReadyH.cons (o := ({ dst := some 87, op := Op.call { callee := Callee.value (Operand.func 18), args := #[Operand.tmp 86], argTypes := _ }, type := _, pos := "law.go:146", after := _, guard := some (22, false) } : Oper)) rfl (fun K hK => ?_) AllReadyH.nil
          go_simp
          go_wp2_with (go_at_call 18; (refine (g_bool R D _ _ _ _ _ (nn % 2 == 1) HR23.out).mono ?_; rintro en w14 ⟨rfl, G14, A14, n14, c14, r14⟩; have kk := keep_row G14 (b := wr.heap.size) zz s0; have zz := Nat.lt_of_lt_of_le zz G14.size; have gg := gg.trans G14; have cvv := hX0.out _ gg; have HR24 := Lib.hid r14; clear r14))
          refine hK.out _ _ ?_ (fun hHeld2 => ?_)
          · first | exact hHeld | exact ⟨(kk _).trans hHeld.1, (kk _).trans hHeld.2.1, (kk _).trans hHeld.2.2.1, (kk _).trans hHeld.2.2.2.1, cvv⟩
          clear hK K hHeld
          have hHeld := hHeld2
          clear hHeld2
          (try simp only [Act.put, List.setIfInBounds_toArray, List.set_cons_zero, List.set_cons_succ])
          refine wpAnyH_take (i := 29) (oi := ({ dst := some 92, op := Op.binOp BinOp.neq 4 (Operand.tmp 87) (Operand.tmp 91) 4, type := _, pos := "law.go:146", after := _, guard := some (22, false) } : Oper)) (v := ?_) rfl (by kernel_rfl) (by kernel_rfl) (by kernel_rfl) (fun _ _ _ h => h) (Or.inl ⟨by rfl, ?_⟩) hHeld ?_
          rotate_left
          · (intro w1 hSw; (try dsimp only at hSw); go_simp; all_goals with_reducible rfl)
          (try simp only [Act.put, List.setIfInBounds_toArray, List.set_cons_zero, List.set_cons_succ])
          refine wpAnyH_take (i := 30) (oi := ({ dst := some 93, op := Op.pick (Operand.tmp 85) (Operand.const (Value.bool true)) (Operand.tmp 92), type := _, pos := "law.go:146", after := _, guard := none } : Oper)) (v := ?_) rfl (by kernel_rfl) (by kernel_rfl) (by kernel_rfl) (fun _ _ _ h => h) (Or.inl ⟨by rfl, ?_⟩) hHeld ?_
          rotate_left
          · (intro w1 hSw; (try dsimp only at hSw); go_simp; all_goals with_reducible rfl)
          (try simp only [Act.put, List.setIfInBounds_toArray, List.set_cons_zero, List.set_cons_succ])
          refine wpAnyH_take (i := 31) (oi := ({ dst := some 94, op := Op.move (Operand.tmp 93), type := _, pos := "law.go:146", after := _, guard := none } : Oper)) (v := ?_) rfl (by kernel_rfl) (by kernel_rfl) (by kernel_rfl) (fun _ _ _ h => h) (Or.inl ⟨by rfl, ?_⟩) hHeld ?_
          rotate_left
          · (intro w1 hSw; (try dsimp only at hSw); go_simp; all_goals with_reducible rfl)
          (try simp only [Act.put, List.setIfInBounds_toArray, List.set_cons_zero, List.set_cons_succ])
          refine wpAnyH_take (i := 32) (oi := ({ dst := some 95, op := Op.move (Operand.tmp 6), type := _, pos := "law.go:146", after := _, guard := some (31, false) } : Oper)) (v := ?_) rfl (by kernel_rfl) (by kernel_rfl) (by kernel_rfl) (fun _ _ _ h => h) (Or.inl ⟨by rfl, ?_⟩) hHeld ?_
          rotate_left
          · (intro w1 hSw; (try dsimp only at hSw); go_simp; all_goals with_reducible rfl)
          (try simp only [Act.put, List.setIfInBounds_toArray, List.set_cons_zero, List.set_cons_succ])
          refine wpAnyH_take (i := 34) (oi := ({ dst := some 97, op := Op.fieldAddr 28 (Operand.tmp 8) 3, type := _, pos := "law.go:146", after := _, guard := some (31, false) } : Oper)) (v := ?_) rfl (by kernel_rfl) (by kernel_rfl) (by kernel_rfl) (fun _ _ _ h => h) (Or.inl ⟨by rfl, ?_⟩) hHeld ?_
          rotate_left
          · (intro w1 hSw; (try dsimp only at hSw); go_simp; all_goals with_reducible rfl)
          (try simp only [Act.put, List.setIfInBounds_toArray, List.set_cons_zero, List.set_cons_succ])
          refine wpAnyH_take (i := 35) (oi := ({ dst := some 98, op := Op.load 26 (Operand.tmp 97), type := _, pos := "law.go:146", after := _, guard := some (31, false) } : Oper)) (v := ?_) rfl (by kernel_rfl) (by kernel_rfl) (by kernel_rfl) (fun _ _ _ h => h) (Or.inl ⟨by rfl, ?_⟩) hHeld ?_
          rotate_left
          · (intro w1 hSw; (try dsimp only at hSw); go_simp; all_goals with_reducible rfl)
          (try simp only [Act.put, List.setIfInBounds_toArray, List.set_cons_zero, List.set_cons_succ])
          refine wpAnyH_ready (rs := [33]) (by kernel_rfl) (by simp) ?_
          refine AllReadyH.cons (o := ({ dst := some 96, op := Op.call { callee := Callee.value (Operand.func 24), args := #[Operand.tmp 95], argTypes := _ }, type := _, pos := "law.go:146", after := _, guard := some (31, false) } : Oper)) rfl (fun K hK => ?_) AllReadyH.nil
          go_simp
          go_wp2_with (go_at_call 24; (refine (g_value R D _ _ _ _ _ val HV.out HR24.out).mono ?_; rintro en w15 ⟨rfl, G15, A15, n15, c15, r15⟩; have kk := keep_row G15 (b := wr.heap.size) zz s0; have zz := Nat.lt_of_lt_of_le zz G15.size; have gg := gg.trans G15; have cvv := hX0.out _ gg; have HR25 := Lib.hid r15; clear r15))
          refine hK.out _ _ ?_ (fun hHeld2 => ?_)
          · first | exact hHeld | exact ⟨(kk _).trans hHeld.1, (kk _).trans hHeld.2.1, (kk _).trans hHeld.2.2.1, (kk _).trans hHeld.2.2.2.1, cvv⟩
          clear hK K hHeld
          have hHeld := hHeld2
          clear hHeld2
          (try simp only [Act.put, List.setIfInBounds_toArray, List.set_cons_zero, List.set_cons_succ])
          refine wpAnyH_take (i := 36) (oi := ({ dst := some 99, op := Op.binOp BinOp.neq 26 (Operand.tmp 96) (Operand.tmp 98) 26, type := _, pos := "law.go:146", after := _, guard := some (31, false) } : Oper)) (v := ?_) rfl (by kernel_rfl) (by kernel_rfl) (by kernel_rfl) (fun _ _ _ h => h) (Or.inl ⟨by rfl, ?_⟩) hHeld ?_
          rotate_left
          · (intro w1 hSw; (try dsimp only at hSw); go_simp; all_goals with_reducible rfl)
          (try simp only [Act.put, List.setIfInBounds_toArray, List.set_cons_zero, List.set_cons_succ])
          refine wpAnyH_take (i := 37) (oi := ({ dst := some 100, op := Op.pick (Operand.tmp 94) (Operand.const (Value.bool true)) (Operand.tmp 99), type := _, pos := "law.go:146", after := _, guard := none } : Oper)) (v := ?_) rfl (by kernel_rfl) (by kernel_rfl) (by kernel_rfl) (fun _ _ _ h => h) (Or.inl ⟨by rfl, ?_⟩) hHeld ?_
          rotate_left
          · (intro w1 hSw; (try dsimp only at hSw); go_simp; all_goals with_reducible rfl)
          (try simp only [Act.put, List.setIfInBounds_toArray, List.set_cons_zero, List.set_cons_succ])
          refine wpAnyH_take (i := 38) (oi := ({ dst := some 101, op := Op.move (Operand.tmp 100), type := _, pos := "law.go:146", after := _, guard := none } : Oper)) (v := ?_) rfl (by kernel_rfl) (by kernel_rfl) (by kernel_rfl) (fun _ _ _ h => h) (Or.inl ⟨by rfl, ?_⟩) hHeld ?_
          rotate_left
          · (intro w1 hSw; (try dsimp only at hSw); go_simp; all_goals with_reducible rfl)
          (try simp only [Act.put, List.setIfInBounds_toArray, List.set_cons_zero, List.set_cons_succ])
          refine wpAnyH_take (i := 39) (oi := ({ dst := some 102, op := Op.move (Operand.tmp 6), type := _, pos := "law.go:146", after := _, guard := some (38, false) } : Oper)) (v := ?_) rfl (by kernel_rfl) (by kernel_rfl) (by kernel_rfl) (fun _ _ _ h => h) (Or.inl ⟨by rfl, ?_⟩) hHeld ?_
          rotate_left
          · (intro w1 hSw; (try dsimp only at hSw); go_simp; all_goals with_reducible rfl)
          (try simp only [Act.put, List.setIfInBounds_toArray, List.set_cons_zero, List.set_cons_succ])
          refine wpAnyH_take (i := 42) (oi := ({ dst := some 105, op := Op.fieldAddr 28 (Operand.tmp 8) 4, type := _, pos := "law.go:146", after := _, guard := some (38, false) } : Oper)) (v := ?_) rfl (by kernel_rfl) (by kernel_rfl) (by kernel_rfl) (fun _ _ _ h => h) (Or.inl ⟨by rfl, ?_⟩) hHeld ?_
          rotate_left
          · (intro w1 hSw; (try dsimp only at hSw); go_simp; all_goals with_reducible rfl)
          (try simp only [Act.put, List.setIfInBounds_toArray, List.set_cons_zero, List.set_cons_succ])
          refine wpAnyH_take (i := 43) (oi := ({ dst := some 106, op := Op.load 23 (Operand.tmp 105), type := _, pos := "law.go:146", after := _, guard := some (38, false) } : Oper)) (v := ?_) rfl (by kernel_rfl) (by kernel_rfl) (by kernel_rfl) (fun _ _ _ h => h) (Or.inl ⟨by rfl, ?_⟩) hHeld ?_
          rotate_left
          · (intro w1 hSw; (try dsimp only at hSw); go_simp; all_goals with_reducible rfl)
          (try simp only [Act.put, List.setIfInBounds_toArray, List.set_cons_zero, List.set_cons_succ])
          refine wpAnyH_take (i := 44) (oi := ({ dst := some 107, op := Op.fieldAddr 28 (Operand.tmp 8) 4, type := _, pos := "law.go:146", after := _, guard := some (38, false) } : Oper)) (v := ?_) rfl (by kernel_rfl) (by kernel_rfl) (by kernel_rfl) (fun _ _ _ h => h) (Or.inl ⟨by rfl, ?_⟩) hHeld ?_
          rotate_left
          · (intro w1 hSw; (try dsimp only at hSw); go_simp; all_goals with_reducible rfl)
          (try simp only [Act.put, List.setIfInBounds_toArray, List.set_cons_zero, List.set_cons_succ])
          refine wpAnyH_take (i := 45) (oi := ({ dst := some 108, op := Op.load 23 (Operand.tmp 107), type := _, pos := "law.go:146", after := _, guard := some (38, false) } : Oper)) (v := ?_) rfl (by kernel_rfl) (by kernel_rfl) (by kernel_rfl) (fun _ _ _ h => h) (Or.inl ⟨by rfl, ?_⟩) hHeld ?_
          rotate_left
          · (intro w1 hSw; (try dsimp only at hSw); go_simp; all_goals with_reducible rfl)
          (try simp only [Act.put, List.setIfInBounds_toArray, List.set_cons_zero, List.set_cons_succ])
          refine wpAnyH_take (i := 46) (oi := ({ dst := some 109, op := Op.call { callee := Callee.builtin Builtin.len, args := #[Operand.tmp 108], argTypes := _ }, type := _, pos := "law.go:146", after := _, guard := some (38, false) } : Oper)) (v := ?_) rfl (by kernel_rfl) (by kernel_rfl) (by kernel_rfl) (fun _ _ _ h => h) (Or.inl ⟨by rfl, ?_⟩) hHeld ?_
          rotate_left
          · (intro w1 hSw; (try dsimp only at hSw); go_simp; all_goals with_reducible rfl)
          (try simp only [Act.put, List.setIfInBounds_toArray, List.set_cons_zero, List.set_cons_succ])
          refine wpAnyH_take (i := 47) (oi := ({ dst := some 110, op := Op.call { callee := Callee.builtin Builtin.min, args := #[Operand.tmp 109, Operand.const (Value.int IntKind.i64 40)], argTypes := _ }, type := _, pos := "law.go:146", after := _, guard := some (38, false) } : Oper)) (v := ?_) rfl (by kernel_rfl) (by kernel_rfl) (by kernel_rfl) (fun _ _ _ h => h) (Or.inl ⟨by rfl, ?_⟩) hHeld ?_
          rotate_left
          · (intro w1 hSw; (try dsimp only at hSw); go_simp; all_goals with_reducible rfl)
          (try simp only [Act.put, List.setIfInBounds_toArray, List.set_cons_zero, List.set_cons_succ])
          refine wpAnyH_take (i := 48) (oi := ({ dst := some 111, op := Op.slice 23 (Operand.tmp 106) none (some (Operand.tmp 110)) none, type := _, pos := "law.go:146", after := _, guard := some (38, false) } : Oper)) (v := ?_) rfl (by kernel_rfl) (by kernel_rfl) (by kernel_rfl) (fun _ _ _ h => h) (Or.inl ⟨by rfl, ?_⟩) hHeld ?_
          rotate_left
          · (intro w1 hSw; (try dsimp only at hSw); go_simp; all_goals with_reducible rfl)
          (try simp only [Act.put, List.setIfInBounds_toArray, List.set_cons_zero, List.set_cons_succ])
          refine wpAnyH_take (i := 49) (oi := ({ dst := some 112, op := Op.convert 23 9 (Operand.tmp 111), type := _, pos := "law.go:146", after := _, guard := some (38, false) } : Oper)) (v := ?_) rfl (by kernel_rfl) (by kernel_rfl) (by kernel_rfl) (fun _ _ _ h => h) (Or.inl ⟨by rfl, ?_⟩) hHeld ?_
          rotate_left
          · (intro w1 hSw; (try dsimp only at hSw); go_simp; all_goals with_reducible rfl)
          (try simp only [Act.put, List.setIfInBounds_toArray, List.set_cons_zero, List.set_cons_succ])
          refine wpAnyH_ready (rs := [40]) (by kernel_rfl) (by simp) ?_
          refine AllReadyH.cons (o := ({ dst := some 103, op := Op.call { callee := Callee.value (Operand.func 20), args := #[Operand.tmp 102, Operand.const (Value.int IntKind.i64 40)], argTypes := _ }, type := _, pos := "law.go:146", after := _, guard := some (38, false) } : Oper)) rfl (fun K hK => ?_) AllReadyH.nil
          go_simp
          go_wp2_with (go_at_call 20; (refine (g_bytes R D _ _ _ _ _ ys (by have := HXl.out; omega) HR25.out).mono ?_; rintro en w16 ⟨Ab, nb', cb, gb, hrb, hlb, hnb, rfl, G16, A16, n16, c16, r16⟩; have kk := keep_row G16 (b := wr.heap.size) zz s0; have zz := Nat.lt_of_lt_of_le zz G16.size; have gg := gg.trans G16; have cvm := conv_list cb hrb hnb.out.symm; have cvv := hX0.out _ gg; have HR26 := Lib.hid r16; clear r16))
          refine hK.out _ _ ?_ (fun hHeld2 => ?_)
          · first | exact hHeld | exact ⟨(kk _).trans hHeld.1, (kk _).trans hHeld.2.1, (kk _).trans hHeld.2.2.1, (kk _).trans hHeld.2.2.2.1, cvv⟩
          clear hK K hHeld
          have hHeld := hHeld2
          clear hHeld2
          (try simp only [Act.put, List.setIfInBounds_toArray, List.set_cons_zero, List.set_cons_succ])
          refine wpAnyH_ready (rs := [41]) (by kernel_rfl) (by simp) ?_
          refine AllReadyH.cons (o := ({ dst := some 104, op := Op.convert 23 9 (Operand.tmp 103), type := _, pos := "law.go:146", after := _, guard := some (38, false) } : Oper)) rfl (fun K hK => ?_) AllReadyH.nil
          go_simp
          go_wp2_with (simp only [cvm])
          refine hK.out _ _ ?_ (fun hHeld2 => ?_)
          · first | exact hHeld | exact ⟨(kk _).trans hHeld.1, (kk _).trans hHeld.2.1, (kk _).trans hHeld.2.2.1, (kk _).trans hHeld.2.2.2.1, cvv⟩
          clear hK K hHeld
          have hHeld := hHeld2
          clear hHeld2
          (try simp only [Act.put, List.setIfInBounds_toArray, List.set_cons_zero, List.set_cons_succ])
          refine wpAnyH_take (i := 50) (oi := ({ dst := some 113, op := Op.binOp BinOp.neq 9 (Operand.tmp 104) (Operand.tmp 112) 9, type := _, pos := "law.go:146", after := _, guard := some (38, false) } : Oper)) (v := ?_) rfl (by kernel_rfl) (by kernel_rfl) (by kernel_rfl) (fun _ _ _ h => h) (Or.inl ⟨by rfl, ?_⟩) hHeld ?_
          rotate_left
          · (intro w1 hSw; (try dsimp only at hSw); go_simp; all_goals with_reducible rfl)
          (try simp only [Act.put, List.setIfInBounds_toArray, List.set_cons_zero, List.set_cons_succ])
          refine wpAnyH_take (i := 51) (oi := ({ dst := some 114, op := Op.pick (Operand.tmp 101) (Operand.const (Value.bool true)) (Operand.tmp 113), type := _, pos := "law.go:146", after := _, guard := none } : Oper)) (v := ?_) rfl (by kernel_rfl) (by kernel_rfl) (by kernel_rfl) (fun _ _ _ h => h) (Or.inl ⟨by rfl, ?_⟩) hHeld ?_
          rotate_left
          · (intro w1 hSw; (try dsimp only at hSw); go_simp; all_goals with_reducible rfl)
          (try simp only [Act.put, List.setIfInBounds_toArray, List.set_cons_zero, List.set_cons_succ])
          refine wpAnyH_done (by kernel_rfl) ?_ _
          refine NoPanic.normal ?_
          go_wp2
          go_roundw
          case rel => exact ⟨p + 1, by omega, by simp, below_step HB3.out gg hR', _, _, _, by rw [hrest.out]; exact HR26.out⟩
          case measure => simp [intOf]; omega
        · obtain rfl : p = q := by omega
          rw [Nat.sub_self, sufL] at hr3
          have hn30 : n3 = 0 := by have := hr3.len; simpa using this.symm
          subst hn30
          have HR3 := Lib.hid hr3
          have HB3 := Lib.hid hb3
          have hf0 : fE [] 0 = 0 := rfl
          clear hr3 hb3
          go_wp2_with (first
            | (go_at_call 14; (refine (finish_any R D [] A3 0 c3 _ 0 HR3.out).mono ?_; rintro en w' ⟨rfl, rfl⟩; rw [hf0]))
            | (go_at_call 12; (refine (left_any' R D [] A3 0 c3 _ 0 HR3.out).mono ?_; rintro en w' ⟨rfl, rfl⟩))
            | (go_at_call 9; (refine (wbegun_any _).mono ?_; rintro en wz ⟨rfl, bz⟩)))
          go_ret
          exact ⟨rfl, HB3.out.trans (bz.mono HB3.out.size)⟩
end Go.Proofs.Ythfimcbjbkbcjaa
