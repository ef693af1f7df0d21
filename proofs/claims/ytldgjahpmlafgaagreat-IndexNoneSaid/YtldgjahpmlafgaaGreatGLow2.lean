/- Small parts of the choices of entries, continued: New, Mod, bitsOf, ActionIn. -/
import Derived.Test.YtldgjahpmlafgaaGreatGLow
namespace Go.Proofs.YtldgjahpmlafgaaGreat
open Go.RowKit

set_option maxRecDepth 100000 in
theorem cs_newL (L : Nat) (hL : L ≤ 120) (A : Option Addr) (D n cap : Nat) (l : List Nat) (w : World) (hr : ReadsL w D A l) (hD : l ≠ [] → D < w.heap.size) (hl : l.length = n) (hn : n ≤ cap) (_hcap : cap ≤ maxLen) (hs : Small l) :
    Calls Tryz.prog 15 #[.slice A n cap, .int .i64 (L : Int)] w fun e w' => e = .returned (.pointer (some ⟨w.heap.size, 0, none⟩)) ∧ Below w.heap.size w w' ∧ w.heap.size < w'.heap.size ∧ CoAt w.heap.size D (l.take L) 0 w' := by

  obtain ⟨m, hm⟩ : ∃ m : Nat, m = min n L := ⟨_, rfl⟩
  have e1 : min (n : Int) (L : Int) = m := by omega
  have e2 : (m : Int) ≤ (cap : Int) := by omega
  have e3 : 0 ≤ (m : Int) := by omega
  have hlm : (l.take L).length = m := by rw [List.length_take]; omega
  have hmc : m ≤ cap := by omega
  have hm120 : m ≤ 120 := by omega
  have HR := Lib.hid (hr.take L)
  have HM := Lib.hid hlm
  clear hr hl hm hlm
  go_enter Tryz.func15, Tryz.ntmps15
  go_wp2
  go_ret
  have hg := grown_alloc w (.cells #[.slice A m cap, .int .i64 0] 110) none
  refine ⟨rfl, (Below.refl _ _).alloc (Nat.le_refl _) _, by simp, ⟨⟨A, cap, ?_, by rw [HM.out]; exact hmc, HR.out.kept' hg (by simp)⟩, by rw [World.cell?_alloc_new]; rfl, by rw [World.frozen?_alloc_new], by simp, fun e => ?_, fun e => ?_, Nat.zero_le _, by rw [HM.out]; exact hm120, hs.take _⟩⟩
  · rw [World.cell?_alloc_new, HM.out]; rfl
  · have := hD (fun e2 => e (by rw [e2]; exact List.take_nil)); simp; omega
  · have := hD (fun e2 => e (by rw [e2]; exact List.take_nil)); omega
def modI (x : Int) (n : Nat) : Int := (x.tmod (n : Int) + (n : Int)).tmod (n : Int)
theorem modI_b (x : Int) (n : Nat) (h1 : 1 ≤ n) : 0 ≤ modI x n ∧ modI x n < n := by
  have hb2 : -(n : Int) < x.tmod (n : Int) := Int.lt_tmod_of_pos x (by omega)
  unfold modI
  exact ⟨Int.tmod_nonneg (n : Int) (by omega), Int.tmod_lt_of_pos _ (by omega)⟩
set_option maxRecDepth 100000 in
set_option maxHeartbeats 2000000 in
theorem cs_modE (x : Int) (n : Nat) (h1 : 1 ≤ n) (h2 : n ≤ 100000) (w : World) : Calls Tryz.prog 25 #[.int .i64 x, .int .i64 (n : Int)] w fun e w' => e = .returned (.int .i64 (modI x n)) ∧ w' = w := by
  obtain ⟨r, hr⟩ : ∃ r, r = modI x n := ⟨_, rfl⟩
  rw [← hr]
  unfold modI at hr
  obtain ⟨t, ht⟩ : ∃ t, x.tmod (n : Int) = t := ⟨_, rfl⟩
  rw [ht] at hr
  have hb1 : t < (n : Int) := by rw [← ht]; exact Int.tmod_lt_of_pos x (by omega)
  have hb2 : -(n : Int) < t := by rw [← ht]; exact Int.lt_tmod_of_pos x (by omega)
  have hw : IntKind.i64.wrap (t + (n : Int)) = t + (n : Int) := IntWalk.i64_in _ (by omega)
  have hr2 := hr.symm
  clear hr
  have hn1 : ¬ (n : Int) < 1 := by omega
  have hn0 : ¬ (n : Int) = 0 := by omega
  have hn0N : ¬ n = 0 := by omega
  go_enter Tryz.func25, Tryz.ntmps25
  go_wp2
  go_ret
  exact ⟨rfl, rfl⟩
def fbits : List FieldD → Int → Int
  | [], _ => 0
  | f :: r, id => if f.id = id then f.bits else fbits r id
set_option maxRecDepth 100000 in
set_option maxHeartbeats 2000000 in
theorem cs_bitsOf (w : World) (B : Nat) (A0 : Option Addr) (n0 c0 : Nat) (fs : List FieldD) (h : RowV 3 FieldV B w (.slice A0 n0 c0) fs) (hB : B ≤ w.heap.size) (s1 s2 s3 s4 s5 s6 s7 s8 s9 : Value) (id : Int) :
    Calls Tryz.prog 131 #[.agg #[.slice A0 n0 c0, s1, s2, s3, s4, s5, s6, s7, s8, s9], .int .i64 id] w (RetX (.int .i64 (fbits fs id)) w) := by
  obtain ⟨hn, hc, hm⟩ := h.len
  have HR := Lib.hid h
  have HB0 : Hid (Below w.heap.size w (w.alloc (.cells #[.slice A0 n0 c0, s1, s2, s3, s4, s5, s6, s7, s8, s9] 36))) := Lib.hid ((Below.refl _ _).alloc (Nat.le_refl _) _)
  obtain ⟨r, hr⟩ : ∃ r, r = fbits fs id := ⟨_, rfl⟩
  rw [← hr]
  have HRR := Lib.hid hr
  clear h hr
  go_enter Tryz.func131, Tryz.ntmps131
  go_wp2_with fail
  go_loopw [10] (fun i W => ∃ k : Nat, k ≤ n0 ∧ i = .int .i64 k ∧ Below w.heap.size w W ∧ Hid (r = fbits (fs.drop k) id)) (fun i _ => n0 - (intOf i).toNat)
  case atStart => exact ⟨0, by omega, rfl, HB0.out, HRR⟩
  case round =>
    obtain ⟨k, hk, rfl, hb, hxh⟩ := hrel
    have hx := hxh.out
    clear hxh HRR
    have HB := Lib.hid hb
    have hsz := hb.size
    by_cases hlt : k < n0
    · have hkI : (k : Int) < (n0 : Int) := by omega
      have hkc : (k : Int) < (c0 : Int) := by omega
      have hk0 : 0 ≤ (k : Int) := by omega
      obtain ⟨g2, o2, e6, z, hzk, _, cs2, hcs2, hV2⟩ := row_at (HR.out.below kept_field (hb.mono hB)) (q := k) (by rw [← hn.out]; exact hlt)
      have hdr : fs.drop k = z :: fs.drop (k + 1) := by
        rw [List.drop_eq_getElem_cons (by rw [← hn.out]; exact hlt), (List.getElem?_eq_some_iff.1 hzk).2]
      rw [hdr, fbits] at hx
      obtain ⟨rfl, -⟩ := hV2
      subst e6
      have p0 : wr.cell? ⟨g2, o2 + k * 3, none⟩ = some _ := hcs2.at0 _ rfl
      have p1 : wr.cell? ⟨g2, o2 + k * 3 + 1, none⟩ = some _ := hcs2.at 1 _ rfl
      have p2 : wr.cell? ⟨g2, o2 + k * 3 + 2, none⟩ = some _ := hcs2.at 2 _ rfl
      clear hdr hcs2 hzk hb
      by_cases hkd : z.id = id
      · have hval : r = z.bits := by rw [hx, if_pos hkd]
        subst hval
        subst hkd
        clear hx
        go_wp2_with fail
        go_ret
        exact ⟨rfl, HB.out.alloc hsz _⟩
      · have hval : r = fbits (fs.drop (k + 1)) id := by rw [hx, if_neg hkd]
        have HVAL := Lib.hid hval
        clear hval hx
        go_wp2_with fail
        go_roundw
        case rel => (go_light; exact ⟨k + 1, by omega, by simp, HB.out.alloc hsz _, HVAL⟩)
        case measure => simp [intOf]; omega
    · have hkI : ¬ (k : Int) < (n0 : Int) := by omega
      have hval : r = 0 := by rw [hx, List.drop_of_length_le (by rw [← hn.out]; omega)]; rfl
      subst hval
      clear hx hb
      go_wp2_with fail
      go_ret
      exact ⟨rfl, HB.out⟩
def act0 : ActionD := ⟨0, [], [], [], []⟩
def actIn : List ActionD → Int → ActionD
  | [], _ => act0
  | a :: r, id => if a.id = id then a else actIn r id
def RetAct (a : ActionD) (B : Nat) (w : World) (en : Ending) (w' : World) : Prop := ∃ vp vb : Value, en = .returned (.agg #[.int .i64 a.id, .string (strL a.name), vp, vb, .string (strL a.restr)]) ∧ RowV 2 ParamV B w' vp a.params ∧ Below w.heap.size w w'
theorem below_set5 {B k : Nat} (w : World) (hk : B ≤ k) (v0 v1 v2 v3 v4 : Value) : Below B w (((((w.setCell ⟨k, 0, none⟩ v0).setCell ⟨k, 1, none⟩ v1).setCell ⟨k, 2, none⟩ v2).setCell ⟨k, 3, none⟩ v3).setCell ⟨k, 4, none⟩ v4) :=
  Below.setCell (Below.setCell (Below.setCell (Below.setCell (Below.setCell (Below.refl B w) hk _) hk _) hk _) hk _) hk _
theorem blk_set5 {w : World} {k : Nat} {a0 a1 a2 a3 a4 : Value} {T : TypeId} (h : w.heap[k]? = some (.cells #[a0, a1, a2, a3, a4] T (0, 0))) (v0 v1 v2 v3 v4 : Value) : (((((w.setCell ⟨k, 0, none⟩ v0).setCell ⟨k, 1, none⟩ v1).setCell ⟨k, 2, none⟩ v2).setCell ⟨k, 3, none⟩ v3).setCell ⟨k, 4, none⟩ v4).heap[k]? = some (.cells #[v0, v1, v2, v3, v4] T (0, 0)) := by
  have h1 : (w.setCell ⟨k, 0, none⟩ v0).heap[k]? = some (.cells #[v0, a1, a2, a3, a4] T (0, 0)) := blk_set h 0 v0
  have h2 : ((w.setCell ⟨k, 0, none⟩ v0).setCell ⟨k, 1, none⟩ v1).heap[k]? = some (.cells #[v0, v1, a2, a3, a4] T (0, 0)) := blk_set h1 1 v1
  have h3 : (((w.setCell ⟨k, 0, none⟩ v0).setCell ⟨k, 1, none⟩ v1).setCell ⟨k, 2, none⟩ v2).heap[k]? = some (.cells #[v0, v1, v2, a3, a4] T (0, 0)) := blk_set h2 2 v2
  have h4 : ((((w.setCell ⟨k, 0, none⟩ v0).setCell ⟨k, 1, none⟩ v1).setCell ⟨k, 2, none⟩ v2).setCell ⟨k, 3, none⟩ v3).heap[k]? = some (.cells #[v0, v1, v2, v3, a4] T (0, 0)) := blk_set h3 3 v3
  exact blk_set h4 4 v4
set_option maxRecDepth 100000 in
set_option maxHeartbeats 2000000 in
theorem cs_actionIn (w : World) (B : Nat) (A3 : Option Addr) (n3 c3 : Nat) (as3 : List ActionD) (h : RowV 5 ActionV B w (.slice A3 n3 c3) as3) (hB : B ≤ w.heap.size) (s0 s1 s2 s4 s5 s6 s7 s8 s9 : Value) (id : Int) :
    Calls Tryz.prog 80 #[.agg #[s0, s1, s2, .slice A3 n3 c3, s4, s5, s6, s7, s8, s9], .int .i64 id] w (RetAct (actIn as3 id) B w) := by
  obtain ⟨hn, hc, hm⟩ := h.len
  have HR := Lib.hid h
  obtain ⟨W0, hW0⟩ : ∃ W, W = (w.alloc (.cells #[s0, s1, s2, .slice A3 n3 c3, s4, s5, s6, s7, s8, s9] 36)).alloc (.cells #[.int .i64 0, .string ⟨#[]⟩, .slice none 0 0, .slice none 0 0, .string ⟨#[]⟩] 142) := ⟨_, rfl⟩
  have hB0 : Below w.heap.size w W0 := by rw [hW0]; exact ((Below.refl _ _).alloc (Nat.le_refl _) _).alloc (by simp) _
  have hz0 : W0.heap.size = w.heap.size + 2 := by rw [hW0]; simp
  have b1 : W0.heap[w.heap.size + 1]? = some (.cells #[.int .i64 0, .string ⟨#[]⟩, .slice none 0 0, .slice none 0 0, .string ⟨#[]⟩] 142 (0, 0)) := by
    rw [hW0, show w.heap.size + 1 = (w.alloc (.cells #[s0, s1, s2, .slice A3 n3 c3, s4, s5, s6, s7, s8, s9] 36)).heap.size by simp]
    exact heap_alloc_new _ _
  have HB0 := Lib.hid hB0
  have HB1 := Lib.hid b1
  have HW0 := Lib.hid hW0
  have c3' : W0.cell? ⟨w.heap.size, 3, none⟩ = some (.slice A3 n3 c3) := by
    have b0 : W0.heap[w.heap.size]? = some (.cells #[s0, s1, s2, .slice A3 n3 c3, s4, s5, s6, s7, s8, s9] 36 (0, 0)) := by
      rw [hW0]
      exact (((Below.refl _ _).alloc (Nat.le_refl _) _).block w.heap.size (by simp)).trans (heap_alloc_new _ _)
    exact blk_cell b0 3 _ rfl
  obtain ⟨r, hr⟩ : ∃ r, r = actIn as3 id := ⟨_, rfl⟩
  rw [← hr]
  have HRR := Lib.hid hr
  clear h hr hB0 b1 hW0
  go_enter Tryz.func80, Tryz.ntmps80
  go_upto_region 1 with fail
  rw [← HW0.out]
  go_wp2_with fail
  go_loopw [10] (fun i W => ∃ k : Nat, k ≤ n3 ∧ i = .int .i64 k ∧ Below W0.heap.size W0 W ∧ Hid (r = actIn (as3.drop k) id)) (fun i _ => n3 - (intOf i).toNat)
  case atStart => exact ⟨0, by omega, rfl, Below.refl _ _, HRR⟩
  case round =>
    clear c3'
    obtain ⟨k, hk, rfl, hb, hxh⟩ := hrel
    have hx := hxh.out
    clear hxh HRR
    have HB := Lib.hid hb
    have hsz := hb.size
    have bw := (hb.block (w.heap.size + 1) (by omega)).trans HB1.out
    have HBw := Lib.hid (HB0.out.trans (hb.mono HB0.out.size))
    by_cases hlt : k < n3
    · have hkI : (k : Int) < (n3 : Int) := by omega
      have hkc : (k : Int) < (c3 : Int) := by omega
      have hk0 : 0 ≤ (k : Int) := by omega
      have hrow := HR.out.below kept_action (HBw.out.mono hB)
      obtain ⟨g2, o2, e6, z, hzk, _, cs2, hcs2, hV2⟩ := row_at hrow (q := k) (by rw [← hn.out]; exact hlt)
      have hdr : as3.drop k = z :: as3.drop (k + 1) := by
        rw [List.drop_eq_getElem_cons (by rw [← hn.out]; exact hlt), (List.getElem?_eq_some_iff.1 hzk).2]
      rw [hdr, actIn] at hx
      obtain ⟨vp, vb, rfl, -, -, rp, rb, -⟩ := hV2
      obtain ⟨Ap, np, cp, rfl, _⟩ := rp.parts
      obtain ⟨Ab, nb, cb, rfl, _⟩ := rb.parts
      subst e6
      have p0 : wr.cell? ⟨g2, o2 + k * 5, none⟩ = some _ := hcs2.at0 _ rfl
      have p1 : wr.cell? ⟨g2, o2 + k * 5 + 1, none⟩ = some _ := hcs2.at 1 _ rfl
      have p2 : wr.cell? ⟨g2, o2 + k * 5 + 2, none⟩ = some _ := hcs2.at 2 _ rfl
      have p3 : wr.cell? ⟨g2, o2 + k * 5 + 3, none⟩ = some _ := hcs2.at 3 _ rfl
      have p4 : wr.cell? ⟨g2, o2 + k * 5 + 4, none⟩ = some _ := hcs2.at 4 _ rfl
      have HRP := Lib.hid rp
      by_cases hkd : z.id = id
      · have hval : r = z := by rw [hx, if_pos hkd]
        subst hval
        subst hkd
        obtain ⟨W1, hW1⟩ : ∃ W, W = wr.alloc (.cells #[.int .i64 r.id, .string (strL r.name), .slice Ap np cp, .slice Ab nb cb, .string (strL r.restr)] 142) := ⟨_, rfl⟩
        have hb1 : Below wr.heap.size wr W1 := by rw [hW1]; exact (Below.refl _ _).alloc (Nat.le_refl _) _
        have bw1 := (hb1.block (w.heap.size + 1) (by omega)).trans bw
        have z0 : W1.cell? ⟨w.heap.size + 1, 0, none⟩ = some (.int .i64 0) := blk_cell bw1 0 _ rfl
        have z1 : W1.cell? ⟨w.heap.size + 1, 1, none⟩ = some (.string ⟨#[]⟩) := blk_cell bw1 1 _ rfl
        have z2 : W1.cell? ⟨w.heap.size + 1, 2, none⟩ = some (.slice none 0 0) := blk_cell bw1 2 _ rfl
        have z3 : W1.cell? ⟨w.heap.size + 1, 3, none⟩ = some (.slice none 0 0) := blk_cell bw1 3 _ rfl
        have z4 : W1.cell? ⟨w.heap.size + 1, 4, none⟩ = some (.string ⟨#[]⟩) := blk_cell bw1 4 _ rfl
        have f0 := blk_froz bw1 0
        have f1 := blk_froz bw1 1
        have f2 := blk_froz bw1 2
        have f3 := blk_froz bw1 3
        have f4 := blk_froz bw1 4
        have y0 : W1.cell? ⟨wr.heap.size, 0, none⟩ = some (.int .i64 r.id) := by rw [hW1, World.cell?_alloc_new]; rfl
        have y1 : W1.cell? ⟨wr.heap.size, 1, none⟩ = some (.string (strL r.name)) := by rw [hW1, World.cell?_alloc_new]; rfl
        have y2 : W1.cell? ⟨wr.heap.size, 2, none⟩ = some (.slice Ap np cp) := by rw [hW1, World.cell?_alloc_new]; rfl
        have y3 : W1.cell? ⟨wr.heap.size, 3, none⟩ = some (.slice Ab nb cb) := by rw [hW1, World.cell?_alloc_new]; rfl
        have y4 : W1.cell? ⟨wr.heap.size, 4, none⟩ = some (.string (strL r.restr)) := by rw [hW1, World.cell?_alloc_new]; rfl
        have HW1 := Lib.hid hW1
        have HBW1 := Lib.hid bw1
        have HB1' := Lib.hid hb1
        clear hx hrow hcs2 hzk hb bw bw1 hb1 hW1 rp rb hdr
        go_upto_region 4 with fail
        rw [← HW1.out]
        clear p0 p1 p2 p3 p4
        go_wp2_with fail
        have hS := below_set5 (B := w.heap.size) (k := w.heap.size + 1) W1 (by omega) (.int .i64 r.id) (.string (strL r.name)) (.slice Ap np cp) (.slice Ab nb cb) (.string (strL r.restr))
        have hq := blk_set5 HBW1.out (.int .i64 r.id) (.string (strL r.name)) (.slice Ap np cp) (.slice Ab nb cb) (.string (strL r.restr))
        have q := fun j v h => blk_cell hq j v h
        have hbb := (HB1'.out.mono HBw.out.size).trans hS
        refine bodyPost_ret (v := .agg #[.int .i64 r.id, .string (strL r.name), .slice Ap np cp, .slice Ab nb cb, .string (strL r.restr)]) (by simp [results, Tryz.results80, go_sem, q 0 _ rfl, q 1 _ rfl, q 2 _ rfl, q 3 _ rfl, q 4 _ rfl]) rfl ?_
        exact ⟨_, _, rfl, HRP.out.below kept_param (hbb.mono hB), HBw.out.trans hbb⟩
      · have hval : r = actIn (as3.drop (k + 1)) id := by rw [hx, if_neg hkd]
        have HVAL := Lib.hid hval
        clear hval hx hrow hcs2 hzk hb bw rp rb hdr
        go_wp2_with fail
        go_roundw
        case rel => (go_light; exact ⟨k + 1, by omega, by simp, HB.out.alloc hsz _, HVAL⟩)
        case measure => simp [intOf]; omega
    · have hkI : ¬ (k : Int) < (n3 : Int) := by omega
      have hval : r = act0 := by rw [hx, List.drop_of_length_le (by rw [← hn.out]; omega)]; rfl
      subst hval
      have z0 : wr.cell? ⟨w.heap.size + 1, 0, none⟩ = some (.int .i64 0) := blk_cell bw 0 _ rfl
      have z1 : wr.cell? ⟨w.heap.size + 1, 1, none⟩ = some (.string ⟨#[]⟩) := blk_cell bw 1 _ rfl
      have z2 : wr.cell? ⟨w.heap.size + 1, 2, none⟩ = some (.slice none 0 0) := blk_cell bw 2 _ rfl
      have z3 : wr.cell? ⟨w.heap.size + 1, 3, none⟩ = some (.slice none 0 0) := blk_cell bw 3 _ rfl
      have z4 : wr.cell? ⟨w.heap.size + 1, 4, none⟩ = some (.string ⟨#[]⟩) := blk_cell bw 4 _ rfl
      have f0 := blk_froz bw 0
      have f1 := blk_froz bw 1
      have f2 := blk_froz bw 2
      have f3 := blk_froz bw 3
      have f4 := blk_froz bw 4
      have HBW := Lib.hid bw
      clear hx hb bw
      go_wp2_with fail
      have hS := below_set5 (B := w.heap.size) (k := w.heap.size + 1) wr (by omega) (.int .i64 0) (.string ⟨#[]⟩) (.slice none 0 0) (.slice none 0 0) (.string ⟨#[]⟩)
      have hq := blk_set5 HBW.out (.int .i64 0) (.string ⟨#[]⟩) (.slice none 0 0) (.slice none 0 0) (.string ⟨#[]⟩)
      have q := fun j v h => blk_cell hq j v h
      refine bodyPost_ret (v := .agg #[.int .i64 0, .string ⟨#[]⟩, .slice none 0 0, .slice none 0 0, .string ⟨#[]⟩]) (by simp [results, Tryz.results80, go_sem, q 0 _ rfl, q 1 _ rfl, q 2 _ rfl, q 3 _ rfl, q 4 _ rfl]) rfl ?_
      exact ⟨_, _, rfl, row_nil _ _ _ _, HBw.out.trans hS⟩
end Go.Proofs.YtldgjahpmlafgaaGreat
