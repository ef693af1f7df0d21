/- The reference's prefixes and winners. -/
import Derived.Test.YthakjhjfooeljaaGRef
namespace Go.Proofs.Ythakjhjfooeljaa
open Go.RowKit

def preL (ms : List MatchD) : List KeyD → Nat → Int
  | [], _ => 0
  | k :: r, j => if k.kind = 2 ∧ j < ms.length then ((ms[j]?).map (·.pre)).getD 0 else preL ms r (j + 1)
theorem preL_off (ms : List MatchD) : ∀ (ks : List KeyD) (j : Nat), ms.length ≤ j → preL ms ks j = 0
  | [], _, _ => rfl
  | k :: r, j, h => by
    rw [preL, if_neg (by omega)]
    exact preL_off ms r (j + 1) (by omega)
theorem preL_is (ms : List MatchD) : ∀ (ks : List KeyD) (j : Nat), preL ms ks j = match ixI 2 (ks.map (·.kind)) j with
    | .ofNat i => ((ms[i]?).map (·.pre)).getD 0
    | .negSucc _ => 0
  | [], _ => rfl
  | k :: r, j => by
    rw [preL, List.map_cons, ixI]
    by_cases h : k.kind = 2
    · rw [if_pos h]
      by_cases hj : j < ms.length
      · rw [if_pos ⟨h, hj⟩]
      · rw [if_neg (by omega), preL_off ms r (j + 1) (by omega)]
        show 0 = ((ms[j]?).map (·.pre)).getD 0
        rw [List.getElem?_eq_none (by omega)]; rfl
    · rw [if_neg h, if_neg (fun e => h e.1)]
      exact preL_is ms r (j + 1)
theorem preE_L (ts : List TableD) (e : EntryD) : preE ts e = preL e.ms (tabOr ts e.table).keys 0 := by
  rw [preL_is]; rfl
set_option maxRecDepth 100000 in
set_option maxHeartbeats 4000000 in
theorem g_rPrefix {w : World} {B : Nat} {s0 s1 s2 s3 s4 s5 s6 s7 : Value} {x : SchemaD} (h : SchM w B s0 s1 s2 s3 s4 s5 s6 s7 x) (hB : B ≤ w.heap.size) (s8 s9 : Value) (e : EntryD) (Ae : Option Addr) (me ke : Nat) (u : Value) (hr : RowV 8 MatchV B w (.slice Ae me ke) e.ms) :
    Calls Try.prog 19 #[.agg #[s0, s1, s2, s3, s4, s5, s6, s7, s8, s9], .agg #[.int .i64 e.table, .slice Ae me ke, .int .i64 e.prio, .int .i64 e.action, u]] w (RetX (.int .i64 (preE x.tables e)) w) := by
  rw [preE_L]
  obtain ⟨hn1, hc1, hm1⟩ := hr.len
  obtain ⟨A0, n0, c0, rfl, _⟩ := h.f.parts
  obtain ⟨A1, n1, c1, rfl, _⟩ := h.h.parts
  obtain ⟨A2, n2, c2, rfl, _⟩ := h.st.parts
  obtain ⟨A3, n3, c3, rfl, _⟩ := h.a.parts
  obtain ⟨A4, n4, c4, rfl, _⟩ := h.t.parts
  obtain ⟨A5, n5, c5, rfl, _⟩ := h.sg.parts
  obtain ⟨A6, n6, c6, rfl, _⟩ := h.r.parts
  obtain ⟨A7, n7, c7, rfl, _⟩ := h.rf.parts
  obtain ⟨hn4, hc4, hm4⟩ := h.t.len
  obtain ⟨W0, hW0⟩ : ∃ W, W = ((w.alloc (.cells #[.slice A0 n0 c0, .slice A1 n1 c1, .slice A2 n2 c2, .slice A3 n3 c3, .slice A4 n4 c4, .slice A5 n5 c5, .slice A6 n6 c6, .slice A7 n7 c7, s8, s9] 45)).alloc (.cells #[.int .i64 e.table, .slice Ae me ke, .int .i64 e.prio, .int .i64 e.action, u] 51)) := ⟨_, rfl⟩
  have hB0 : Below w.heap.size w W0 := by rw [hW0]; exact (((Below.refl w.heap.size w).alloc (by simp <;> omega) _).alloc (by simp <;> omega) _)
  have hz0 : W0.heap.size = w.heap.size + 2 := by rw [hW0]; simp
  have b0_0 : W0.heap[w.heap.size]? = some (.cells #[.slice A0 n0 c0, .slice A1 n1 c1, .slice A2 n2 c2, .slice A3 n3 c3, .slice A4 n4 c4, .slice A5 n5 c5, .slice A6 n6 c6, .slice A7 n7 c7, s8, s9] 45 (0, 0)) := by
    rw [hW0]
    exact (((Below.refl (w.alloc (.cells #[.slice A0 n0 c0, .slice A1 n1 c1, .slice A2 n2 c2, .slice A3 n3 c3, .slice A4 n4 c4, .slice A5 n5 c5, .slice A6 n6 c6, .slice A7 n7 c7, s8, s9] 45)).heap.size (w.alloc (.cells #[.slice A0 n0 c0, .slice A1 n1 c1, .slice A2 n2 c2, .slice A3 n3 c3, .slice A4 n4 c4, .slice A5 n5 c5, .slice A6 n6 c6, .slice A7 n7 c7, s8, s9] 45))).alloc (by simp <;> omega) _).block w.heap.size (by simp)).trans (heap_alloc_new _ _)
  have b0_1 : W0.heap[w.heap.size + 1]? = some (.cells #[.int .i64 e.table, .slice Ae me ke, .int .i64 e.prio, .int .i64 e.action, u] 51 (0, 0)) := by
    rw [hW0]
    rw [show w.heap.size + 1 = (w.alloc (.cells #[.slice A0 n0 c0, .slice A1 n1 c1, .slice A2 n2 c2, .slice A3 n3 c3, .slice A4 n4 c4, .slice A5 n5 c5, .slice A6 n6 c6, .slice A7 n7 c7, s8, s9] 45)).heap.size by simp]
    exact heap_alloc_new _ _
  have KX := Lib.hid (g_rTableOf (h.below (hB0.mono hB)) (Nat.le_trans hB hB0.size) s8 s9 e.table)
  have HR := Lib.hid hr
  have HT := Lib.hid h.t
  have HB0 := Lib.hid hB0
  have HW0 := Lib.hid hW0
  have Hb0 := Lib.hid b0_0
  have Hb1 := Lib.hid b0_1
  obtain ⟨r, hrr⟩ : ∃ r, r = preL e.ms (tabOr x.tables e.table).keys 0 := ⟨_, rfl⟩
  rw [← hrr]
  have HPR := Lib.hid hrr
  clear h hr hB0 hW0 b0_0 b0_1 hrr
  go_enter Try.func19, Try.ntmps19
  go_wp2_with fail
  rw [← HW0.out]
  refine KX.out.mono ?_
  rintro en w1 ⟨rfl, hb1⟩
  have HB1 := Lib.hid (HB0.out.trans (hb1.mono HB0.out.size))
  have d0 := (hb1.block w.heap.size (by omega)).trans Hb0.out
  have d1 := (hb1.block (w.heap.size + 1) (by omega)).trans Hb1.out
  have c4' : w1.cell? ⟨w.heap.size, 4, none⟩ = some (.slice A4 n4 c4) := blk_cell d0 4 _ rfl
  have HT1 := Lib.hid (HT.out.below kept_table (HB1.out.mono hB))
  have hz1 : w.heap.size + 2 ≤ w1.heap.size := by have := hb1.size; omega
  have Hd1 := Lib.hid d1
  clear hb1 KX d0 d1
  rcases tbl_is x.tables e.table with ⟨e1, e2⟩ | ⟨j, t, e1, e2, -, e4⟩
  · rw [e1]
    have hv : r = 0 := by rw [HPR.out, tabOr, e2]; rfl
    subst hv
    clear e1 e2
    go_wp2_with fail
    go_ret
    exact ⟨rfl, HB1.out⟩
  · rw [e1]
    have hjn : j < x.tables.length := (List.getElem?_eq_some_iff.1 e2).1
    have hj1 : ¬ (j : Int) < 0 := by omega
    have hj2 : (j : Int) < (n4 : Int) := by rw [hn4.out]; omega
    have hj3 : 0 ≤ (j : Int) := by omega
    have hj4 : (j : Int) < (c4 : Int) := by omega
    obtain ⟨g, oo, e5, y, hyk, hgB, cs, hcs, hV⟩ := row_at HT1.out hjn
    have ex : y = t := by rw [hyk] at e2; injection e2
    subst ex
    obtain ⟨vk, va, vr, rfl, -, -, rk, -, -, -, -⟩ := hV
    subst e5
    obtain ⟨Ak, nk, ck, rfl, hnk, hck, hmk⟩ := rk.parts
    have q2 : w1.cell? ⟨g, oo + j * 8 + 2, none⟩ = some _ := hcs.at 2 _ rfl
    have HRK := Lib.hid rk
    have hval : r = preL e.ms y.keys 0 := by rw [HPR.out, tabOr, e4]; rfl
    have HVL := Lib.hid hval
    clear e1 e2 e4 hyk hcs rk hval
    go_wp2_with fail
    go_loopw [21] (fun i W => ∃ k : Nat, k ≤ nk ∧ i = .int .i64 k ∧ Below w1.heap.size w1 W ∧ Hid (r = preL e.ms (y.keys.drop k) k)) (fun i _ => nk - (intOf i).toNat)
    case atStart => exact ⟨0, by omega, rfl, Below.refl _ _, HVL⟩
    case round =>
      obtain ⟨k, hk, rfl, hb, hxh⟩ := hrel
      have hx := hxh.out
      clear hxh HVL
      have HB := Lib.hid hb
      have d1 := (hb.block (w.heap.size + 1) (by omega)).trans Hd1.out
      have m1 : wr.cell? ⟨w.heap.size + 1, 1, none⟩ = some (.slice Ae me ke) := blk_cell d1 1 _ rfl
      have HBw := Lib.hid (HB1.out.trans (hb.mono HB1.out.size))
      have hzr : w.heap.size + 2 ≤ wr.heap.size := Nat.le_trans hz1 hb.size
      have m1a : ∀ o : Obj, (wr.alloc o).cell? ⟨w.heap.size + 1, 1, none⟩ = some (.slice Ae me ke) := fun o => by rw [((Below.refl wr.heap.size wr).alloc (Nat.le_refl _) o).cell (p := ⟨w.heap.size + 1, 1, none⟩) (by show w.heap.size + 1 < _; omega)]; exact m1
      clear d1
      by_cases hlt : k < nk
      · have hkI : (k : Int) < (nk : Int) := by omega
        have hkc : (k : Int) < (ck : Int) := by omega
        have hk0 : 0 ≤ (k : Int) := by omega
        obtain ⟨g2, o2, e6, z, hzk, _, cs2, hcs2, hV2⟩ := row_at (HRK.out.below kept_key (hb.mono (Nat.le_trans hB HB1.out.size))) (q := k) (by rw [← hnk.out]; exact hlt)
        have hdr : y.keys.drop k = z :: y.keys.drop (k + 1) := by
          rw [List.drop_eq_getElem_cons (by rw [← hnk.out]; exact hlt), (List.getElem?_eq_some_iff.1 hzk).2]
        rw [hdr, preL] at hx
        obtain ⟨rfl, -⟩ := hV2
        subst e6
        have p0 : wr.cell? ⟨g2, o2 + k * 3, none⟩ = some _ := hcs2.at0 _ rfl
        have p1 : wr.cell? ⟨g2, o2 + k * 3 + 1, none⟩ = some _ := hcs2.at 1 _ rfl
        have p2 : wr.cell? ⟨g2, o2 + k * 3 + 2, none⟩ = some _ := hcs2.at 2 _ rfl
        clear hdr hcs2 hzk hb
        by_cases hkd : z.kind = 2
        · by_cases hkm : k < me
          · have hkmI : (k : Int) < (me : Int) := by omega
            have hkmc : (k : Int) < (ke : Int) := by omega
            obtain ⟨g3, o3, e7, m, hmk2, _, cs3, hcs3, hV3⟩ := row_at (HR.out.below kept_match (HBw.out.mono hB)) (q := k) (by rw [← hn1.out]; exact hkm)
            obtain ⟨rfl, -⟩ := hV3
            subst e7
            have hval : r = m.pre := by rw [hx, if_pos ⟨hkd, by rw [← hn1.out]; exact hkm⟩, hmk2]; rfl
            have hg3 : g3 < wr.heap.size := by omega
            have p5 : ∀ o : Obj, (wr.alloc o).cell? ⟨g3, o3 + k * 8 + 5, none⟩ = some (.int .i64 m.pre) := fun o => by rw [((Below.refl wr.heap.size wr).alloc (Nat.le_refl _) o).cell (p := ⟨g3, o3 + k * 8 + 5, none⟩) hg3]; exact hcs3.at 5 _ rfl
            subst hval
            clear hx hmk2 hcs3
            go_wp2_with fail
            go_ret
            exact ⟨rfl, HBw.out.alloc (by omega) _⟩
          · have hkmI : ¬ (k : Int) < (me : Int) := by omega
            have hval : r = preL e.ms (y.keys.drop (k + 1)) (k + 1) := by rw [hx, if_neg (fun e => by rw [← hn1.out] at e; exact hkm e.2)]
            have HVAL := Lib.hid hval
            clear hval hx
            go_wp2_with fail
            go_roundw
            case rel => (go_light; exact ⟨k + 1, by omega, by simp, HB.out.alloc HB.out.size _, HVAL⟩)
            case measure => simp [intOf]; omega
        · have hval : r = preL e.ms (y.keys.drop (k + 1)) (k + 1) := by rw [hx, if_neg (fun e => hkd e.1)]
          have HVAL := Lib.hid hval
          clear hval hx
          go_wp2_with fail
          go_roundw
          case rel => (go_light; exact ⟨k + 1, by omega, by simp, HB.out.alloc HB.out.size _, HVAL⟩)
          case measure => simp [intOf]; omega
      · have hkI : ¬ (k : Int) < (nk : Int) := by omega
        have hval : r = 0 := by rw [hx, List.drop_of_length_le (by rw [← hnk.out]; omega)]; rfl
        subst hval
        clear hx hb
        go_wp2_with fail
        go_ret
        exact ⟨rfl, HBw.out⟩
set_option maxRecDepth 100000 in
set_option maxHeartbeats 4000000 in
theorem g_rBeats {w : World} {B : Nat} {s0 s1 s2 s3 s4 s5 s6 s7 : Value} {x : SchemaD} (h : SchM w B s0 s1 s2 s3 s4 s5 s6 s7 x) (hB : B ≤ w.heap.size) (s8 s9 : Value) (a b : EntryD) (B1 B2 : Option Addr) (m1 k1 m2 k2 : Nat) (u1 u2 o1 o2 : Value) (na nb : Int) (hr1 : RowV 8 MatchV B w (.slice B1 m1 k1) a.ms) (hr2 : RowV 8 MatchV B w (.slice B2 m2 k2) b.ms) :
    Calls Try.prog 22 #[.agg #[s0, s1, s2, s3, s4, s5, s6, s7, s8, s9], .agg #[.int .i64 a.table, .slice B1 m1 k1, .int .i64 a.prio, .int .i64 a.action, u1, .int .i64 na, o1], .agg #[.int .i64 b.table, .slice B2 m2 k2, .int .i64 b.prio, .int .i64 b.action, u2, .int .i64 nb, o2]] w (RetX (.bool (beatsE x.tables a b na nb)) w) := by
  obtain ⟨A0, n0, c0, rfl, _⟩ := h.f.parts
  obtain ⟨A1, n1, c1, rfl, _⟩ := h.h.parts
  obtain ⟨A2, n2, c2, rfl, _⟩ := h.st.parts
  obtain ⟨A3, n3, c3, rfl, _⟩ := h.a.parts
  obtain ⟨A4, n4, c4, rfl, _⟩ := h.t.parts
  obtain ⟨A5, n5, c5, rfl, _⟩ := h.sg.parts
  obtain ⟨A6, n6, c6, rfl, _⟩ := h.r.parts
  obtain ⟨A7, n7, c7, rfl, _⟩ := h.rf.parts
  obtain ⟨W0, hW0⟩ : ∃ W, W = (((w.alloc (.cells #[.slice A0 n0 c0, .slice A1 n1 c1, .slice A2 n2 c2, .slice A3 n3 c3, .slice A4 n4 c4, .slice A5 n5 c5, .slice A6 n6 c6, .slice A7 n7 c7, s8, s9] 45)).alloc (.cells #[.int .i64 a.table, .slice B1 m1 k1, .int .i64 a.prio, .int .i64 a.action, u1, .int .i64 na, o1] 60)).alloc (.cells #[.int .i64 b.table, .slice B2 m2 k2, .int .i64 b.prio, .int .i64 b.action, u2, .int .i64 nb, o2] 60)) := ⟨_, rfl⟩
  have hB0 : Below w.heap.size w W0 := by rw [hW0]; exact ((((Below.refl w.heap.size w).alloc (by simp <;> omega) _).alloc (by simp <;> omega) _).alloc (by simp <;> omega) _)
  have hz0 : W0.heap.size = w.heap.size + 3 := by rw [hW0]; simp
  have b0_0 : W0.heap[w.heap.size]? = some (.cells #[.slice A0 n0 c0, .slice A1 n1 c1, .slice A2 n2 c2, .slice A3 n3 c3, .slice A4 n4 c4, .slice A5 n5 c5, .slice A6 n6 c6, .slice A7 n7 c7, s8, s9] 45 (0, 0)) := by
    rw [hW0]
    exact ((((Below.refl (w.alloc (.cells #[.slice A0 n0 c0, .slice A1 n1 c1, .slice A2 n2 c2, .slice A3 n3 c3, .slice A4 n4 c4, .slice A5 n5 c5, .slice A6 n6 c6, .slice A7 n7 c7, s8, s9] 45)).heap.size (w.alloc (.cells #[.slice A0 n0 c0, .slice A1 n1 c1, .slice A2 n2 c2, .slice A3 n3 c3, .slice A4 n4 c4, .slice A5 n5 c5, .slice A6 n6 c6, .slice A7 n7 c7, s8, s9] 45))).alloc (by simp <;> omega) _).alloc (by simp <;> omega) _).block w.heap.size (by simp)).trans (heap_alloc_new _ _)
  have b0_1 : W0.heap[w.heap.size + 1]? = some (.cells #[.int .i64 a.table, .slice B1 m1 k1, .int .i64 a.prio, .int .i64 a.action, u1, .int .i64 na, o1] 60 (0, 0)) := by
    rw [hW0]
    rw [show w.heap.size + 1 = (w.alloc (.cells #[.slice A0 n0 c0, .slice A1 n1 c1, .slice A2 n2 c2, .slice A3 n3 c3, .slice A4 n4 c4, .slice A5 n5 c5, .slice A6 n6 c6, .slice A7 n7 c7, s8, s9] 45)).heap.size by simp]
    exact (((Below.refl ((w.alloc (.cells #[.slice A0 n0 c0, .slice A1 n1 c1, .slice A2 n2 c2, .slice A3 n3 c3, .slice A4 n4 c4, .slice A5 n5 c5, .slice A6 n6 c6, .slice A7 n7 c7, s8, s9] 45)).alloc (.cells #[.int .i64 a.table, .slice B1 m1 k1, .int .i64 a.prio, .int .i64 a.action, u1, .int .i64 na, o1] 60)).heap.size ((w.alloc (.cells #[.slice A0 n0 c0, .slice A1 n1 c1, .slice A2 n2 c2, .slice A3 n3 c3, .slice A4 n4 c4, .slice A5 n5 c5, .slice A6 n6 c6, .slice A7 n7 c7, s8, s9] 45)).alloc (.cells #[.int .i64 a.table, .slice B1 m1 k1, .int .i64 a.prio, .int .i64 a.action, u1, .int .i64 na, o1] 60))).alloc (by simp <;> omega) _).block (w.alloc (.cells #[.slice A0 n0 c0, .slice A1 n1 c1, .slice A2 n2 c2, .slice A3 n3 c3, .slice A4 n4 c4, .slice A5 n5 c5, .slice A6 n6 c6, .slice A7 n7 c7, s8, s9] 45)).heap.size (by simp)).trans (heap_alloc_new _ _)
  have b0_2 : W0.heap[w.heap.size + 2]? = some (.cells #[.int .i64 b.table, .slice B2 m2 k2, .int .i64 b.prio, .int .i64 b.action, u2, .int .i64 nb, o2] 60 (0, 0)) := by
    rw [hW0]
    rw [show w.heap.size + 2 = ((w.alloc (.cells #[.slice A0 n0 c0, .slice A1 n1 c1, .slice A2 n2 c2, .slice A3 n3 c3, .slice A4 n4 c4, .slice A5 n5 c5, .slice A6 n6 c6, .slice A7 n7 c7, s8, s9] 45)).alloc (.cells #[.int .i64 a.table, .slice B1 m1 k1, .int .i64 a.prio, .int .i64 a.action, u1, .int .i64 na, o1] 60)).heap.size by simp]
    exact heap_alloc_new _ _
  have K1 : Hid (∀ W, Below W0.heap.size W0 W → Calls Try.prog 19 #[.agg #[.slice A0 n0 c0, .slice A1 n1 c1, .slice A2 n2 c2, .slice A3 n3 c3, .slice A4 n4 c4, .slice A5 n5 c5, .slice A6 n6 c6, .slice A7 n7 c7, s8, s9], .agg #[.int .i64 a.table, .slice B1 m1 k1, .int .i64 a.prio, .int .i64 a.action, u1]] W (RetX (.int .i64 (preE x.tables a)) W)) :=
    Lib.hid fun W hb => g_rPrefix (h.below ((hB0.trans (hb.mono hB0.size)).mono hB)) (Nat.le_trans hB (Nat.le_trans hB0.size hb.size)) s8 s9 a B1 m1 k1 u1 (hr1.below kept_match ((hB0.trans (hb.mono hB0.size)).mono hB))
  have K2 : Hid (∀ W, Below W0.heap.size W0 W → Calls Try.prog 19 #[.agg #[.slice A0 n0 c0, .slice A1 n1 c1, .slice A2 n2 c2, .slice A3 n3 c3, .slice A4 n4 c4, .slice A5 n5 c5, .slice A6 n6 c6, .slice A7 n7 c7, s8, s9], .agg #[.int .i64 b.table, .slice B2 m2 k2, .int .i64 b.prio, .int .i64 b.action, u2]] W (RetX (.int .i64 (preE x.tables b)) W)) :=
    Lib.hid fun W hb => g_rPrefix (h.below ((hB0.trans (hb.mono hB0.size)).mono hB)) (Nat.le_trans hB (Nat.le_trans hB0.size hb.size)) s8 s9 b B2 m2 k2 u2 (hr2.below kept_match ((hB0.trans (hb.mono hB0.size)).mono hB))
  have HKS : Hid (∀ w', Below W0.heap.size W0 w' → Below W0.heap.size W0 w' ∧ w'.cell? ⟨w.heap.size, 0, none⟩ = some (.slice A0 n0 c0) ∧ w'.cell? ⟨w.heap.size, 1, none⟩ = some (.slice A1 n1 c1) ∧ w'.cell? ⟨w.heap.size, 2, none⟩ = some (.slice A2 n2 c2) ∧ w'.cell? ⟨w.heap.size, 3, none⟩ = some (.slice A3 n3 c3) ∧ w'.cell? ⟨w.heap.size, 4, none⟩ = some (.slice A4 n4 c4) ∧ w'.cell? ⟨w.heap.size, 5, none⟩ = some (.slice A5 n5 c5) ∧ w'.cell? ⟨w.heap.size, 6, none⟩ = some (.slice A6 n6 c6) ∧ w'.cell? ⟨w.heap.size, 7, none⟩ = some (.slice A7 n7 c7) ∧ w'.cell? ⟨w.heap.size, 8, none⟩ = some (s8) ∧ w'.cell? ⟨w.heap.size, 9, none⟩ = some (s9) ∧ w'.cell? ⟨w.heap.size + 1, 0, none⟩ = some (.int .i64 a.table) ∧ w'.cell? ⟨w.heap.size + 1, 1, none⟩ = some (.slice B1 m1 k1) ∧ w'.cell? ⟨w.heap.size + 1, 2, none⟩ = some (.int .i64 a.prio) ∧ w'.cell? ⟨w.heap.size + 1, 3, none⟩ = some (.int .i64 a.action) ∧ w'.cell? ⟨w.heap.size + 1, 4, none⟩ = some (u1) ∧ w'.cell? ⟨w.heap.size + 2, 0, none⟩ = some (.int .i64 b.table) ∧ w'.cell? ⟨w.heap.size + 2, 1, none⟩ = some (.slice B2 m2 k2) ∧ w'.cell? ⟨w.heap.size + 2, 2, none⟩ = some (.int .i64 b.prio) ∧ w'.cell? ⟨w.heap.size + 2, 3, none⟩ = some (.int .i64 b.action) ∧ w'.cell? ⟨w.heap.size + 2, 4, none⟩ = some (u2)) := Lib.hid fun w' hb => by
    have q0 := (hb.block w.heap.size (by omega)).trans b0_0
    have q1 := (hb.block (w.heap.size + 1) (by omega)).trans b0_1
    have q2 := (hb.block (w.heap.size + 2) (by omega)).trans b0_2
    exact ⟨hb, blk_cell q0 0 _ rfl, blk_cell q0 1 _ rfl, blk_cell q0 2 _ rfl, blk_cell q0 3 _ rfl, blk_cell q0 4 _ rfl, blk_cell q0 5 _ rfl, blk_cell q0 6 _ rfl, blk_cell q0 7 _ rfl, blk_cell q0 8 _ rfl, blk_cell q0 9 _ rfl, blk_cell q1 0 _ rfl, blk_cell q1 1 _ rfl, blk_cell q1 2 _ rfl, blk_cell q1 3 _ rfl, blk_cell q1 4 _ rfl, blk_cell q2 0 _ rfl, blk_cell q2 1 _ rfl, blk_cell q2 2 _ rfl, blk_cell q2 3 _ rfl, blk_cell q2 4 _ rfl⟩
  have HN : Hid (∀ w', Below W0.heap.size W0 w' → w'.cell? ⟨w.heap.size + 1, 5, none⟩ = some (.int .i64 na) ∧ w'.cell? ⟨w.heap.size + 2, 5, none⟩ = some (.int .i64 nb)) := Lib.hid fun w' hb => by
    have q1 := (hb.block (w.heap.size + 1) (by omega)).trans b0_1
    have q2 := (hb.block (w.heap.size + 2) (by omega)).trans b0_2
    exact ⟨blk_cell q1 5 _ rfl, blk_cell q2 5 _ rfl⟩
  obtain ⟨P1, hP1⟩ : ∃ z, z = preE x.tables a := ⟨_, rfl⟩
  obtain ⟨P2, hP2⟩ : ∃ z, z = preE x.tables b := ⟨_, rfl⟩
  obtain ⟨r, hr⟩ : ∃ r, r = beatsE x.tables a b na nb := ⟨_, rfl⟩
  rw [← hr]
  unfold beatsE at hr
  rw [← hP1] at K1 hr
  rw [← hP2] at K2 hr
  have HB0 := Lib.hid hB0
  have HW0 := Lib.hid hW0
  have HRR := Lib.hid hr
  clear h hr1 hr2 hB0 hW0 b0_0 b0_1 b0_2 hP1 hP2 hr
  generalize a.prio = pa at *
  generalize b.prio = pb at *
  generalize a.table = ta at *
  generalize b.table = tb at *
  generalize a.action = aa at *
  generalize b.action = ab at *
  have fin : ∀ {W : World}, Below W0.heap.size W0 W → Below w.heap.size w W := fun h => HB0.out.trans (h.mono HB0.out.size)
  by_cases hpr : pa = pb
  · subst hpr
    have hr := HRR.out
    rw [if_pos rfl] at hr
    have HR3 := Lib.hid hr
    clear hr HRR
    go_enter Try.func22, Try.ntmps22
    go_upto_region 1 with fail
    rw [← HW0.out]
    obtain ⟨_, zz⟩ := HKS.out W0 (Below.refl _ _)
    go_upto_region 3 with fail
    clear zz
    go_region_held3 (fun w' => Below W0.heap.size W0 w' ∧ w'.cell? ⟨w.heap.size, 0, none⟩ = some (.slice A0 n0 c0) ∧ w'.cell? ⟨w.heap.size, 1, none⟩ = some (.slice A1 n1 c1) ∧ w'.cell? ⟨w.heap.size, 2, none⟩ = some (.slice A2 n2 c2) ∧ w'.cell? ⟨w.heap.size, 3, none⟩ = some (.slice A3 n3 c3) ∧ w'.cell? ⟨w.heap.size, 4, none⟩ = some (.slice A4 n4 c4) ∧ w'.cell? ⟨w.heap.size, 5, none⟩ = some (.slice A5 n5 c5) ∧ w'.cell? ⟨w.heap.size, 6, none⟩ = some (.slice A6 n6 c6) ∧ w'.cell? ⟨w.heap.size, 7, none⟩ = some (.slice A7 n7 c7) ∧ w'.cell? ⟨w.heap.size, 8, none⟩ = some (s8) ∧ w'.cell? ⟨w.heap.size, 9, none⟩ = some (s9) ∧ w'.cell? ⟨w.heap.size + 1, 0, none⟩ = some (.int .i64 ta) ∧ w'.cell? ⟨w.heap.size + 1, 1, none⟩ = some (.slice B1 m1 k1) ∧ w'.cell? ⟨w.heap.size + 1, 2, none⟩ = some (.int .i64 pa) ∧ w'.cell? ⟨w.heap.size + 1, 3, none⟩ = some (.int .i64 aa) ∧ w'.cell? ⟨w.heap.size + 1, 4, none⟩ = some (u1) ∧ w'.cell? ⟨w.heap.size + 2, 0, none⟩ = some (.int .i64 tb) ∧ w'.cell? ⟨w.heap.size + 2, 1, none⟩ = some (.slice B2 m2 k2) ∧ w'.cell? ⟨w.heap.size + 2, 2, none⟩ = some (.int .i64 pa) ∧ w'.cell? ⟨w.heap.size + 2, 3, none⟩ = some (.int .i64 ab) ∧ w'.cell? ⟨w.heap.size + 2, 4, none⟩ = some (u2))
      (first
        | exact HKS.out _ (Below.drew (Below.refl _ _))
        | exact HKS.out _ (below_call (And.left (by assumption)) (by assumption))
        | assumption)
      (first
        | (go_at_call 19; (with_reducible refine (K1.out _ (And.left (by assumption))).mono ?_); rintro en v2 ⟨rfl, hv2⟩)
        | (go_at_call 19; (with_reducible refine (K2.out _ (And.left (by assumption))).mono ?_); rintro en v3 ⟨rfl, hv3⟩))
    all_goals
      simp only [Exit.then]
      apply_assumption
      have hS := And.left (by assumption : Below W0.heap.size W0 _ ∧ _)
      obtain ⟨y1, y2⟩ := HN.out _ hS
      have HSb := Lib.hid (fin hS)
      by_cases hP : P1 = P2
      · have hv : r = decide (nb < na) := by rw [HR3.out, if_pos hP]
        subst hP
        subst hv
        go_wp2_with fail
        go_ret
        exact ⟨rfl, HSb.out⟩
      · have hv : r = decide (P2 < P1) := by rw [HR3.out, if_neg hP]
        subst hv
        go_wp2_with fail
        go_ret
        exact ⟨rfl, HSb.out⟩
  · have hr := HRR.out
    rw [if_neg hpr] at hr
    subst hr
    clear HRR
    go_enter Try.func22, Try.ntmps22
    go_upto_region 1 with fail
    rw [← HW0.out]
    obtain ⟨_, zz⟩ := HKS.out W0 (Below.refl _ _)
    go_wp2_with fail
    go_ret
    exact ⟨rfl, fin (Below.refl _ _)⟩
end Go.Proofs.Ythakjhjfooeljaa
