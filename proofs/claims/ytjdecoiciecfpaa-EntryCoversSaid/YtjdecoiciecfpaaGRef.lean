/- The reference's indexes, prefixes and winners. -/
import Derived.Test.YtjdecoiciecfpaaGIds
import Derived.Test.YtjdecoiciecfpaaGWin
namespace Go.Proofs.Ytjdecoiciecfpaa
open Go.RowKit

/-- A schema in memory: its slices. -/
structure SchM (w : World) (B : Nat) (s0 s1 s2 s3 s4 s5 s6 s7 : Value) (x : SchemaD) : Prop where
  f : RowV 3 FieldV B w s0 x.fields
  h : RowV 3 HeaderV B w s1 x.headers
  st : RowV 5 StateV B w s2 x.states
  a : RowV 5 ActionV B w s3 x.actions
  t : RowV 8 TableV B w s4 x.tables
  sg : RowV 2 StageV B w s5 x.stages
  r : RowV 6 RoleV B w s6 x.roles
  rf : RowV 6 RefV B w s7 x.refs
  len : x.fields.length ≤ 1000000 ∧ x.headers.length ≤ 1000000 ∧ x.states.length ≤ 1000000 ∧ x.actions.length ≤ 1000000 ∧ x.tables.length ≤ 1000000 ∧ x.roles.length ≤ 1000000
theorem SchM.below {w w' : World} {B : Nat} {s0 s1 s2 s3 s4 s5 s6 s7 : Value} {x : SchemaD} (h : SchM w B s0 s1 s2 s3 s4 s5 s6 s7 x) (hb : Below B w w') : SchM w' B s0 s1 s2 s3 s4 s5 s6 s7 x := ⟨h.f.below kept_field hb, h.h.below kept_header hb, h.st.below kept_state hb, h.a.below kept_action hb, h.t.below kept_table hb, h.sg.below kept_stage hb, h.r.below kept_role hb, h.rf.below kept_ref hb, h.len⟩
set_option maxRecDepth 100000 in
theorem index_ids (v0 v1 v2 v3 v4 v5 : Value) (i : Nat) (hi : i < 6) (k : Int) (hk : k = (i : Nat)) (u : Value) (hu : #[v0, v1, v2, v3, v4, v5][i]? = some u) (w : World) :
    (Instr.index 165 (.agg #[v0, v1, v2, v3, v4, v5]) (.int .i64 k)).run Try.prog w = .ok u w := by
  have hs : (sizeOf 31).run Try.prog w = .ok 1 w := by kernel_rfl
  have ha : (isAgg 31).run Try.prog w = .ok false w := by kernel_rfl
  have hi2 : (0 : Int) ≤ (i : Int) ∧ (i : Int) < ((6 : Nat) : Int) := by omega
  subst hk
  simp only [Instr.index, asIntOf, Sem.run_bind, Sem.run_pure, Result.andThen, run_underlying Try.underlying165]
  rw [if_pos hi2]
  simp only [part, Sem.run_bind, ha, hs, Result.andThen, Int.toNat_natCast, Nat.mul_one, hu]
  rfl
set_option maxRecDepth 100000 in
set_option maxHeartbeats 2000000 in
theorem g_index (w : World) (B : Nat) (A : Option Addr) (n c : Nat) (xs : List Int) (id : Int) (h : RowV 1 I64V B w (.slice A n c) xs) :
    Calls Try.prog 85 #[.slice A n c, .int .i64 id] w (RetX (.int .i64 (ixI id xs 0)) w) := by
  obtain ⟨hn, hc, hm⟩ := h.len
  have HR := Lib.hid h
  obtain ⟨r, hr⟩ : ∃ r, r = ixI id xs 0 := ⟨_, rfl⟩
  rw [← hr]
  have HRR := Lib.hid hr
  clear h hr
  go_enter Try.func85, Try.ntmps85
  go_wp2_with fail
  go_loopw [9] (fun i w' => ∃ k : Nat, k ≤ n ∧ i = .int .i64 k ∧ w' = w ∧ Hid (r = ixI id (xs.drop k) k)) (fun i _ => n - (intOf i).toNat)
  case atStart => exact ⟨0, by omega, rfl, rfl, HRR⟩
  case round =>
    obtain ⟨k, hk, rfl, rfl, hxh⟩ := hrel
    have hx := hxh.out
    clear hxh HRR
    by_cases hlt : k < n
    · have hkI : (k : Int) < (n : Int) := by omega
      have hkc : (k : Int) < (c : Int) := by omega
      have hk0 : 0 ≤ (k : Int) := by omega
      obtain ⟨g, oo, e1, x, hxk, _, cs, hcs, hV⟩ := row_at HR.out (q := k) (by rw [← hn.out]; exact hlt)
      have hdr : xs.drop k = x :: xs.drop (k + 1) := by
        rw [List.drop_eq_getElem_cons (by rw [← hn.out]; exact hlt), (List.getElem?_eq_some_iff.1 hxk).2]
      rw [hdr, ixI] at hx
      obtain ⟨rfl, -⟩ := hV
      subst e1
      have d0 : wr.cell? ⟨g, oo + k, none⟩ = some (.int .i64 x) := by have := hcs.at0 _ rfl; rwa [Nat.mul_one] at this
      clear hdr hcs hxk
      by_cases hi : x = id
      · have hval : r = (k : Int) := by rw [hx, if_pos hi]
        subst hval
        clear hx
        go_wp2_with fail
        go_ret
        exact ⟨rfl, Below.refl _ _⟩
      · have hval : r = ixI id (xs.drop (k + 1)) (k + 1) := by rw [hx, if_neg hi]
        have HVAL := Lib.hid hval
        clear hval hx
        go_wp2_with fail
        go_roundw
        case rel => (go_light; exact ⟨k + 1, by omega, by simp, by first | exact rfl | exact trivial, HVAL⟩)
        case measure => simp [intOf]; omega
    · have hkI : ¬ (k : Int) < (n : Int) := by omega
      have hval : r = -1 := by rw [hx, List.drop_of_length_le (by rw [← hn.out]; omega)]; rfl
      subst hval
      clear hx
      go_wp2_with fail
      go_ret
      exact ⟨rfl, Below.refl _ _⟩
set_option maxRecDepth 100000 in
set_option maxHeartbeats 2000000 in
theorem g_rFieldOf {w : World} {B : Nat} {s0 s1 s2 s3 s4 s5 s6 s7 : Value} {x : SchemaD} (h : SchM w B s0 s1 s2 s3 s4 s5 s6 s7 x) (hB : B ≤ w.heap.size) (s8 s9 : Value) (id : Int) :
    Calls Try.prog 102 #[.agg #[s0, s1, s2, s3, s4, s5, s6, s7, s8, s9], .int .i64 id] w (RetX (.int .i64 (ixI id (x.fields.map (·.id)) 0)) w) := by
  obtain ⟨A0, n0, c0, rfl, _⟩ := h.f.parts
  obtain ⟨A1, n1, c1, rfl, _⟩ := h.h.parts
  obtain ⟨A2, n2, c2, rfl, _⟩ := h.st.parts
  obtain ⟨A3, n3, c3, rfl, _⟩ := h.a.parts
  obtain ⟨A4, n4, c4, rfl, _⟩ := h.t.parts
  obtain ⟨A5, n5, c5, rfl, _⟩ := h.sg.parts
  obtain ⟨A6, n6, c6, rfl, _⟩ := h.r.parts
  obtain ⟨A7, n7, c7, rfl, _⟩ := h.rf.parts
  have hb0 : Below w.heap.size w (w.alloc (.cells #[.slice A0 n0 c0, .slice A1 n1 c1, .slice A2 n2 c2, .slice A3 n3 c3, .slice A4 n4 c4, .slice A5 n5 c5, .slice A6 n6 c6, .slice A7 n7 c7, s8, s9] 45)) := (Below.refl _ _).alloc (Nat.le_refl _) _
  have h1 := h.below (hb0.mono hB)
  obtain ⟨l0, l1, l2, l3, l4, l6⟩ := h.len
  have KI := Lib.hid (g_ids (w.alloc (.cells #[.slice A0 n0 c0, .slice A1 n1 c1, .slice A2 n2 c2, .slice A3 n3 c3, .slice A4 n4 c4, .slice A5 n5 c5, .slice A6 n6 c6, .slice A7 n7 c7, s8, s9] 45)) B A0 n0 c0 x.fields A1 n1 c1 x.headers A2 n2 c2 x.states A3 n3 c3 x.actions A4 n4 c4 x.tables A6 n6 c6 x.roles (.slice A5 n5 c5) (.slice A7 n7 c7) s8 s9 (by simp; omega) h1.f (by rw [h.f.len.1.out]; exact l0) h1.h (by rw [h.h.len.1.out]; exact l1) h1.st (by rw [h.st.len.1.out]; exact l2) h1.a (by rw [h.a.len.1.out]; exact l3) h1.t (by rw [h.t.len.1.out]; exact l4) h1.r (by rw [h.r.len.1.out]; exact l6))
  have HB0 := Lib.hid hb0
  clear h h1 hb0 l0 l1 l2 l3 l4 l6
  go_enter Try.func102, Try.ntmps102
  go_wp2_with fail
  refine KI.out.mono ?_
  rintro en w1 ⟨v0, v1, v2, v3, v4, v5, rfl, r0, r1, r2, r3, r4, r5, hb1⟩
  obtain ⟨Ai, ni, ci, rfl, _⟩ := r0.parts
  have KX := Lib.hid (g_index w1 _ Ai ni ci _ id r0)
  have HB1 := Lib.hid (HB0.out.trans (hb1.mono HB0.out.size))
  clear r0 r1 r2 r3 r4 r5 hb1
  have hix := fun W => index_ids (.slice Ai ni ci) v1 v2 v3 v4 v5 0 (by decide) 0 rfl _ rfl W
  go_wp2_with fail
  refine KX.out.mono ?_
  rintro en w2 ⟨rfl, hb2⟩
  have HB2 := Lib.hid (HB1.out.trans (hb2.mono HB1.out.size))
  clear hb2
  go_wp2_with fail
  go_ret
  exact ⟨rfl, HB2.out⟩
set_option maxRecDepth 100000 in
set_option maxHeartbeats 2000000 in
theorem g_rTableOf {w : World} {B : Nat} {s0 s1 s2 s3 s4 s5 s6 s7 : Value} {x : SchemaD} (h : SchM w B s0 s1 s2 s3 s4 s5 s6 s7 x) (hB : B ≤ w.heap.size) (s8 s9 : Value) (id : Int) :
    Calls Try.prog 58 #[.agg #[s0, s1, s2, s3, s4, s5, s6, s7, s8, s9], .int .i64 id] w (RetX (.int .i64 (ixI id (x.tables.map (·.id)) 0)) w) := by
  obtain ⟨A0, n0, c0, rfl, _⟩ := h.f.parts
  obtain ⟨A1, n1, c1, rfl, _⟩ := h.h.parts
  obtain ⟨A2, n2, c2, rfl, _⟩ := h.st.parts
  obtain ⟨A3, n3, c3, rfl, _⟩ := h.a.parts
  obtain ⟨A4, n4, c4, rfl, _⟩ := h.t.parts
  obtain ⟨A5, n5, c5, rfl, _⟩ := h.sg.parts
  obtain ⟨A6, n6, c6, rfl, _⟩ := h.r.parts
  obtain ⟨A7, n7, c7, rfl, _⟩ := h.rf.parts
  have hb0 : Below w.heap.size w (w.alloc (.cells #[.slice A0 n0 c0, .slice A1 n1 c1, .slice A2 n2 c2, .slice A3 n3 c3, .slice A4 n4 c4, .slice A5 n5 c5, .slice A6 n6 c6, .slice A7 n7 c7, s8, s9] 45)) := (Below.refl _ _).alloc (Nat.le_refl _) _
  have h1 := h.below (hb0.mono hB)
  obtain ⟨l0, l1, l2, l3, l4, l6⟩ := h.len
  have KI := Lib.hid (g_ids (w.alloc (.cells #[.slice A0 n0 c0, .slice A1 n1 c1, .slice A2 n2 c2, .slice A3 n3 c3, .slice A4 n4 c4, .slice A5 n5 c5, .slice A6 n6 c6, .slice A7 n7 c7, s8, s9] 45)) B A0 n0 c0 x.fields A1 n1 c1 x.headers A2 n2 c2 x.states A3 n3 c3 x.actions A4 n4 c4 x.tables A6 n6 c6 x.roles (.slice A5 n5 c5) (.slice A7 n7 c7) s8 s9 (by simp; omega) h1.f (by rw [h.f.len.1.out]; exact l0) h1.h (by rw [h.h.len.1.out]; exact l1) h1.st (by rw [h.st.len.1.out]; exact l2) h1.a (by rw [h.a.len.1.out]; exact l3) h1.t (by rw [h.t.len.1.out]; exact l4) h1.r (by rw [h.r.len.1.out]; exact l6))
  have HB0 := Lib.hid hb0
  clear h h1 hb0 l0 l1 l2 l3 l4 l6
  go_enter Try.func58, Try.ntmps58
  go_wp2_with fail
  refine KI.out.mono ?_
  rintro en w1 ⟨v0, v1, v2, v3, v4, v5, rfl, r0, r1, r2, r3, r4, r5, hb1⟩
  obtain ⟨Ai, ni, ci, rfl, _⟩ := r4.parts
  have KX := Lib.hid (g_index w1 _ Ai ni ci _ id r4)
  have HB1 := Lib.hid (HB0.out.trans (hb1.mono HB0.out.size))
  clear r0 r1 r2 r3 r4 r5 hb1
  have hix := fun W => index_ids v0 v1 v2 v3 (.slice Ai ni ci) v5 4 (by decide) 4 rfl _ rfl W
  go_wp2_with fail
  refine KX.out.mono ?_
  rintro en w2 ⟨rfl, hb2⟩
  have HB2 := Lib.hid (HB1.out.trans (hb2.mono HB1.out.size))
  clear hb2
  go_wp2_with fail
  go_ret
  exact ⟨rfl, HB2.out⟩
end Go.Proofs.Ytjdecoiciecfpaa
