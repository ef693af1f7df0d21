/- Contracts, joined: GRef, GLow. -/
import Derived.Test.YtldgjahpmlafgaaGreatGIds
import Derived.Test.YtldgjahpmlafgaaGreatGWin
namespace Go.Proofs.YtldgjahpmlafgaaGreat
section
open Go.RowKit

/-- A schema in memory: its slices. -/
structure SchM (w : World) (B : Nat) (s0 s1 s2 s3 s4 s5 s6 s7 : Value) (x : SchemaD) : Prop where
  f : RowV 3 FieldV B w s0 x.fields
  h : RowV 3 HeaderV B w s1 x.headers
  st : RowV 5 StateV B w s2 x.states
  a : RowV 5 ActionV B w s3 x.actions
  t : RowV 8 TableV B w s4 x.tables
  sg : RowV 2 StageV B w s5 x.stages
  r : RowV 6 RoleV B w s6 x.roles
  rf : RowV 6 RefV B w s7 x.refs
  len : x.fields.length ≤ 1000000 ∧ x.headers.length ≤ 1000000 ∧ x.states.length ≤ 1000000 ∧ x.actions.length ≤ 1000000 ∧ x.tables.length ≤ 1000000 ∧ x.roles.length ≤ 1000000
theorem SchM.below {w w' : World} {B : Nat} {s0 s1 s2 s3 s4 s5 s6 s7 : Value} {x : SchemaD} (h : SchM w B s0 s1 s2 s3 s4 s5 s6 s7 x) (hb : Below B w w') : SchM w' B s0 s1 s2 s3 s4 s5 s6 s7 x := ⟨h.f.below kept_field hb, h.h.below kept_header hb, h.st.below kept_state hb, h.a.below kept_action hb, h.t.below kept_table hb, h.sg.below kept_stage hb, h.r.below kept_role hb, h.rf.below kept_ref hb, h.len⟩
set_option maxRecDepth 100000 in
theorem index_ids (v0 v1 v2 v3 v4 v5 : Value) (i : Nat) (hi : i < 6) (k : Int) (hk : k = (i : Nat)) (u : Value) (hu : #[v0, v1, v2, v3, v4, v5][i]? = some u) (w : World) :
    (Instr.index 234 (.agg #[v0, v1, v2, v3, v4, v5]) (.int .i64 k)).run Tryz.prog w = .ok u w := by
  have hs : (sizeOf 57).run Tryz.prog w = .ok 1 w := by kernel_rfl
  have ha : (isAgg 57).run Tryz.prog w = .ok false w := by kernel_rfl
  have hi2 : (0 : Int) ≤ (i : Int) ∧ (i : Int) < ((6 : Nat) : Int) := by omega
  subst hk
  simp only [Instr.index, asIntOf, Sem.run_bind, Sem.run_pure, Result.andThen, run_underlying Tryz.underlying234]
  rw [if_pos hi2]
  simp only [part, Sem.run_bind, ha, hs, Result.andThen, Int.toNat_natCast, Nat.mul_one, hu]
  rfl
set_option maxRecDepth 100000 in
set_option maxHeartbeats 2000000 in
theorem g_index (w : World) (B : Nat) (A : Option Addr) (n c : Nat) (xs : List Int) (id : Int) (h : RowV 1 I64V B w (.slice A n c) xs) :
    Calls Tryz.prog 153 #[.slice A n c, .int .i64 id] w (RetX (.int .i64 (ixI id xs 0)) w) := by
  obtain ⟨hn, hc, hm⟩ := h.len
  have HR := Lib.hid h
  obtain ⟨r, hr⟩ : ∃ r, r = ixI id xs 0 := ⟨_, rfl⟩
  rw [← hr]
  have HRR := Lib.hid hr
  clear h hr
  go_enter Tryz.func153, Tryz.ntmps153
  go_wp2_with fail
  go_loopw [9] (fun i w' => ∃ k : Nat, k ≤ n ∧ i = .int .i64 k ∧ w' = w ∧ Hid (r = ixI id (xs.drop k) k)) (fun i _ => n - (intOf i).toNat)
  case atStart => exact ⟨0, by omega, rfl, rfl, HRR⟩
  case round =>
    obtain ⟨k, hk, rfl, rfl, hxh⟩ := hrel
    have hx := hxh.out
    clear hxh HRR
    by_cases hlt : k < n
    · have hkI : (k : Int) < (n : Int) := by omega
      have hkc : (k : Int) < (c : Int) := by omega
      have hk0 : 0 ≤ (k : Int) := by omega
      obtain ⟨g, oo, e1, x, hxk, _, cs, hcs, hV⟩ := row_at HR.out (q := k) (by rw [← hn.out]; exact hlt)
      have hdr : xs.drop k = x :: xs.drop (k + 1) := by
        rw [List.drop_eq_getElem_cons (by rw [← hn.out]; exact hlt), (List.getElem?_eq_some_iff.1 hxk).2]
      rw [hdr, ixI] at hx
      obtain ⟨rfl, -⟩ := hV
      subst e1
      have d0 : wr.cell? ⟨g, oo + k, none⟩ = some (.int .i64 x) := by have := hcs.at0 _ rfl; rwa [Nat.mul_one] at this
      clear hdr hcs hxk
      by_cases hi : x = id
      · have hval : r = (k : Int) := by rw [hx, if_pos hi]
        subst hval
        clear hx
        go_wp2_with fail
        go_ret
        exact ⟨rfl, Below.refl _ _⟩
      · have hval : r = ixI id (xs.drop (k + 1)) (k + 1) := by rw [hx, if_neg hi]
        have HVAL := Lib.hid hval
        clear hval hx
        go_wp2_with fail
        go_roundw
        case rel => (go_light; exact ⟨k + 1, by omega, by simp, by first | exact rfl | exact trivial, HVAL⟩)
        case measure => simp [intOf]; omega
    · have hkI : ¬ (k : Int) < (n : Int) := by omega
      have hval : r = -1 := by rw [hx, List.drop_of_length_le (by rw [← hn.out]; omega)]; rfl
      subst hval
      clear hx
      go_wp2_with fail
      go_ret
      exact ⟨rfl, Below.refl _ _⟩
set_option maxRecDepth 100000 in
set_option maxHeartbeats 2000000 in
theorem g_rFieldOf {w : World} {B : Nat} {s0 s1 s2 s3 s4 s5 s6 s7 : Value} {x : SchemaD} (h : SchM w B s0 s1 s2 s3 s4 s5 s6 s7 x) (hB : B ≤ w.heap.size) (s8 s9 : Value) (id : Int) :
    Calls Tryz.prog 184 #[.agg #[s0, s1, s2, s3, s4, s5, s6, s7, s8, s9], .int .i64 id] w (RetX (.int .i64 (ixI id (x.fields.map (·.id)) 0)) w) := by
  obtain ⟨A0, n0, c0, rfl, _⟩ := h.f.parts
  obtain ⟨A1, n1, c1, rfl, _⟩ := h.h.parts
  obtain ⟨A2, n2, c2, rfl, _⟩ := h.st.parts
  obtain ⟨A3, n3, c3, rfl, _⟩ := h.a.parts
  obtain ⟨A4, n4, c4, rfl, _⟩ := h.t.parts
  obtain ⟨A5, n5, c5, rfl, _⟩ := h.sg.parts
  obtain ⟨A6, n6, c6, rfl, _⟩ := h.r.parts
  obtain ⟨A7, n7, c7, rfl, _⟩ := h.rf.parts
  have hb0 : Below w.heap.size w (w.alloc (.cells #[.slice A0 n0 c0, .slice A1 n1 c1, .slice A2 n2 c2, .slice A3 n3 c3, .slice A4 n4 c4, .slice A5 n5 c5, .slice A6 n6 c6, .slice A7 n7 c7, s8, s9] 36)) := (Below.refl _ _).alloc (Nat.le_refl _) _
  have h1 := h.below (hb0.mono hB)
  obtain ⟨l0, l1, l2, l3, l4, l6⟩ := h.len
  have KI := Lib.hid (g_ids (w.alloc (.cells #[.slice A0 n0 c0, .slice A1 n1 c1, .slice A2 n2 c2, .slice A3 n3 c3, .slice A4 n4 c4, .slice A5 n5 c5, .slice A6 n6 c6, .slice A7 n7 c7, s8, s9] 36)) B A0 n0 c0 x.fields A1 n1 c1 x.headers A2 n2 c2 x.states A3 n3 c3 x.actions A4 n4 c4 x.tables A6 n6 c6 x.roles (.slice A5 n5 c5) (.slice A7 n7 c7) s8 s9 (by simp; omega) h1.f (by rw [h.f.len.1.out]; exact l0) h1.h (by rw [h.h.len.1.out]; exact l1) h1.st (by rw [h.st.len.1.out]; exact l2) h1.a (by rw [h.a.len.1.out]; exact l3) h1.t (by rw [h.t.len.1.out]; exact l4) h1.r (by rw [h.r.len.1.out]; exact l6))
  have HB0 := Lib.hid hb0
  clear h h1 hb0 l0 l1 l2 l3 l4 l6
  go_enter Tryz.func184, Tryz.ntmps184
  go_wp2_with fail
  refine KI.out.mono ?_
  rintro en w1 ⟨v0, v1, v2, v3, v4, v5, rfl, r0, r1, r2, r3, r4, r5, hb1⟩
  obtain ⟨Ai, ni, ci, rfl, _⟩ := r0.parts
  have KX := Lib.hid (g_index w1 _ Ai ni ci _ id r0)
  have HB1 := Lib.hid (HB0.out.trans (hb1.mono HB0.out.size))
  clear r0 r1 r2 r3 r4 r5 hb1
  have hix := fun W => index_ids (.slice Ai ni ci) v1 v2 v3 v4 v5 0 (by decide) 0 rfl _ rfl W
  go_wp2_with fail
  refine KX.out.mono ?_
  rintro en w2 ⟨rfl, hb2⟩
  have HB2 := Lib.hid (HB1.out.trans (hb2.mono HB1.out.size))
  clear hb2
  go_wp2_with fail
  go_ret
  exact ⟨rfl, HB2.out⟩
set_option maxRecDepth 100000 in
set_option maxHeartbeats 2000000 in
theorem g_rTableOf {w : World} {B : Nat} {s0 s1 s2 s3 s4 s5 s6 s7 : Value} {x : SchemaD} (h : SchM w B s0 s1 s2 s3 s4 s5 s6 s7 x) (hB : B ≤ w.heap.size) (s8 s9 : Value) (id : Int) :
    Calls Tryz.prog 97 #[.agg #[s0, s1, s2, s3, s4, s5, s6, s7, s8, s9], .int .i64 id] w (RetX (.int .i64 (ixI id (x.tables.map (·.id)) 0)) w) := by
  obtain ⟨A0, n0, c0, rfl, _⟩ := h.f.parts
  obtain ⟨A1, n1, c1, rfl, _⟩ := h.h.parts
  obtain ⟨A2, n2, c2, rfl, _⟩ := h.st.parts
  obtain ⟨A3, n3, c3, rfl, _⟩ := h.a.parts
  obtain ⟨A4, n4, c4, rfl, _⟩ := h.t.parts
  obtain ⟨A5, n5, c5, rfl, _⟩ := h.sg.parts
  obtain ⟨A6, n6, c6, rfl, _⟩ := h.r.parts
  obtain ⟨A7, n7, c7, rfl, _⟩ := h.rf.parts
  have hb0 : Below w.heap.size w (w.alloc (.cells #[.slice A0 n0 c0, .slice A1 n1 c1, .slice A2 n2 c2, .slice A3 n3 c3, .slice A4 n4 c4, .slice A5 n5 c5, .slice A6 n6 c6, .slice A7 n7 c7, s8, s9] 36)) := (Below.refl _ _).alloc (Nat.le_refl _) _
  have h1 := h.below (hb0.mono hB)
  obtain ⟨l0, l1, l2, l3, l4, l6⟩ := h.len
  have KI := Lib.hid (g_ids (w.alloc (.cells #[.slice A0 n0 c0, .slice A1 n1 c1, .slice A2 n2 c2, .slice A3 n3 c3, .slice A4 n4 c4, .slice A5 n5 c5, .slice A6 n6 c6, .slice A7 n7 c7, s8, s9] 36)) B A0 n0 c0 x.fields A1 n1 c1 x.headers A2 n2 c2 x.states A3 n3 c3 x.actions A4 n4 c4 x.tables A6 n6 c6 x.roles (.slice A5 n5 c5) (.slice A7 n7 c7) s8 s9 (by simp; omega) h1.f (by rw [h.f.len.1.out]; exact l0) h1.h (by rw [h.h.len.1.out]; exact l1) h1.st (by rw [h.st.len.1.out]; exact l2) h1.a (by rw [h.a.len.1.out]; exact l3) h1.t (by rw [h.t.len.1.out]; exact l4) h1.r (by rw [h.r.len.1.out]; exact l6))
  have HB0 := Lib.hid hb0
  clear h h1 hb0 l0 l1 l2 l3 l4 l6
  go_enter Tryz.func97, Tryz.ntmps97
  go_wp2_with fail
  refine KI.out.mono ?_
  rintro en w1 ⟨v0, v1, v2, v3, v4, v5, rfl, r0, r1, r2, r3, r4, r5, hb1⟩
  obtain ⟨Ai, ni, ci, rfl, _⟩ := r4.parts
  have KX := Lib.hid (g_index w1 _ Ai ni ci _ id r4)
  have HB1 := Lib.hid (HB0.out.trans (hb1.mono HB0.out.size))
  clear r0 r1 r2 r3 r4 r5 hb1
  have hix := fun W => index_ids v0 v1 v2 v3 (.slice Ai ni ci) v5 4 (by decide) 4 rfl _ rfl W
  go_wp2_with fail
  refine KX.out.mono ?_
  rintro en w2 ⟨rfl, hb2⟩
  have HB2 := Lib.hid (HB1.out.trans (hb2.mono HB1.out.size))
  clear hb2
  go_wp2_with fail
  go_ret
  exact ⟨rfl, HB2.out⟩
end
section
open Go.RowKit

def lowB (a : Nat) (n : Int) : Nat := a % 2 ^ cl n
theorem u64_wrapN (n : Nat) (h : n < 18446744073709551616) : IntKind.u64.wrap (n : Int) = n := by
  exact IntWalk.u64_in _ (by omega)
theorem pow_64 {k : Nat} (hk : k < 64) : 2 ^ k < 18446744073709551616 := Nat.lt_of_lt_of_le (Nat.pow_lt_pow_right (by decide) hk) (by decide)
theorem pow_w {k : Nat} (hk : k < 64) : IntKind.u64.wrap ((2 : Int) ^ k) = ((2 ^ k : Nat) : Int) := by
  have := u64_wrapN (2 ^ k) (pow_64 hk)
  rw [← this]
  congr 1
theorem mask_w {k : Nat} (hk : k < 64) : IntKind.u64.wrap (IntKind.u64.wrap ((2 : Int) ^ k) - 1) = ((2 ^ k - 1 : Nat) : Int) := by
  rw [pow_w hk]
  have h1 : 0 < 2 ^ k := Nat.two_pow_pos k
  have h2 := pow_64 hk
  have e : ((2 ^ k : Nat) : Int) - 1 = ((2 ^ k - 1 : Nat) : Int) := by omega
  rw [e, u64_wrapN _ (by omega)]
theorem and_w {x k : Nat} (hx : x < 18446744073709551616) (hk : k < 64) : bits .and .u64 (x : Int) (IntKind.u64.wrap (IntKind.u64.wrap ((2 : Int) ^ k) - 1)) = ((x % 2 ^ k : Nat) : Int) := by
  rw [mask_w hk, u64_and_nat _ _ hx (by have := pow_64 hk; omega), Nat.and_two_pow_sub_one_eq_mod]
theorem low_hi (a : Nat) (n : Int) (h1 : 64 ≤ n) (h2 : n < 128) : bits .and .u64 (hi a) (IntKind.u64.wrap (IntKind.u64.wrap ((2 : Int) ^ (n - 64).toNat) - 1)) = hi (lowB a n) := by
  unfold hi
  rw [and_w (by omega) (by omega)]
  congr 1
  unfold lowB cl
  apply Nat.eq_of_testBit_eq; intro i
  have e : (min (max n 0) 128).toNat = n.toNat := by omega
  simp only [e, p64, Nat.testBit_mod_two_pow, Nat.testBit_div_two_pow]
  by_cases h3 : i < (n - 64).toNat
  · have h4 : i < 64 := by omega
    have h5 : i + 64 < n.toNat := by omega
    simp [h3, h4, h5]
  · have h5 : ¬ i + 64 < n.toNat := by omega
    simp [h3, h5]
theorem low_keep (a : Nat) (n : Int) (h1 : 64 ≤ n) : lo (lowB a n) = lo a := by
  unfold lo lowB cl
  congr 1
  rw [p64, Nat.mod_mod_of_dvd]
  exact Nat.pow_dvd_pow 2 (by omega)
theorem low_lo (a : Nat) (n : Int) (h1 : 0 < n) (h2 : n < 64) : bits .and .u64 (lo a) (IntKind.u64.wrap (IntKind.u64.wrap ((2 : Int) ^ n.toNat) - 1)) = lo (lowB a n) ∧ hi (lowB a n) = 0 := by
  have e : (min (max n 0) 128).toNat = n.toNat := by omega
  have hb := pow_64 (k := n.toNat) (by omega)
  have hl := Nat.mod_lt a (Nat.two_pow_pos n.toNat)
  constructor
  · unfold lo
    rw [and_w (by omega) (by omega)]
    congr 1
    unfold lowB cl
    rw [e, Nat.mod_eq_of_lt (a := a % 2 ^ n.toNat) (by omega), p64, Nat.mod_mod_of_dvd]
    exact Nat.pow_dvd_pow 2 (by omega)
  · unfold hi lowB cl
    rw [e, Nat.div_eq_of_lt (by omega)]
    rfl
set_option maxRecDepth 100000 in
set_option maxHeartbeats 1000000 in
theorem cs_low (a : Nat) (n : Int) (ha : a < 2 ^ 128) (hn : n ≤ 9223372036854775807) (w : World) : Calls Tryz.prog 81 #[.agg #[.int .u64 (hi a), .int .u64 (lo a)], .int .i64 n] w (RetV (lowB a n) w) := by
  obtain ⟨r, hr⟩ : ∃ r, r = lowB a n := ⟨_, rfl⟩
  rw [← hr]
  by_cases h1 : 128 ≤ n
  · have hv : r = a := by
      rw [hr]
      unfold lowB cl
      have e : (min (max n 0) 128).toNat = 128 := by omega
      rw [e, Nat.mod_eq_of_lt ha]
    subst hv
    clear hr
    go_enter Tryz.func81, Tryz.ntmps81
    go_wp2
    refine bodyPost_ret (v := .agg #[.int .u64 (hi r), .int .u64 (lo r)]) (by simp [results, Tryz.results81, go_sem]) rfl ⟨rfl, ?_⟩
    exact ((Below.refl _ _).alloc (by simp) _).alloc (by simp) _
  · by_cases h2 : 64 ≤ n
    · have e1 : IntKind.i64.wrap (n - 64) = n - 64 := IntWalk.i64_in _ (by omega)
      have e2 := low_hi a n h2 (by omega)
      have e3 := low_keep a n h2
      rw [← hr] at e2 e3
      have E2 := Lib.hid e2
      have E3 := Lib.hid e3
      clear e2 e3 hr
      go_enter Tryz.func81, Tryz.ntmps81
      go_wp2
      refine bodyPost_ret (v := .agg #[.int .u64 (hi r), .int .u64 (lo r)]) (by simp [results, Tryz.results81, go_sem, E2.out, E3.out]) rfl ⟨rfl, ?_⟩
      exact ((Below.refl _ _).alloc (by simp) _).alloc (by simp) _
    · by_cases h3 : n ≤ 0
      · have hv : r = 0 := by
          rw [hr]
          unfold lowB cl
          have e : (min (max n 0) 128).toNat = 0 := by omega
          rw [e, Nat.pow_zero, Nat.mod_one]
        subst hv
        clear hr
        go_enter Tryz.func81, Tryz.ntmps81
        go_wp2
        refine bodyPost_ret (v := .agg #[.int .u64 (hi 0), .int .u64 (lo 0)]) (by simp [results, Tryz.results81, go_sem, hi, lo]) rfl ⟨rfl, ?_⟩
        exact ((Below.refl _ _).alloc (by simp) _).alloc (by simp) _
      · obtain ⟨e2, e3⟩ := low_lo a n (by omega) (by omega)
        rw [← hr] at e2 e3
        have E2 := Lib.hid e2
        have E3 := Lib.hid e3
        clear e2 e3 hr
        go_enter Tryz.func81, Tryz.ntmps81
        go_wp2
        refine bodyPost_ret (v := .agg #[.int .u64 (hi r), .int .u64 (lo r)]) (by simp [results, Tryz.results81, go_sem, E2.out, E3.out]) rfl ⟨rfl, ?_⟩
        exact ((Below.refl _ _).alloc (by simp) _).alloc (by simp) _
set_option maxRecDepth 100000 in
set_option maxHeartbeats 1000000 in
theorem cs_mask (b n : Int) (h0 : 0 ≤ n) (h1 : n ≤ b) (h2 : b ≤ 32) (w : World) : Calls Tryz.prog 132 #[.int .i64 b, .int .i64 n] w (RetV (2 ^ b.toNat - 2 ^ (b - n).toNat) w) := by
  have e1 : IntKind.i64.wrap (b - n) = b - n := IntWalk.i64_in _ (by omega)
  have q1 := pow_64 (k := b.toNat) (by omega)
  have q2 : 2 ^ (b - n).toNat ≤ 2 ^ b.toNat := Nat.pow_le_pow_right (by decide) (by omega)
  have q3 := Nat.two_pow_pos (b - n).toNat
  obtain ⟨r, hr⟩ : ∃ r, r = 2 ^ b.toNat - 2 ^ (b - n).toNat := ⟨_, rfl⟩
  rw [← hr]
  have e2 : IntKind.u64.wrap (IntKind.u64.wrap (IntKind.u64.wrap ((2 : Int) ^ b.toNat) - 1) - IntKind.u64.wrap (IntKind.u64.wrap ((2 : Int) ^ (b - n).toNat) - 1)) = lo r := by
    rw [mask_w (by omega), mask_w (by omega)]
    have e : ((2 ^ b.toNat - 1 : Nat) : Int) - ((2 ^ (b - n).toNat - 1 : Nat) : Int) = (r : Nat) := by omega
    rw [e, u64_wrapN _ (by omega)]
    unfold lo
    rw [Nat.mod_eq_of_lt (by omega)]
  have e3 : hi r = 0 := by
    unfold hi
    rw [Nat.div_eq_of_lt (by omega)]
    rfl
  have E2 := Lib.hid e2
  have E3 := Lib.hid e3
  have hb0 : 0 ≤ b := by omega
  have hbn : 0 ≤ b - n := by omega
  have hb4 : b ≤ 64 := by omega
  have hbn4 : b - n ≤ 64 := by omega
  have ew : IntKind.u64.wrap b = b := IntWalk.u64_in _ (by omega)
  have ew2 : IntKind.u64.wrap (b - n) = b - n := IntWalk.u64_in _ (by omega)
  clear e2 e3 hr q1 q2 q3
  go_enter Tryz.func132, Tryz.ntmps132
  go_wp2
  refine bodyPost_ret (v := .agg #[.int .u64 (hi r), .int .u64 (lo r)]) (by simp [results, Tryz.results132, go_sem, E2.out, E3.out]) rfl ⟨rfl, ?_⟩
  exact (Below.refl _ _).alloc (by simp) _
end
end Go.Proofs.YtldgjahpmlafgaaGreat
