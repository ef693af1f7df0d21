/- Contracts, joined: GRef, GLow. -/
import Derived.Test.YthldelnibgdnaaaGIds
import Derived.Test.YthldelnibgdnaaaGWin
namespace Go.Proofs.Ythldelnibgdnaaa
section
open Go.RowKit

/-- A schema in memory: its slices. -/
structure SchM (w : World) (B : Nat) (s0 s1 s2 s3 s4 s5 s6 s7 : Value) (x : SchemaD) : Prop where
  f : RowV 3 FieldV B w s0 x.fields
  h : RowV 3 HeaderV B w s1 x.headers
  st : RowV 5 StateV B w s2 x.states
  a : RowV 5 ActionV B w s3 x.actions
  t : RowV 8 TableV B w s4 x.tables
  sg : RowV 2 StageV B w s5 x.stages
  r : RowV 6 RoleV B w s6 x.roles
  rf : RowV 6 RefV B w s7 x.refs
  len : x.fields.length ≤ 1000000 ∧ x.headers.length ≤ 1000000 ∧ x.states.length ≤ 1000000 ∧ x.actions.length ≤ 1000000 ∧ x.tables.length ≤ 1000000 ∧ x.roles.length ≤ 1000000
theorem SchM.below {w w' : World} {B : Nat} {s0 s1 s2 s3 s4 s5 s6 s7 : Value} {x : SchemaD} (h : SchM w B s0 s1 s2 s3 s4 s5 s6 s7 x) (hb : Below B w w') : SchM w' B s0 s1 s2 s3 s4 s5 s6 s7 x := ⟨h.f.below kept_field hb, h.h.below kept_header hb, h.st.below kept_state hb, h.a.below kept_action hb, h.t.below kept_table hb, h.sg.below kept_stage hb, h.r.below kept_role hb, h.rf.below kept_ref hb, h.len⟩
end
section
open Go.RowKit

def lowB (a : Nat) (n : Int) : Nat := a % 2 ^ cl n
theorem u64_wrapN (n : Nat) (h : n < 18446744073709551616) : IntKind.u64.wrap (n : Int) = n := by
  exact IntWalk.u64_in _ (by omega)
theorem pow_64 {k : Nat} (hk : k < 64) : 2 ^ k < 18446744073709551616 := Nat.lt_of_lt_of_le (Nat.pow_lt_pow_right (by decide) hk) (by decide)
theorem pow_w {k : Nat} (hk : k < 64) : IntKind.u64.wrap ((2 : Int) ^ k) = ((2 ^ k : Nat) : Int) := by
  have := u64_wrapN (2 ^ k) (pow_64 hk)
  rw [← this]
  congr 1
theorem mask_w {k : Nat} (hk : k < 64) : IntKind.u64.wrap (IntKind.u64.wrap ((2 : Int) ^ k) - 1) = ((2 ^ k - 1 : Nat) : Int) := by
  rw [pow_w hk]
  have h1 : 0 < 2 ^ k := Nat.two_pow_pos k
  have h2 := pow_64 hk
  have e : ((2 ^ k : Nat) : Int) - 1 = ((2 ^ k - 1 : Nat) : Int) := by omega
  rw [e, u64_wrapN _ (by omega)]
theorem and_w {x k : Nat} (hx : x < 18446744073709551616) (hk : k < 64) : bits .and .u64 (x : Int) (IntKind.u64.wrap (IntKind.u64.wrap ((2 : Int) ^ k) - 1)) = ((x % 2 ^ k : Nat) : Int) := by
  rw [mask_w hk, u64_and_nat _ _ hx (by have := pow_64 hk; omega), Nat.and_two_pow_sub_one_eq_mod]
theorem low_hi (a : Nat) (n : Int) (h1 : 64 ≤ n) (h2 : n < 128) : bits .and .u64 (hi a) (IntKind.u64.wrap (IntKind.u64.wrap ((2 : Int) ^ (n - 64).toNat) - 1)) = hi (lowB a n) := by
  unfold hi
  rw [and_w (by omega) (by omega)]
  congr 1
  unfold lowB cl
  apply Nat.eq_of_testBit_eq; intro i
  have e : (min (max n 0) 128).toNat = n.toNat := by omega
  simp only [e, p64, Nat.testBit_mod_two_pow, Nat.testBit_div_two_pow]
  by_cases h3 : i < (n - 64).toNat
  · have h4 : i < 64 := by omega
    have h5 : i + 64 < n.toNat := by omega
    simp [h3, h4, h5]
  · have h5 : ¬ i + 64 < n.toNat := by omega
    simp [h3, h5]
theorem low_keep (a : Nat) (n : Int) (h1 : 64 ≤ n) : lo (lowB a n) = lo a := by
  unfold lo lowB cl
  congr 1
  rw [p64, Nat.mod_mod_of_dvd]
  exact Nat.pow_dvd_pow 2 (by omega)
theorem low_lo (a : Nat) (n : Int) (h1 : 0 < n) (h2 : n < 64) : bits .and .u64 (lo a) (IntKind.u64.wrap (IntKind.u64.wrap ((2 : Int) ^ n.toNat) - 1)) = lo (lowB a n) ∧ hi (lowB a n) = 0 := by
  have e : (min (max n 0) 128).toNat = n.toNat := by omega
  have hb := pow_64 (k := n.toNat) (by omega)
  have hl := Nat.mod_lt a (Nat.two_pow_pos n.toNat)
  constructor
  · unfold lo
    rw [and_w (by omega) (by omega)]
    congr 1
    unfold lowB cl
    rw [e, Nat.mod_eq_of_lt (a := a % 2 ^ n.toNat) (by omega), p64, Nat.mod_mod_of_dvd]
    exact Nat.pow_dvd_pow 2 (by omega)
  · unfold hi lowB cl
    rw [e, Nat.div_eq_of_lt (by omega)]
    rfl
set_option maxRecDepth 100000 in
set_option maxHeartbeats 1000000 in
theorem cs_low (a : Nat) (n : Int) (ha : a < 2 ^ 128) (hn : n ≤ 9223372036854775807) (w : World) : Calls Try.prog 9 #[.agg #[.int .u64 (hi a), .int .u64 (lo a)], .int .i64 n] w (RetV (lowB a n) w) := by
  obtain ⟨r, hr⟩ : ∃ r, r = lowB a n := ⟨_, rfl⟩
  rw [← hr]
  by_cases h1 : 128 ≤ n
  · have hv : r = a := by
      rw [hr]
      unfold lowB cl
      have e : (min (max n 0) 128).toNat = 128 := by omega
      rw [e, Nat.mod_eq_of_lt ha]
    subst hv
    clear hr
    go_enter Try.func9, Try.ntmps9
    go_wp2
    refine bodyPost_ret (v := .agg #[.int .u64 (hi r), .int .u64 (lo r)]) (by simp [results, Try.results9, go_sem]) rfl ⟨rfl, ?_⟩
    exact ((Below.refl _ _).alloc (by simp) _).alloc (by simp) _
  · by_cases h2 : 64 ≤ n
    · have e1 : IntKind.i64.wrap (n - 64) = n - 64 := IntWalk.i64_in _ (by omega)
      have e2 := low_hi a n h2 (by omega)
      have e3 := low_keep a n h2
      rw [← hr] at e2 e3
      have E2 := Lib.hid e2
      have E3 := Lib.hid e3
      clear e2 e3 hr
      go_enter Try.func9, Try.ntmps9
      go_wp2
      refine bodyPost_ret (v := .agg #[.int .u64 (hi r), .int .u64 (lo r)]) (by simp [results, Try.results9, go_sem, E2.out, E3.out]) rfl ⟨rfl, ?_⟩
      exact ((Below.refl _ _).alloc (by simp) _).alloc (by simp) _
    · by_cases h3 : n ≤ 0
      · have hv : r = 0 := by
          rw [hr]
          unfold lowB cl
          have e : (min (max n 0) 128).toNat = 0 := by omega
          rw [e, Nat.pow_zero, Nat.mod_one]
        subst hv
        clear hr
        go_enter Try.func9, Try.ntmps9
        go_wp2
        refine bodyPost_ret (v := .agg #[.int .u64 (hi 0), .int .u64 (lo 0)]) (by simp [results, Try.results9, go_sem, hi, lo]) rfl ⟨rfl, ?_⟩
        exact ((Below.refl _ _).alloc (by simp) _).alloc (by simp) _
      · obtain ⟨e2, e3⟩ := low_lo a n (by omega) (by omega)
        rw [← hr] at e2 e3
        have E2 := Lib.hid e2
        have E3 := Lib.hid e3
        clear e2 e3 hr
        go_enter Try.func9, Try.ntmps9
        go_wp2
        refine bodyPost_ret (v := .agg #[.int .u64 (hi r), .int .u64 (lo r)]) (by simp [results, Try.results9, go_sem, E2.out, E3.out]) rfl ⟨rfl, ?_⟩
        exact ((Below.refl _ _).alloc (by simp) _).alloc (by simp) _
set_option maxRecDepth 100000 in
set_option maxHeartbeats 1000000 in
theorem cs_mask (b n : Int) (h0 : 0 ≤ n) (h1 : n ≤ b) (h2 : b ≤ 32) (w : World) : Calls Try.prog 41 #[.int .i64 b, .int .i64 n] w (RetV (2 ^ b.toNat - 2 ^ (b - n).toNat) w) := by
  have e1 : IntKind.i64.wrap (b - n) = b - n := IntWalk.i64_in _ (by omega)
  have q1 := pow_64 (k := b.toNat) (by omega)
  have q2 : 2 ^ (b - n).toNat ≤ 2 ^ b.toNat := Nat.pow_le_pow_right (by decide) (by omega)
  have q3 := Nat.two_pow_pos (b - n).toNat
  obtain ⟨r, hr⟩ : ∃ r, r = 2 ^ b.toNat - 2 ^ (b - n).toNat := ⟨_, rfl⟩
  rw [← hr]
  have e2 : IntKind.u64.wrap (IntKind.u64.wrap (IntKind.u64.wrap ((2 : Int) ^ b.toNat) - 1) - IntKind.u64.wrap (IntKind.u64.wrap ((2 : Int) ^ (b - n).toNat) - 1)) = lo r := by
    rw [mask_w (by omega), mask_w (by omega)]
    have e : ((2 ^ b.toNat - 1 : Nat) : Int) - ((2 ^ (b - n).toNat - 1 : Nat) : Int) = (r : Nat) := by omega
    rw [e, u64_wrapN _ (by omega)]
    unfold lo
    rw [Nat.mod_eq_of_lt (by omega)]
  have e3 : hi r = 0 := by
    unfold hi
    rw [Nat.div_eq_of_lt (by omega)]
    rfl
  have E2 := Lib.hid e2
  have E3 := Lib.hid e3
  have hb0 : 0 ≤ b := by omega
  have hbn : 0 ≤ b - n := by omega
  have hb4 : b ≤ 64 := by omega
  have hbn4 : b - n ≤ 64 := by omega
  have ew : IntKind.u64.wrap b = b := IntWalk.u64_in _ (by omega)
  have ew2 : IntKind.u64.wrap (b - n) = b - n := IntWalk.u64_in _ (by omega)
  clear e2 e3 hr q1 q2 q3
  go_enter Try.func41, Try.ntmps41
  go_wp2
  refine bodyPost_ret (v := .agg #[.int .u64 (hi r), .int .u64 (lo r)]) (by simp [results, Try.results41, go_sem, E2.out, E3.out]) rfl ⟨rfl, ?_⟩
  exact (Below.refl _ _).alloc (by simp) _
end
end Go.Proofs.Ythldelnibgdnaaa
