/- WireWrites: its walk. -/
import Derived.Test.YthfimcbjbkbcjaaWWriteBoth
namespace Go.Proofs.Ythfimcbjbkbcjaa
open Go.RowKit

theorem beq_ne {a b : Int} (h : a ≠ b) : (a == b) = false := by simpa using h
theorem write_any (B : Nat) (la : List Nat) (Aa : Option Addr) (Da na ca : Nat) (v : Value) (w : World) (kind nn most : Int) (val : Nat) (sA : Option Addr) (sn sc sD : Nat) (xs : List Nat)
    (hv : val < 2 ^ 128) (hn : -9223372036854775808 ≤ nn ∧ nn ≤ 9223372036854775807) (hsc : sn ≤ sc) (hxl : xs.length = sn) (hxs : Small xs) (hxr : ReadsL w sD sA xs) (hxD : xs ≠ [] → sD < B)
    (hO : Own w B v la) (hr : ReadsL w Da Aa la) (hl : la.length = na) (hs : Small la) (hla : la.length ≤ 100000) (hB : B ≤ w.heap.size) :
    Calls Try.prog 8 #[.slice Aa na ca, v, .agg #[.int .i64 kind, .int .i64 nn, .int .i64 most, .int .u64 (hi val), .int .u64 (lo val), .slice sA sn sc]] w (WriteRet B la w) := by
  have hx2 : (xs.take (min sn 40)).length = min sn 40 := by rw [List.length_take]; omega
  have hx3 : ReadsL w sD sA (xs.take (min sn 40)) := hxr.take _
  have hx4 : Small (xs.take (min sn 40)) := hxs.take _
  have hx5 : xs.take (min sn 40) ≠ [] → sD < B := fun h => hxD (fun e => h (by rw [e]; simp))
  by_cases h0 : kind.tmod 6 = 0
  · by_cases hm : most < 1 ∨ 4 < most
    · exact write_0b B la Aa Da na ca v w kind nn most val sA sn sc (min sn 40) rfl hsc h0 hm hO hr hl hs hla hB
    · obtain ⟨j, rfl⟩ := Int.eq_ofNat_of_zero_le (a := most) (by omega)
      exact write_0 B la Aa Da na ca v w kind nn val sA sn sc (min sn 40) rfl hsc h0 j (by omega) (by omega) hn.1 hn.2 hO hr hl hs hla hB
  · by_cases h1 : kind.tmod 6 = 1
    · exact write_1 B la Aa Da na ca v w kind nn most val sA sn sc (min sn 40) rfl hsc h1 (1 + most % 4).toNat (by omega) (by omega) (by omega) hn.1 hn.2 hO hr hl hs hla hB
    · by_cases h2 : kind.tmod 6 = 2
      · exact write_2 B la Aa Da na ca v w kind nn most val sA sn sc (min sn 40) rfl hsc h2 _ rfl hO hr hl hs hla hB
      · by_cases h3 : kind.tmod 6 = 3
        · exact write_3 B la Aa Da na ca v w kind nn most val sA sn sc (min sn 40) rfl hsc h3 sD _ hx2 hx3 hx4 hx5 hO hr hl hs hla hB
        · by_cases h4 : kind.tmod 6 = 4
          · exact write_4 B la Aa Da na ca v w kind nn most val sA sn sc (min sn 40) rfl hsc h4 sD _ hx2 hx3 hx4 hx5 hO hr hl hs hla hB
          · exact write_5 B la Aa Da na ca v w kind nn most val sA sn sc (min sn 40) rfl hsc (beq_ne h0) (beq_ne h1) (beq_ne h2) (beq_ne h3) (beq_ne h4) hv hO hr hl hs hla hB
theorem own_nil (w : World) (B : Nat) : Own w B (.slice none 0 0) [] := World.ownsRow_nil _ _ _ _
/-- What the two slices hold behind the q-th element. -/
def WritesAt (w : World) (q : Nat) (va vb : Value) (W : World) : Prop :=
  ∃ la A n cap g, va = .slice A n cap ∧ Hid (n = la.length) ∧ ReadsL W g A la ∧ Own W w.heap.size vb la ∧ Below w.heap.size w W ∧ Small la ∧ la.length ≤ 60 * q
set_option maxRecDepth 100000 in
set_option maxHeartbeats 4000000 in
theorem writes_any (a1 : Option Addr) (len1 cap1 : Nat) (f : Nat → OpR) (w : World) (hc1 : len1 ≤ cap1) (hf : OpsAt w a1 len1 f) :
    Calls Try.prog 3 #[.slice a1 len1 cap1] w fun e w' => e = .returned (.bool true) ∧ Below w.heap.size w w' := by
  obtain ⟨m, hm⟩ : ∃ m : Nat, m = min len1 20 := ⟨_, rfl⟩
  have hm20 : m ≤ 20 := by omega
  have hml : m ≤ len1 := by omega
  have e1 : min (len1 : Int) 20 = m := by omega
  have b1 : (m : Int) ≤ (cap1 : Int) := by omega
  have HF := Lib.hid hf
  clear hf hm
  go_enter Try.func3, Try.ntmps3
  go_wp2
  go_loopw [3, 4, 13] (fun va vb i w' => ∃ q : Nat, q ≤ m ∧ i = .int .i64 q ∧ WritesAt w q va vb w') (fun _ _ i _ => m - (intOf i).toNat)
  case atStart => exact ⟨0, by omega, rfl, [], none, 0, 0, 0, rfl, Lib.hid rfl, .inl rfl, own_nil _ _, Below.refl _ _, Small.nil, by simp⟩
  case round =>
    obtain ⟨q, hq, rfl, la, A, n, cap, g, rfl, hn, hr, hO, hb, hs, hla⟩ := hrel
    by_cases hqm : q < m
    · have hqm' : (q : Int) < (m : Int) := by omega
      obtain ⟨b, o, rfl, hops⟩ := HF.out.resolve_left (by omega)
      have hop0 := hops q (by omega)
      have hop := hop0.below hb
      have hD0 := hop0.dlt
      have hqz : 0 ≤ (q : Int) := by omega
      generalize f q = x at hop hD0
      obtain ⟨kind, nn, most, val, sA, sn, sc, sD, xs⟩ := x
      have d0 : wr.cell? ⟨b, o + q * 6, none⟩ = some (.int .i64 kind) := hop.c0
      have d1 : wr.cell? ⟨b, o + q * 6 + 1, none⟩ = some (.int .i64 nn) := hop.c1
      have d2 : wr.cell? ⟨b, o + q * 6 + 2, none⟩ = some (.int .i64 most) := hop.c2
      have d3 : wr.cell? ⟨b, o + q * 6 + 3, none⟩ = some (.int .u64 (hi val)) := hop.c3
      have d4 : wr.cell? ⟨b, o + q * 6 + 4, none⟩ = some (.int .u64 (lo val)) := hop.c4
      have d5 : wr.cell? ⟨b, o + q * 6 + 5, none⟩ = some (.slice sA sn sc) := hop.c5
      have hgw := grown_alloc wr (.cells #[.int .i64 kind, .int .i64 nn, .int .i64 most, .int .u64 (hi val), .int .u64 (lo val), .slice sA sn sc] 28) none
      have HW := Lib.hid (write_any w.heap.size la A g n cap _ (wr.alloc (.cells #[.int .i64 kind, .int .i64 nn, .int .i64 most, .int .u64 (hi val), .int .u64 (lo val), .slice sA sn sc] 28)) kind nn most val sA sn sc sD xs hop.v1 hop.n1 hop.le hop.len hop.small (hop.reads.kept hgw (by simp)) hD0
        (hO.alloc _) (hr.kept hgw (by simp)) hn.out.symm hs (by omega) (by have := hb.size; simp; omega))
      have HB := Lib.hid (hb.alloc hb.size (.cells #[.int .i64 kind, .int .i64 nn, .int .i64 most, .int .u64 (hi val), .int .u64 (lo val), .slice sA sn sc] 28))
      have HLA := Lib.hid hla
      clear hop hop0 hops hgw hO hr hb hs hla hD0
      go_wp2_with (go_at_call 8; (refine HW.out.mono ?_; rintro en w2 ⟨l2, A2, n2, cap2, g2, v2, rfl, hn2, hr2, hO2, hb2, hs2, hll, hne⟩; obtain ⟨A3, n3, cap3, g3, rfl, hn3, hr3, hge⟩ := own_slice hO2; have cva := conv_list cap2 hr2 hn2.out.symm; have cvb := conv_list cap3 hr3 hn3.out.symm))
      go_roundw
      case rel => exact ⟨q + 1, by omega, by simp, l2, A2, n2, cap2, g2, rfl, hn2, hr2, hO2, HB.out.trans hb2, hs2, by have := HLA.out; omega⟩
      case measure => simp [intOf]; omega
    · obtain rfl : q = m := by omega
      have HB := Lib.hid hb
      clear hb hO hr
      go_wp2_with (go_at_call 9; (refine (wbegun_any _).mono ?_; rintro en wz ⟨rfl, bz⟩))
      go_ret
      exact ⟨rfl, HB.out.trans (bz.mono HB.out.size)⟩
end Go.Proofs.Ythfimcbjbkbcjaa
