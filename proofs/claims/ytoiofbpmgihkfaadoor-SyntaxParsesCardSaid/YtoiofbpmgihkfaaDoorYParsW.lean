/- SyntaxParses, its walk. -/
import Derived.Test.YtoiofbpmgihkfaaDoorJYLaw
import Derived.Test.YtoiofbpmgihkfaaDoorYSen
import Derived.Test.YtoiofbpmgihkfaaDoorLScansW
namespace Go.Proofs.YtoiofbpmgihkfaaDoor
open Go.RowKit

/-- seven texts in memory -/
def Sev7 (w : World) (B : Nat) (Sx : Nat → ByteArray) : Prop := B < w.heap.size ∧ ∀ j, j < 7 → w.cell? ⟨B, j, none⟩ = some (.string (Sx j))
theorem Sev7.call {w w' : World} {B : Nat} {Sx : Nat → ByteArray} (h : Sev7 w B Sx) (hb : Below w.heap.size w w') : Sev7 w' B Sx := ⟨Nat.lt_of_lt_of_le h.1 hb.size, fun j hj => by rw [hb.cell (p := ⟨B, j, none⟩) h.1]; exact h.2 j hj⟩
def RetNw (W : World) (e : Ending) (w' : World) : Prop := ∃ D l, e = .returned (.pointer (some ⟨W.heap.size, 0, none⟩)) ∧ Below W.heap.size W w' ∧ CoAt W.heap.size D l 0 w'
theorem readsL_below {w w' : World} {D : Nat} {A : Option Addr} {l : List Nat} (h : ReadsL w D A l) (hb : Below w.heap.size w w') : ReadsL w' D A l := by
  rcases h with h | ⟨o, h1, h2⟩
  · exact .inl h
  · refine .inr ⟨o, h1, Nat.lt_of_lt_of_le h2.1 hb.size, fun i hi => ?_⟩
    rw [hb.cell (p := ⟨D, _, none⟩) h2.1]
    exact h2.2 i hi
theorem nw_lim (L : Nat) (hL : L ≤ 120) {w : World} {A : Option Addr} {D n cap : Nat} {l : List Nat} (hr : ReadsL w D A l) (hD : l ≠ [] → D < w.heap.size) (hl : l.length = n) (hn : n ≤ cap) (hcap : cap ≤ maxLen) (hs : Small l) (W : World) (hb : Below w.heap.size w W) :
    Calls Tryd.prog 11 #[.slice A n cap, .int .i64 (L : Int)] W (RetNw W) :=
  (conew_lim L hL A D n cap l W (readsL_below hr hb) (fun e => Nat.lt_of_lt_of_le (hD e) hb.size) hl hn hcap hs).mono fun _ _ ⟨h1, h2, _, h4⟩ => ⟨D, l.take L, h1, h2, h4⟩
set_option maxRecDepth 100000 in
set_option maxHeartbeats 8000000 in
theorem lpars_any (w : World) (s : ByteArray) (A : Option Addr) (D n cap : Nat) (l : List Nat) (at_ : Int) (by_ : Nat) (A2 : Option Addr) (D2 n2 cap2 : Nat) (l2 : List Nat) (hb : by_ < 256) (hr : ReadsL w D A l) (hD : l ≠ [] → D < w.heap.size) (hl : l.length = n) (hn : n ≤ cap) (hcap : cap ≤ maxLen) (hs : Small l)
    (hr2 : ReadsL w D2 A2 l2) (hD2 : l2 ≠ [] → D2 < w.heap.size) (hl2 : l2.length = n2) (hn2 : n2 ≤ cap2) (hcap2 : cap2 ≤ maxLen) (hs2 : Small l2) (hy : Syms w) (hy2 : SymY w) :
    Calls Tryd.prog 7 #[.string s, .slice A n cap, .int .i64 at_, .int .u8 by_, .slice A2 n2 cap2] w (RetX (.bool true) w) := by
  obtain ⟨m, hm⟩ : ∃ m : Nat, m = min s.size 100 := ⟨_, rfl⟩
  have hmin : min (s.size : Int) 100 = (m : Int) := by omega
  have hm1 : (m : Int) ≤ (s.size : Int) := by omega
  obtain ⟨s1, hs1⟩ : ∃ x, s.extract 0 m = x := ⟨_, rfl⟩
  have hs1s : s1.size ≤ 100 := by rw [← hs1, ByteArray.size_extract]; omega
  have KN := Lib.hid (conew_lim 60 (by decide) A D n cap l w hr hD hl hn hcap hs)
  have KN4 : Hid (∀ W, Below w.heap.size w W → Calls Tryd.prog 11 #[.slice A2 n2 cap2, .int .i64 4] W (RetNw W)) := Lib.hid fun W hW => nw_lim 4 (by decide) hr2 hD2 hl2 hn2 hcap2 hs2 W hW
  have KN30 : Hid (∀ W, Below w.heap.size w W → Calls Tryd.prog 11 #[.slice A2 n2 cap2, .int .i64 30] W (RetNw W)) := Lib.hid fun W hW => nw_lim 30 (by decide) hr2 hD2 hl2 hn2 hcap2 hs2 W hW
  have HY := Lib.hid hy
  have HY2 := Lib.hid hy2
  have hlt1 : 1 < w.heap.size := hy2.lt
  have HBY := Lib.hid hb
  have HS1 := Lib.hid hs1s
  clear hr hD hl hn hcap hs hy hy2 hm hb hs1s hr2 hD2 hl2 hn2 hcap2 hs2
  go_enter Tryd.func7, Tryd.ntmps7
  go_wp2_with fail
  go_at_call 11
  refine KN.out.mono ?_
  rintro e w1 ⟨rfl, hb1, hlt2, hc1⟩
  have HB1 := Lib.hid hb1
  have HC1 := Lib.hid hc1
  clear hb1 hc1 KN
  go_wp2_with fail
  go_at_call 19
  refine (cs_sentence (B := w.heap.size) (K := w.heap.size) (Nat.le_refl _) false 5 (by decide) _ w1 HC1.out).mono ?_
  rintro e w2 ⟨p, hp, rfl, hb2, _, _⟩
  have HB2 := Lib.hid (HB1.out.trans hb2)
  have HP : Hid (p.size ≤ 60000) := Lib.hid (Nat.le_trans hp (sB_le 5 (by decide)))
  clear hb2 hp HC1 HB1 hlt2
  try rw [hs1]
  clear hs1 hmin hm1
  have h2 := HB2.out.size
  obtain ⟨x, hx⟩ : ∃ x, x = p.size := ⟨_, rfl⟩
  obtain ⟨cp, W3, hcv, hcel, hfro, hbW, hltW, hcp⟩ := cv_sb w2 p
  rw [← hx] at hcv hcel hfro hcp
  have HX := Lib.hid hx
  have HBW := Lib.hid hbW
  have HCEL := Lib.hid hcel
  have HFRO := Lib.hid hfro
  clear hbW hcel hfro hx
  by_cases hx0 : 0 < x
  · have hx0I : (0 : Int) < (x : Int) := by omega
    have hx320 : x ≤ 60000 := by have := HX.out; have := HP.out; omega
    go_upto_region 5 with fail
    go_wp2_with fail
    go_at_call 13
    refine (cs_modN at_ x (by omega) (by omega) _).mono ?_
    rintro e w4 ⟨r, hrx, rfl, rfl⟩
    have hrI : (r : Int) < (x : Int) := by omega
    have hcj := HCEL.out r hrx
    have hfj := HFRO.out r hrx
    obtain ⟨b, hbb⟩ : ∃ b, b = bt p r := ⟨_, rfl⟩
    rw [← hbb] at hcj
    have hb256 : b < 256 := by rw [hbb]; exact bt_lt _ _
    obtain ⟨y, hyy⟩ : ∃ y, y = b ^^^ by_ := ⟨_, rfl⟩
    have hxor : bits .xor .u8 (b : Int) (by_ : Int) = (y : Int) := by rw [hyy]; exact u8_xor_nat b by_ hb256 HBY.out
    have hy256 : y < 256 := by rw [hyy]; exact Nat.xor_lt_two_pow (n := 8) hb256 HBY.out
    clear hbb hyy hcv
    go_upto_region 7 with fail
    have b5 : Below w.heap.size w (W3.setCell ⟨w2.heap.size, r, none⟩ (.int .u8 (y : Int))) := (HB2.out.trans (HBW.out.mono h2)).setCell (by simp; omega) _
    have r5 : ReadsB (W3.setCell ⟨w2.heap.size, r, none⟩ (.int .u8 (y : Int))) (some ⟨w2.heap.size, 0, none⟩) x (fun i => if i = r then y else bt p i) := by
      refine .inr ⟨w2.heap.size, 0, rfl, by rw [World.size_setCell]; exact hltW, fun i hi2 => ?_, fun i _ => ?_⟩
      · rw [Nat.zero_add]
        by_cases e : i = r
        · subst e
          dsimp only
          rw [if_pos rfl, World.cell?_setCell_same' _ _ _ (by rw [hcj]; rfl)]
        · dsimp only
          rw [if_neg e, World.cell?_setCell_other _ _ _ _ (by intro h; injection h with _ h2 _; exact e h2.symm)]
          exact HCEL.out i hi2
      · show (if i = r then y else bt p i) < 256
        split
        · exact hy256
        · exact bt_lt _ _
    obtain ⟨q, hq⟩ : ∃ q, q = strG x (fun i => if i = r then y else bt p i) := ⟨_, rfl⟩
    have hqs : q.size = x := by rw [hq]; unfold strG; rw [pr_len]; simp
    have KCV : Hid (∀ W, Below (W3.setCell ⟨w2.heap.size, r, none⟩ (.int .u8 (y : Int))).heap.size (W3.setCell ⟨w2.heap.size, r, none⟩ (.int .u8 (y : Int))) W → (convert 22 9 (.slice (some ⟨w2.heap.size, 0, none⟩) x cp)).run Tryd.prog W = .ok (.string q) W) := Lib.hid fun W hW => by
      have h := conv_reads (cap := cp) (r5.below hW) (by omega)
      rw [← hq] at h
      exact h
    have HB5 := Lib.hid b5
    have HQ := Lib.hid (show q.size ≤ 60000 by omega)
    clear hq hqs r5 b5 hcj hfj hxor hy256 hb256 hrx hrI
    generalize W3.setCell ⟨w2.heap.size, r, none⟩ (.int .u8 (y : Int)) = W5 at KCV HB5 ⊢
    have KM : Hid (Calls Tryd.prog 13 #[.int .i64 at_, .int .i64 ((p.size : Int) + 1)] W5 (fun e w' => ∃ r : Nat, r < p.size + 1 ∧ e = .returned (.int .i64 (r : Nat)) ∧ W5 = w')) := Lib.hid (by
      have h := cs_modN at_ (p.size + 1) (by omega) (by have := HP.out; omega) W5
      rw [Int.natCast_add] at h
      exact h)
    have hwp : IntKind.i64.wrap ((p.size : Int) + 1) = (p.size : Int) + 1 := IntWalk.i64_in _ (by have := HP.out; omega)
    go_wp2_with fail
    go_at_call 13
    refine KM.out.mono ?_
    rintro e w6 ⟨k, hk, rfl, rfl⟩
    have hkI : (k : Int) ≤ (p.size : Int) := by omega
    have hkN : k ≤ p.size := by omega
    clear KM hwp
    go_upto_region 8 with (fail)
    obtain ⟨pa, hpa⟩ : ∃ x, p.extract 0 k = x := ⟨_, rfl⟩
    obtain ⟨pb, hpb⟩ : ∃ x, p.extract k p.size = x := ⟨_, rfl⟩
    have hpas : pa.size ≤ 60000 := by have := HP.out; rw [← hpa, ByteArray.size_extract]; omega
    have hpbs : pb.size ≤ 60000 := by have := HP.out; rw [← hpb, ByteArray.size_extract]; omega
    have kc0 := KCV.out W5.drew (Below.refl _ W5).drew
    have hW5 := HB5.out.size
    clear hk
    go_region_with (first
      | (go_at_call 11; (first
        | ((with_reducible refine (KN4.out W5.drew HB5.out.drew).mono ?_); (rintro e w64 ⟨D64, l64, rfl, hb64, hc64⟩; have HC64 : Hid (CoAt W5.heap.size D64 l64 0 w64) := Lib.hid hc64; have HG64 : Hid (Below W5.heap.size W5 w64) := Lib.hid ((Below.refl W5.heap.size W5).drew.trans hb64); have kc64 := KCV.out _ HG64.out; clear hb64 hc64))
        | ((with_reducible refine (KN30.out w65 HBW65.out).mono ?_); (rintro e w72 ⟨D72, l72, rfl, hb72, hc72⟩; have HC72 := Lib.hid hc72; have HG72 : Hid (Below W5.heap.size W5 w72) := Lib.hid (HG65.out.trans (hb72.mono hz65)); have kc72 := KCV.out _ HG72.out; clear hb72 hc72))))
      | (go_at_call 12; (first
        | ((with_reducible refine (cs_pieces w64 W5.heap.size (Nat.le_refl _) HC64.out).mono ?_); (rintro e w65 ⟨s65, hs65, rfl, hb65⟩; have HS65 := Lib.hid hs65; have HG65 : Hid (Below W5.heap.size W5 w65) := Lib.hid (HG64.out.trans hb65); have hz65 : W5.heap.size ≤ w65.heap.size := HG65.out.size; have HBW65 : Hid (Below w.heap.size w w65) := Lib.hid (HB5.out.trans (HG65.out.mono hW5)); have kc65 := KCV.out _ HG65.out; have kat1 : ¬ 9223372036854775807 < pa.size + s65.size := (by have := HS65.out; omega); have kat2 : ¬ 9223372036854775807 < pa.size + s65.size + pb.size := (by have := HS65.out; omega); clear hb65 hs65))
        | ((with_reducible refine (cs_pieces w72 W5.heap.size hz65 HC72.out).mono ?_); (rintro e w73 ⟨s73, hs73, rfl, hb73⟩; have HS73 := Lib.hid hs73; have HG73 : Hid (Below W5.heap.size W5 w73) := Lib.hid (HG72.out.trans hb73); have kc73 := KCV.out _ HG73.out; clear hb73 hs73)))))
    all_goals
      simp only [Exit.then]
      apply_assumption
      have HB7 : Hid (Below w.heap.size w w73) := Lib.hid (HB5.out.trans (HG73.out.mono hW5))
      have h7 := HB7.out.size
      obtain ⟨pc, hpc⟩ : ∃ x, (pa ++ s65) ++ pb = x := ⟨_, rfl⟩
      have hpcs : pc.size ≤ 200000 := by rw [← hpc, ByteArray.size_append, ByteArray.size_append]; have := HS65.out; omega
      obtain ⟨Sx, hSx⟩ : ∃ Sx : Nat → ByteArray, Sx = fun j => ([s1, p, q, pa, pb, pc, s73] : List ByteArray).getD j ⟨#[]⟩ := ⟨_, rfl⟩
      have HSZ : Hid (∀ j, (Sx j).size < 9223372036854775807) := Lib.hid fun j => by
        have e1 := HS1.out
        have e2 := HP.out
        have e3 := HQ.out
        have e4 := HS73.out
        have hall : ∀ t ∈ ([s1, p, q, pa, pb, pc, s73] : List ByteArray), t.size < 9223372036854775807 := by
          intro t ht
          simp only [List.mem_cons, List.not_mem_nil, or_false] at ht
          rcases ht with rfl | rfl | rfl | rfl | rfl | rfl | rfl <;> omega
        rw [hSx]
        dsimp only
        rw [List.getD_eq_getElem?_getD]
        cases h : ([s1, p, q, pa, pb, pc, s73] : List ByteArray)[j]? with
        | none => decide
        | some t => exact hall t (List.mem_of_getElem? h)
      have h7s : Sev7 (w73.alloc (.cells #[.string s1, .string p, .string q, .string pa, .string pb, .string pc, .string s73] 9)) w73.heap.size Sx := by
        refine ⟨by simp, fun j hj => ?_⟩
        have hj7 : j = 0 ∨ j = 1 ∨ j = 2 ∨ j = 3 ∨ j = 4 ∨ j = 5 ∨ j = 6 := by omega
        rw [hSx, World.cell?_alloc_new]
        rcases hj7 with rfl | rfl | rfl | rfl | rfl | rfl | rfl <;> rfl
      have HN9 := Lib.hid h7s
      have HB9 := Lib.hid (HB7.out.alloc h7 (.cells #[.string s1, .string p, .string q, .string pa, .string pb, .string pc, .string s73] 9))
      first | rw [hpc] | skip
      clear h7s hSx kc0 kc64 kc65 kc72 kc73 kat1 kat2 hpa hpb hpc
      generalize w73.heap.size = B9 at HN9 ⊢
      generalize w73.alloc (.cells #[.string s1, .string p, .string q, .string pa, .string pb, .string pc, .string s73] 9) = W9 at HN9 HB9 ⊢
      simp only [List.getElem_toArray, List.getElem_cons_succ, List.getElem_cons_zero]
      go_wp2_with fail
      try simp only [Act.put, List.setIfInBounds_toArray, List.set_cons_succ, List.set_cons_zero]
      go_loopw [76, 16, 17, 18, 19, 20] (fun i _ _ _ _ _ w' => ∃ k : Nat, k ≤ 7 ∧ i = .int .i64 k ∧ Below w.heap.size w w' ∧ Sev7 w' B9 Sx) (fun i _ _ _ _ _ _ => 7 - (intOf i).toNat)
      case atStart => exact ⟨0, by omega, rfl, HB9.out, HN9.out⟩
      case round =>
        clear HN9 HB9
        obtain ⟨k, hk, rfl, hB, hN⟩ := hrel
        have HBk := Lib.hid hB
        have HNk := Lib.hid hN
        have hsz := hB.size
        have HYa := Lib.hid (HY.out.below hB HY.out.lt)
        have HYb := Lib.hid (HY2.out.below hB hlt1)
        clear hB hN
        by_cases hk4 : k < 7
        · have hkI : (k : Int) < 7 := by omega
          obtain ⟨t, ht⟩ : ∃ t, t = Sx k := ⟨_, rfl⟩
          have hcell : wr.cell? ⟨B9, k, none⟩ = some (.string t) := by rw [ht]; exact HNk.out.2 k hk4
          have hts : t.size < 9223372036854775807 := by rw [ht]; exact HSZ.out k
          have KT := Lib.hid (ly_parsed t hts wr HYa.out HYb.out)
          clear ht
          go_wp2_with fail
          go_at_call 20
          refine KT.out.mono ?_
          rintro e w3 ⟨A3, c3, A4, c4, rfl, _, _, _, _, hb3⟩
          have HB3 := Lib.hid (HBk.out.trans (hb3.mono hsz))
          have HN3 := Lib.hid (HNk.out.call hb3)
          clear hb3
          go_wp2_with fail
          go_roundw
          case rel => (go_light; exact ⟨k + 1, by omega, by simp, HB3.out, HN3.out⟩)
          case measure => simp [intOf]; omega
        · have hkI : ¬ (k : Int) < 7 := by omega
          go_wp2_with fail
          go_at_call 21
          refine (ly_begun _ HYa.out HYb.out).mono ?_
          rintro e w5 ⟨rfl, hb5⟩
          have HBF := Lib.hid (HBk.out.trans (hb5.mono hsz))
          clear hb5
          go_wp2_with fail
          go_ret
          exact ⟨by first | rfl | simp, HBF.out⟩
  · have hx0I : ¬ (0 : Int) < (x : Int) := by omega
    obtain rfl : x = 0 := by omega
    go_upto_region 7 with fail
    have HB5 := Lib.hid (HB2.out.trans (HBW.out.mono h2))
    obtain ⟨q, hq⟩ : ∃ q, q = strN [] := ⟨_, rfl⟩
    have HQ : Hid (q.size ≤ 60000) := Lib.hid (by rw [hq]; decide)
    have KCV : Hid (∀ W, Below W3.heap.size W3 W → (convert 22 9 (.slice (some ⟨w2.heap.size, 0, none⟩) 0 cp)).run Tryd.prog W = .ok (.string q) W) := Lib.hid fun W _ => by rw [hq]; exact cv_zero W _ _
    clear hcv hq
    obtain ⟨W5, hW55⟩ : ∃ W, W = W3 := ⟨_, rfl⟩
    rw [← hW55] at HB5 KCV ⊢
    clear hW55
    have KM : Hid (Calls Tryd.prog 13 #[.int .i64 at_, .int .i64 ((p.size : Int) + 1)] W5 (fun e w' => ∃ r : Nat, r < p.size + 1 ∧ e = .returned (.int .i64 (r : Nat)) ∧ W5 = w')) := Lib.hid (by
      have h := cs_modN at_ (p.size + 1) (by omega) (by have := HP.out; omega) W5
      rw [Int.natCast_add] at h
      exact h)
    have hwp : IntKind.i64.wrap ((p.size : Int) + 1) = (p.size : Int) + 1 := IntWalk.i64_in _ (by have := HP.out; omega)
    go_wp2_with fail
    go_at_call 13
    refine KM.out.mono ?_
    rintro e w6 ⟨k, hk, rfl, rfl⟩
    have hkI : (k : Int) ≤ (p.size : Int) := by omega
    have hkN : k ≤ p.size := by omega
    clear KM hwp
    go_upto_region 8 with (fail)
    obtain ⟨pa, hpa⟩ : ∃ x, p.extract 0 k = x := ⟨_, rfl⟩
    obtain ⟨pb, hpb⟩ : ∃ x, p.extract k p.size = x := ⟨_, rfl⟩
    have hpas : pa.size ≤ 60000 := by have := HP.out; rw [← hpa, ByteArray.size_extract]; omega
    have hpbs : pb.size ≤ 60000 := by have := HP.out; rw [← hpb, ByteArray.size_extract]; omega
    have kc0 := KCV.out W5.drew (Below.refl _ W5).drew
    have hW5 := HB5.out.size
    clear hk
    go_region_with (first
      | (go_at_call 11; (first
        | ((with_reducible refine (KN4.out W5.drew HB5.out.drew).mono ?_); (rintro e w64 ⟨D64, l64, rfl, hb64, hc64⟩; have HC64 : Hid (CoAt W5.heap.size D64 l64 0 w64) := Lib.hid hc64; have HG64 : Hid (Below W5.heap.size W5 w64) := Lib.hid ((Below.refl W5.heap.size W5).drew.trans hb64); have kc64 := KCV.out _ HG64.out; clear hb64 hc64))
        | ((with_reducible refine (KN30.out w65 HBW65.out).mono ?_); (rintro e w72 ⟨D72, l72, rfl, hb72, hc72⟩; have HC72 := Lib.hid hc72; have HG72 : Hid (Below W5.heap.size W5 w72) := Lib.hid (HG65.out.trans (hb72.mono hz65)); have kc72 := KCV.out _ HG72.out; clear hb72 hc72))))
      | (go_at_call 12; (first
        | ((with_reducible refine (cs_pieces w64 W5.heap.size (Nat.le_refl _) HC64.out).mono ?_); (rintro e w65 ⟨s65, hs65, rfl, hb65⟩; have HS65 := Lib.hid hs65; have HG65 : Hid (Below W5.heap.size W5 w65) := Lib.hid (HG64.out.trans hb65); have hz65 : W5.heap.size ≤ w65.heap.size := HG65.out.size; have HBW65 : Hid (Below w.heap.size w w65) := Lib.hid (HB5.out.trans (HG65.out.mono hW5)); have kc65 := KCV.out _ HG65.out; have kat1 : ¬ 9223372036854775807 < pa.size + s65.size := (by have := HS65.out; omega); have kat2 : ¬ 9223372036854775807 < pa.size + s65.size + pb.size := (by have := HS65.out; omega); clear hb65 hs65))
        | ((with_reducible refine (cs_pieces w72 W5.heap.size hz65 HC72.out).mono ?_); (rintro e w73 ⟨s73, hs73, rfl, hb73⟩; have HS73 := Lib.hid hs73; have HG73 : Hid (Below W5.heap.size W5 w73) := Lib.hid (HG72.out.trans hb73); have kc73 := KCV.out _ HG73.out; clear hb73 hs73)))))
    all_goals
      simp only [Exit.then]
      apply_assumption
      have HB7 : Hid (Below w.heap.size w w73) := Lib.hid (HB5.out.trans (HG73.out.mono hW5))
      have h7 := HB7.out.size
      obtain ⟨pc, hpc⟩ : ∃ x, (pa ++ s65) ++ pb = x := ⟨_, rfl⟩
      have hpcs : pc.size ≤ 200000 := by rw [← hpc, ByteArray.size_append, ByteArray.size_append]; have := HS65.out; omega
      obtain ⟨Sx, hSx⟩ : ∃ Sx : Nat → ByteArray, Sx = fun j => ([s1, p, q, pa, pb, pc, s73] : List ByteArray).getD j ⟨#[]⟩ := ⟨_, rfl⟩
      have HSZ : Hid (∀ j, (Sx j).size < 9223372036854775807) := Lib.hid fun j => by
        have e1 := HS1.out
        have e2 := HP.out
        have e3 := HQ.out
        have e4 := HS73.out
        have hall : ∀ t ∈ ([s1, p, q, pa, pb, pc, s73] : List ByteArray), t.size < 9223372036854775807 := by
          intro t ht
          simp only [List.mem_cons, List.not_mem_nil, or_false] at ht
          rcases ht with rfl | rfl | rfl | rfl | rfl | rfl | rfl <;> omega
        rw [hSx]
        dsimp only
        rw [List.getD_eq_getElem?_getD]
        cases h : ([s1, p, q, pa, pb, pc, s73] : List ByteArray)[j]? with
        | none => decide
        | some t => exact hall t (List.mem_of_getElem? h)
      have h7s : Sev7 (w73.alloc (.cells #[.string s1, .string p, .string q, .string pa, .string pb, .string pc, .string s73] 9)) w73.heap.size Sx := by
        refine ⟨by simp, fun j hj => ?_⟩
        have hj7 : j = 0 ∨ j = 1 ∨ j = 2 ∨ j = 3 ∨ j = 4 ∨ j = 5 ∨ j = 6 := by omega
        rw [hSx, World.cell?_alloc_new]
        rcases hj7 with rfl | rfl | rfl | rfl | rfl | rfl | rfl <;> rfl
      have HN9 := Lib.hid h7s
      have HB9 := Lib.hid (HB7.out.alloc h7 (.cells #[.string s1, .string p, .string q, .string pa, .string pb, .string pc, .string s73] 9))
      first | rw [hpc] | skip
      clear h7s hSx kc0 kc64 kc65 kc72 kc73 kat1 kat2 hpa hpb hpc
      generalize w73.heap.size = B9 at HN9 ⊢
      generalize w73.alloc (.cells #[.string s1, .string p, .string q, .string pa, .string pb, .string pc, .string s73] 9) = W9 at HN9 HB9 ⊢
      simp only [List.getElem_toArray, List.getElem_cons_succ, List.getElem_cons_zero]
      go_wp2_with fail
      try simp only [Act.put, List.setIfInBounds_toArray, List.set_cons_succ, List.set_cons_zero]
      go_loopw [76, 16, 17, 18, 19, 20] (fun i _ _ _ _ _ w' => ∃ k : Nat, k ≤ 7 ∧ i = .int .i64 k ∧ Below w.heap.size w w' ∧ Sev7 w' B9 Sx) (fun i _ _ _ _ _ _ => 7 - (intOf i).toNat)
      case atStart => exact ⟨0, by omega, rfl, HB9.out, HN9.out⟩
      case round =>
        clear HN9 HB9
        obtain ⟨k, hk, rfl, hB, hN⟩ := hrel
        have HBk := Lib.hid hB
        have HNk := Lib.hid hN
        have hsz := hB.size
        have HYa := Lib.hid (HY.out.below hB HY.out.lt)
        have HYb := Lib.hid (HY2.out.below hB hlt1)
        clear hB hN
        by_cases hk4 : k < 7
        · have hkI : (k : Int) < 7 := by omega
          obtain ⟨t, ht⟩ : ∃ t, t = Sx k := ⟨_, rfl⟩
          have hcell : wr.cell? ⟨B9, k, none⟩ = some (.string t) := by rw [ht]; exact HNk.out.2 k hk4
          have hts : t.size < 9223372036854775807 := by rw [ht]; exact HSZ.out k
          have KT := Lib.hid (ly_parsed t hts wr HYa.out HYb.out)
          clear ht
          go_wp2_with fail
          go_at_call 20
          refine KT.out.mono ?_
          rintro e w3 ⟨A3, c3, A4, c4, rfl, _, _, _, _, hb3⟩
          have HB3 := Lib.hid (HBk.out.trans (hb3.mono hsz))
          have HN3 := Lib.hid (HNk.out.call hb3)
          clear hb3
          go_wp2_with fail
          go_roundw
          case rel => (go_light; exact ⟨k + 1, by omega, by simp, HB3.out, HN3.out⟩)
          case measure => simp [intOf]; omega
        · have hkI : ¬ (k : Int) < 7 := by omega
          go_wp2_with fail
          go_at_call 21
          refine (ly_begun _ HYa.out HYb.out).mono ?_
          rintro e w5 ⟨rfl, hb5⟩
          have HBF := Lib.hid (HBk.out.trans (hb5.mono hsz))
          clear hb5
          go_wp2_with fail
          go_ret
          exact ⟨by first | rfl | simp, HBF.out⟩
end Go.Proofs.YtoiofbpmgihkfaaDoor
