/- LexerScans, its walk. -/
import Derived.Test.YtoiofbpmgihkfaaDoorLSame
import Derived.Lib.ConvBytes
namespace Go.Proofs.YtoiofbpmgihkfaaDoor
open Go.RowKit

/-- '[]byte(s)' of any text -/
theorem cv_sb (w : World) (s : ByteArray) : ∃ cap W, (convert 9 22 (.string s)).run Tryd.prog w = .ok (.slice (some ⟨w.heap.size, 0, none⟩) s.size cap) W ∧
    (∀ i, i < s.size → W.cell? ⟨w.heap.size, i, none⟩ = some (.int .u8 (bt s i : Nat))) ∧ (∀ i, i < s.size → W.frozen? ⟨w.heap.size, i, none⟩ = false) ∧ Below w.heap.size w W ∧ w.heap.size < W.heap.size ∧ s.size ≤ cap := by
  refine ⟨grownCap w s.size 0 5, Go.Lib.bytesWorld w 5 s, Go.Lib.run_convert_string_bytes w 9 22 5 s Tryd.underlying9 Tryd.underlying22 Tryd.underlying5, fun i hi => ?_, fun i hi => ?_, ?_, ?_, ?_⟩
  · rw [Go.Lib.bytesWorld_cell w _ _ i hi, ← bt_at s i hi]
    have : s.data.toList.getD i 0 = s[i]'hi := by
      rw [List.getD_eq_getElem?_getD, Array.getElem?_toList, Array.getElem?_eq_getElem hi]; rfl
    rw [this]
  · have h := Go.Lib.bytesWorld_at_new w 5 s
    have hsz : s.size ≤ (Go.Lib.bytesCells w 5 s).size := by unfold Go.Lib.bytesCells; rw [Array.size_append, Array.size_map]; exact Nat.le_add_right _ _
    unfold World.frozen?
    simp only [h]
    simp
    omega
  · exact ⟨rfl, rfl, rfl, by rw [Go.Lib.bytesWorld_size]; omega, fun k hk => Go.Lib.bytesWorld_at_old w _ _ k hk⟩
  · rw [Go.Lib.bytesWorld_size]; omega
  · exact grownCap_ge w s.size 0 5
theorem scanN_len (s : ByteArray) : ∀ (f a : Nat) (l : List Tok), l.length ≤ a → a ≤ s.size → (scanN s f a l).1.length ≤ s.size := by
  intro f
  induction f with
  | zero => intro a l h1 h2; show l.length ≤ _; omega
  | succ f ih =>
    intro a l h1 h2
    rw [scanN]
    split
    · rename_i hlt
      split
      · exact ih (a + 1) l (by omega) (by omega)
      · cases hn : nextTok s a with
        | none => simp
        | some t =>
          have hp : 1 ≤ t.text.size ∧ a + t.text.size ≤ s.size := by
            unfold nextTok at hn
            split at hn
            · rename_i hw
              split at hn
              · injection hn with hn
                subst hn
                have h := wrun_le s a (by omega)
                simp only
                rw [ext_size s a _ h]
                omega
              · cases hn
            · cases hy : symAt s a with
              | none => rw [hy] at hn; cases hn
              | some x =>
                rw [hy] at hn
                injection hn with hn
                subst hn
                have h := hy
                unfold symAt at h
                exact ⟨sym_pos x (List.mem_of_find?_eq_some h), (hp_ext s x a (by omega) (List.find?_some h)).1⟩
          exact ih (a + t.text.size) (l ++ [t]) (by rw [List.length_append]; simp; omega) hp.2
    · show l.length ≤ _; omega
theorem scan_len (s : ByteArray) : (scan s).1.length ≤ 400 := by
  unfold scan
  split
  · simp
  · have := scanN_len s s.size 0 [] (by simp) (by omega); omega
theorem cv_zero (w : World) (b cap : Nat) : (convert 22 9 (.slice (some ⟨b, 0, none⟩) 0 cap)).run Tryd.prog w = .ok (.string (strN [])) w := by
  rw [run_convert_bytes_string w 22 9 5 _ _ _ Tryd.underlying22 Tryd.underlying5 Tryd.underlying9]
  refine run_bytesToString w ⟨b, 0, none⟩ 0 cap [] ?_
  have e := run_loadCells_list (P := Tryd.prog) w ⟨b, 0, none⟩ ([] : List Value) (fun j u hu => by simp at hu)
  simpa using e
/-- four texts in memory -/
def Four4 (w : World) (B : Nat) (Sx : Nat → ByteArray) : Prop := B < w.heap.size ∧ ∀ j, j < 4 → w.cell? ⟨B, j, none⟩ = some (.string (Sx j))
theorem Four4.call {w w' : World} {B : Nat} {Sx : Nat → ByteArray} (h : Four4 w B Sx) (hb : Below w.heap.size w w') : Four4 w' B Sx := ⟨Nat.lt_of_lt_of_le h.1 hb.size, fun j hj => by rw [hb.cell (p := ⟨B, j, none⟩) h.1]; exact h.2 j hj⟩
set_option maxRecDepth 100000 in
set_option maxHeartbeats 8000000 in
theorem lscans_any (w : World) (s : ByteArray) (A : Option Addr) (D n cap : Nat) (l : List Nat) (at_ : Int) (by_ : Nat) (hb : by_ < 256) (hr : ReadsL w D A l) (hD : l ≠ [] → D < w.heap.size) (hl : l.length = n) (hn : n ≤ cap) (hcap : cap ≤ maxLen) (hs : Small l) (hy : Syms w) :
    Calls Tryd.prog 3 #[.string s, .slice A n cap, .int .i64 at_, .int .u8 by_] w (RetX (.bool true) w) := by
  obtain ⟨m, hm⟩ : ∃ m : Nat, m = min s.size 420 := ⟨_, rfl⟩
  have hmin : min (s.size : Int) 420 = (m : Int) := by omega
  have hm1 : (m : Int) ≤ (s.size : Int) := by omega
  obtain ⟨s1, hs1⟩ : ∃ x, s.extract 0 m = x := ⟨_, rfl⟩
  have hs1s : s1.size ≤ 420 := by rw [← hs1, ByteArray.size_extract]; omega
  have KN := Lib.hid (conew_lim 60 (by decide) A D n cap l w hr hD hl hn hcap hs)
  have HY := Lib.hid hy
  have HBY := Lib.hid hb
  have HS1 := Lib.hid hs1s
  clear hr hD hl hn hcap hs hy hm hb hs1s
  go_enter Tryd.func3, Tryd.ntmps3
  go_wp2_with fail
  go_at_call 11
  refine KN.out.mono ?_
  rintro e w1 ⟨rfl, hb1, hlt1, hc1⟩
  have HB1 := Lib.hid hb1
  have HC1 := Lib.hid hc1
  clear hb1 hc1 KN
  go_wp2_with fail
  go_at_call 12
  refine (cs_pieces w1 w.heap.size (Nat.le_refl _) HC1.out).mono ?_
  rintro e w2 ⟨p, hp, rfl, hb2⟩
  have HB2 := Lib.hid (HB1.out.trans hb2)
  have HP := Lib.hid hp
  clear hb2 hp HC1 HB1 hlt1
  try rw [hs1]
  clear hs1 hmin hm1
  have h2 := HB2.out.size
  obtain ⟨x, hx⟩ : ∃ x, x = p.size := ⟨_, rfl⟩
  obtain ⟨cp, W3, hcv, hcel, hfro, hbW, hltW, hcp⟩ := cv_sb w2 p
  rw [← hx] at hcv hcel hfro hcp
  have HX := Lib.hid hx
  have HBW := Lib.hid hbW
  have HCEL := Lib.hid hcel
  have HFRO := Lib.hid hfro
  clear hbW hcel hfro hx
  -- the bytes, one of them turned
  have hfin : ∀ (W : World) (q : ByteArray), q.size ≤ 320 → Below w.heap.size w W → True := fun _ _ _ _ => trivial
  clear hfin
  by_cases hx0 : 0 < x
  · have hx0I : (0 : Int) < (x : Int) := by omega
    have hx320 : x ≤ 320 := by have := HX.out; have := HP.out; omega
    go_upto_region 5 with fail
    go_wp2_with fail
    go_at_call 13
    refine (cs_modN at_ x (by omega) (by omega) _).mono ?_
    rintro e w4 ⟨r, hrx, rfl, rfl⟩
    have hrI : (r : Int) < (x : Int) := by omega
    have hcj := HCEL.out r hrx
    have hfj := HFRO.out r hrx
    obtain ⟨b, hbb⟩ : ∃ b, b = bt p r := ⟨_, rfl⟩
    rw [← hbb] at hcj
    have hb256 : b < 256 := by rw [hbb]; exact bt_lt _ _
    obtain ⟨y, hyy⟩ : ∃ y, y = b ^^^ by_ := ⟨_, rfl⟩
    have hxor : bits .xor .u8 (b : Int) (by_ : Int) = (y : Int) := by rw [hyy]; exact u8_xor_nat b by_ hb256 HBY.out
    have hy256 : y < 256 := by rw [hyy]; exact Nat.xor_lt_two_pow (n := 8) hb256 HBY.out
    clear hbb hyy hcv
    go_upto_region 6 with fail
    have b5 : Below w.heap.size w (W3.setCell ⟨w2.heap.size, r, none⟩ (.int .u8 (y : Int))) := (HB2.out.trans (HBW.out.mono h2)).setCell (by simp; omega) _
    have r5 : ReadsB (W3.setCell ⟨w2.heap.size, r, none⟩ (.int .u8 (y : Int))) (some ⟨w2.heap.size, 0, none⟩) x (fun i => if i = r then y else bt p i) := by
      refine .inr ⟨w2.heap.size, 0, rfl, by rw [World.size_setCell]; exact hltW, fun i hi2 => ?_, fun i _ => ?_⟩
      · rw [Nat.zero_add]
        by_cases e : i = r
        · subst e
          dsimp only
          rw [if_pos rfl, World.cell?_setCell_same' _ _ _ (by rw [hcj]; rfl)]
        · dsimp only
          rw [if_neg e, World.cell?_setCell_other _ _ _ _ (by intro h; injection h with _ h2 _; exact e h2.symm)]
          exact HCEL.out i hi2
      · show (if i = r then y else bt p i) < 256
        split
        · exact hy256
        · exact bt_lt _ _
    obtain ⟨q, hq⟩ : ∃ q, q = strG x (fun i => if i = r then y else bt p i) := ⟨_, rfl⟩
    have hqs : q.size = x := by rw [hq]; unfold strG; rw [pr_len]; simp
    have kc := conv_reads (cap := cp) r5 (by omega)
    rw [← hq] at kc
    have HB5 := Lib.hid b5
    have HQ := Lib.hid (show q.size ≤ 320 by omega)
    clear hq hqs r5 b5 hcj hfj hxor hy256 hb256 hrx hrI
    generalize W3.setCell ⟨w2.heap.size, r, none⟩ (.int .u8 (y : Int)) = W5 at kc HB5 ⊢
    have hcat : ¬ 9223372036854775807 < p.size + s1.size := by have := HP.out; have := HS1.out; omega
    have z5 := HB5.out.size
    obtain ⟨Sx, hSx⟩ : ∃ Sx : Nat → ByteArray, Sx = fun j => ([s1, p, q, p ++ s1] : List ByteArray).getD j ⟨#[]⟩ := ⟨_, rfl⟩
    have HSZ : Hid (∀ j, (Sx j).size < 9223372036854775807) := Lib.hid fun j => by
      have e1 := HS1.out
      have e2 := HP.out
      have e3 := HQ.out
      have hall : ∀ t ∈ ([s1, p, q, p ++ s1] : List ByteArray), t.size < 9223372036854775807 := by
        intro t ht
        simp only [List.mem_cons, List.not_mem_nil, or_false] at ht
        rcases ht with rfl | rfl | rfl | rfl
        · omega
        · omega
        · omega
        · rw [ByteArray.size_append]; omega
      rw [hSx]
      dsimp only
      rw [List.getD_eq_getElem?_getD]
      cases h : ([s1, p, q, p ++ s1] : List ByteArray)[j]? with
      | none => decide
      | some t => exact hall t (List.mem_of_getElem? h)
    have hfour : Four4 (W5.alloc (.cells #[.string s1, .string p, .string q, .string (p ++ s1)] 9)) W5.heap.size Sx := by
      refine ⟨by simp, fun j hj => ?_⟩
      have hj4 : j = 0 ∨ j = 1 ∨ j = 2 ∨ j = 3 := by omega
      rw [hSx, World.cell?_alloc_new]
      rcases hj4 with rfl | rfl | rfl | rfl <;> rfl
    have HN9 := Lib.hid hfour
    have HB9 := Lib.hid (HB5.out.alloc z5 (.cells #[.string s1, .string p, .string q, .string (p ++ s1)] 9))
    clear hfour hSx
    go_upto_region 7 with fail
    generalize W5.heap.size = B9 at HN9 ⊢
    generalize W5.alloc (.cells #[.string s1, .string p, .string q, .string (p ++ s1)] 9) = W9 at HN9 HB9 ⊢
    clear kc hcat z5
    go_loopw [51] (fun i w' => ∃ k : Nat, k ≤ 4 ∧ i = .int .i64 k ∧ Below w.heap.size w w' ∧ Four4 w' B9 Sx) (fun i _ => 4 - (intOf i).toNat)
    case atStart => exact ⟨0, by omega, rfl, HB9.out, HN9.out⟩
    case round =>
      clear HN9 HB9
      obtain ⟨k, hk, rfl, hB, hN⟩ := hrel
      have HBk := Lib.hid hB
      have HNk := Lib.hid hN
      have hsz := hB.size
      clear hB hN
      by_cases hk4 : k < 4
      · have hkI : (k : Int) < 4 := by omega
        obtain ⟨t, ht⟩ : ∃ t, t = Sx k := ⟨_, rfl⟩
        have hcell : wr.cell? ⟨B9, k, none⟩ = some (.string t) := by rw [ht]; exact HNk.out.2 k hk4
        have hts : t.size < 9223372036854775807 := by rw [ht]; exact HSZ.out k
        obtain ⟨R, hR⟩ : ∃ R, scan t = R := ⟨_, rfl⟩
        have hlen : R.1.length ≤ 400 := by rw [← hR]; exact scan_len t
        obtain ⟨⟨tl, ri, rc⟩, hRR⟩ : ∃ x : List Tok × Nat × Nat, R = x := ⟨_, rfl⟩
        subst hRR
        have hyr := HY.out.below HBk.out HY.out.lt
        have K1 := lx_scan t hts wr hyr
        rw [hR] at K1
        have K2 : Hid (∀ W, Calls Tryd.prog 15 #[.string t] W (RetRScan (tl, ri, rc) W)) := Lib.hid fun W => by have h := lr_scan t hts W; rw [hR] at h; exact h
        have KK1 := Lib.hid K1
        obtain ⟨nn, hnn⟩ : ∃ nn, tl.length = nn := ⟨_, rfl⟩
        have HNN := Lib.hid hnn
        have hnn4 : nn ≤ 400 := by rw [← hnn]; exact hlen
        clear K1 hR ht hyr hts hlen
        go_wp2_with fail
        go_at_call 14
        refine KK1.out.mono ?_
        rintro e w6 ⟨A6, c6, he, hO6, hb6⟩
        have he2 : e = .returned (.tuple #[.slice A6 nn c6, .int .i64 (ri : Nat), .int .i64 (rc : Nat)]) := by rw [← hnn]; exact he
        subst he2
        have T6 := Lib.hid (tokR_own hO6 rfl)
        have C6 := Lib.hid (show nn ≤ c6 by rw [← hnn]; exact own_le hO6)
        have HB6 := Lib.hid (HBk.out.trans (hb6.mono hsz))
        have HN6 := Lib.hid (HNk.out.call hb6)
        clear he hO6 hb6 hcell KK1
        go_wp2_with fail
        go_at_call 15
        refine (K2.out _).mono ?_
        rintro e w7 ⟨A7, c7, he, hO7, hb7⟩
        have he2 : e = .returned (.tuple #[.slice A7 nn c7, .int .i64 (ri : Nat), .int .i64 (rc : Nat)]) := by rw [← hnn]; exact he
        subst he2
        have T7 := Lib.hid (tokR_own hO7 rfl)
        have C7 := Lib.hid (show nn ≤ c7 by rw [← hnn]; exact own_le hO7)
        have T67 := Lib.hid (T6.out.below hb7)
        have HB7 := Lib.hid (HB6.out.trans (hb7.mono HB6.out.size))
        have HN7 := Lib.hid (HN6.out.call hb7)
        clear he hO7 hb7 hnn
        go_wp2_with (go_at_call 16; refine (lx_same _ tl nn A6 A7 c6 c7 HNN.out C6.out C7.out (by omega) T67.out T7.out).mono ?_; rintro e w8 ⟨rfl, hb8⟩; have HB8 := Lib.hid (HB7.out.trans (hb8.mono HB7.out.size)); have HN8 := Lib.hid (HN7.out.call hb8); clear hb8)
        go_roundw
        case rel => (go_light; exact ⟨k + 1, by omega, by simp, HB8.out, HN8.out⟩)
        case measure => simp [intOf]; omega
      · have hkI : ¬ (k : Int) < 4 := by omega
        have hyr := HY.out.below HBk.out HY.out.lt
        have HYR := Lib.hid hyr
        clear hyr
        go_wp2_with (go_at_call 17; refine (lx_begun _ HYR.out).mono ?_; rintro e w8 ⟨rfl, hb8⟩; have HB8 := Lib.hid (HBk.out.trans (hb8.mono hsz)); clear hb8)
        go_ret
        exact ⟨by first | rfl | simp, HB8.out⟩
  · have hx0I : ¬ (0 : Int) < (x : Int) := by omega
    obtain rfl : x = 0 := by omega
    have kc := cv_zero W3 w2.heap.size cp
    obtain ⟨q, hq⟩ : ∃ q, q = strN [] := ⟨_, rfl⟩
    have hqs : q.size = 0 := by rw [hq]; rfl
    rw [← hq] at kc
    have HB5 := Lib.hid (HB2.out.trans (HBW.out.mono h2))
    have HQ := Lib.hid (show q.size ≤ 320 by omega)
    clear hq hqs
    go_upto_region 6 with fail
    clear hcv HCEL HFRO HBW hltW
    generalize W3 = W5 at kc HB5 ⊢
    have hcat : ¬ 9223372036854775807 < p.size + s1.size := by have := HP.out; have := HS1.out; omega
    have z5 := HB5.out.size
    obtain ⟨Sx, hSx⟩ : ∃ Sx : Nat → ByteArray, Sx = fun j => ([s1, p, q, p ++ s1] : List ByteArray).getD j ⟨#[]⟩ := ⟨_, rfl⟩
    have HSZ : Hid (∀ j, (Sx j).size < 9223372036854775807) := Lib.hid fun j => by
      have e1 := HS1.out
      have e2 := HP.out
      have e3 := HQ.out
      have hall : ∀ t ∈ ([s1, p, q, p ++ s1] : List ByteArray), t.size < 9223372036854775807 := by
        intro t ht
        simp only [List.mem_cons, List.not_mem_nil, or_false] at ht
        rcases ht with rfl | rfl | rfl | rfl
        · omega
        · omega
        · omega
        · rw [ByteArray.size_append]; omega
      rw [hSx]
      dsimp only
      rw [List.getD_eq_getElem?_getD]
      cases h : ([s1, p, q, p ++ s1] : List ByteArray)[j]? with
      | none => decide
      | some t => exact hall t (List.mem_of_getElem? h)
    have hfour : Four4 (W5.alloc (.cells #[.string s1, .string p, .string q, .string (p ++ s1)] 9)) W5.heap.size Sx := by
      refine ⟨by simp, fun j hj => ?_⟩
      have hj4 : j = 0 ∨ j = 1 ∨ j = 2 ∨ j = 3 := by omega
      rw [hSx, World.cell?_alloc_new]
      rcases hj4 with rfl | rfl | rfl | rfl <;> rfl
    have HN9 := Lib.hid hfour
    have HB9 := Lib.hid (HB5.out.alloc z5 (.cells #[.string s1, .string p, .string q, .string (p ++ s1)] 9))
    clear hfour hSx
    go_upto_region 7 with fail
    generalize W5.heap.size = B9 at HN9 ⊢
    generalize W5.alloc (.cells #[.string s1, .string p, .string q, .string (p ++ s1)] 9) = W9 at HN9 HB9 ⊢
    clear kc hcat z5
    go_loopw [51] (fun i w' => ∃ k : Nat, k ≤ 4 ∧ i = .int .i64 k ∧ Below w.heap.size w w' ∧ Four4 w' B9 Sx) (fun i _ => 4 - (intOf i).toNat)
    case atStart => exact ⟨0, by omega, rfl, HB9.out, HN9.out⟩
    case round =>
      clear HN9 HB9
      obtain ⟨k, hk, rfl, hB, hN⟩ := hrel
      have HBk := Lib.hid hB
      have HNk := Lib.hid hN
      have hsz := hB.size
      clear hB hN
      by_cases hk4 : k < 4
      · have hkI : (k : Int) < 4 := by omega
        obtain ⟨t, ht⟩ : ∃ t, t = Sx k := ⟨_, rfl⟩
        have hcell : wr.cell? ⟨B9, k, none⟩ = some (.string t) := by rw [ht]; exact HNk.out.2 k hk4
        have hts : t.size < 9223372036854775807 := by rw [ht]; exact HSZ.out k
        obtain ⟨R, hR⟩ : ∃ R, scan t = R := ⟨_, rfl⟩
        have hlen : R.1.length ≤ 400 := by rw [← hR]; exact scan_len t
        obtain ⟨⟨tl, ri, rc⟩, hRR⟩ : ∃ x : List Tok × Nat × Nat, R = x := ⟨_, rfl⟩
        subst hRR
        have hyr := HY.out.below HBk.out HY.out.lt
        have K1 := lx_scan t hts wr hyr
        rw [hR] at K1
        have K2 : Hid (∀ W, Calls Tryd.prog 15 #[.string t] W (RetRScan (tl, ri, rc) W)) := Lib.hid fun W => by have h := lr_scan t hts W; rw [hR] at h; exact h
        have KK1 := Lib.hid K1
        obtain ⟨nn, hnn⟩ : ∃ nn, tl.length = nn := ⟨_, rfl⟩
        have HNN := Lib.hid hnn
        have hnn4 : nn ≤ 400 := by rw [← hnn]; exact hlen
        clear K1 hR ht hyr hts hlen
        go_wp2_with fail
        go_at_call 14
        refine KK1.out.mono ?_
        rintro e w6 ⟨A6, c6, he, hO6, hb6⟩
        have he2 : e = .returned (.tuple #[.slice A6 nn c6, .int .i64 (ri : Nat), .int .i64 (rc : Nat)]) := by rw [← hnn]; exact he
        subst he2
        have T6 := Lib.hid (tokR_own hO6 rfl)
        have C6 := Lib.hid (show nn ≤ c6 by rw [← hnn]; exact own_le hO6)
        have HB6 := Lib.hid (HBk.out.trans (hb6.mono hsz))
        have HN6 := Lib.hid (HNk.out.call hb6)
        clear he hO6 hb6 hcell KK1
        go_wp2_with fail
        go_at_call 15
        refine (K2.out _).mono ?_
        rintro e w7 ⟨A7, c7, he, hO7, hb7⟩
        have he2 : e = .returned (.tuple #[.slice A7 nn c7, .int .i64 (ri : Nat), .int .i64 (rc : Nat)]) := by rw [← hnn]; exact he
        subst he2
        have T7 := Lib.hid (tokR_own hO7 rfl)
        have C7 := Lib.hid (show nn ≤ c7 by rw [← hnn]; exact own_le hO7)
        have T67 := Lib.hid (T6.out.below hb7)
        have HB7 := Lib.hid (HB6.out.trans (hb7.mono HB6.out.size))
        have HN7 := Lib.hid (HN6.out.call hb7)
        clear he hO7 hb7 hnn
        go_wp2_with (go_at_call 16; refine (lx_same _ tl nn A6 A7 c6 c7 HNN.out C6.out C7.out (by omega) T67.out T7.out).mono ?_; rintro e w8 ⟨rfl, hb8⟩; have HB8 := Lib.hid (HB7.out.trans (hb8.mono HB7.out.size)); have HN8 := Lib.hid (HN7.out.call hb8); clear hb8)
        go_roundw
        case rel => (go_light; exact ⟨k + 1, by omega, by simp, HB8.out, HN8.out⟩)
        case measure => simp [intOf]; omega
      · have hkI : ¬ (k : Int) < 4 := by omega
        have hyr := HY.out.below HBk.out HY.out.lt
        have HYR := Lib.hid hyr
        clear hyr
        go_wp2_with (go_at_call 17; refine (lx_begun _ HYR.out).mono ?_; rintro e w8 ⟨rfl, hb8⟩; have HB8 := Lib.hid (HBk.out.trans (hb8.mono hsz)); clear hb8)
        go_ret
        exact ⟨by first | rfl | simp, HB8.out⟩
end Go.Proofs.YtoiofbpmgihkfaaDoor
