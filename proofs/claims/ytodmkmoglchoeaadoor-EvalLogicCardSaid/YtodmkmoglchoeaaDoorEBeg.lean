/- Contracts, joined: EHlds, EBeg. -/
import Derived.Test.YtodmkmoglchoeaaDoorEBnd
import Derived.Test.YtodmkmoglchoeaaDoorERefP
import Derived.Test.YtodmkmoglchoeaaDoorTBeg
import Derived.Test.YtodmkmoglchoeaaDoorEBits
namespace Go.Proofs.YtodmkmoglchoeaaDoor
/- Layer 9's laws: holds. -/
section
open Go.RowKit

theorem flat_mem (t : Tr) : ∀ b, t.Ok → ∀ x ∈ t.flat b, LeafOk x ∨ ∃ o i j, x = nd o i j := by
  induction t with
  | leaf n =>
    intro b h x hx
    obtain rfl : x = n := by simpa [Tr.flat] using hx
    exact .inl h
  | un o t ih =>
    intro b h x hx
    rcases List.mem_append.1 hx with hx | hx
    · exact ih b h.2 x hx
    · exact .inr ⟨_, _, _, by simpa using hx⟩
  | bin o t u ih1 ih2 =>
    intro b h x hx
    rcases List.mem_append.1 hx with hx | hx
    · rcases List.mem_append.1 hx with hx | hx
      · exact ih1 b h.2.2.1 x hx
      · exact ih2 _ h.2.2.2 x hx
    · exact .inr ⟨_, _, _, by simpa using hx⟩
theorem cmpl_chk (s : ByteArray) (vs : List (ByteArray × ByteArray)) (hz : (cmpl s vs).2 = 0) : (chk (cmpl s vs).1 vs).2 = 0 := by
  unfold cmpl at hz ⊢
  split
  · rfl
  · rename_i h1
    rw [if_neg h1] at hz
    split
    · rename_i h2; rw [if_pos h2] at hz; exact absurd hz h2
    · rename_i h2
      rw [if_neg h2] at hz
      split
      · rename_i h3; rw [if_pos h3] at hz; exact absurd hz h3
      · rename_i h3
        rw [if_neg h3] at hz
        split
        · rename_i h4; rw [if_pos h4] at hz; exact absurd hz h4
        · rename_i h4
          show (chk (parse (scan s).1).1 vs).2 = 0
          omega
theorem cmpl_ok (s : ByteArray) (vs : List (ByteArray × ByteArray)) (hS : ∀ v ∈ vs, v.1.size ≤ maxLen ∧ v.2.size ≤ maxLen) (hz : (cmpl s vs).2 = 0) : ∀ x ∈ (cmpl s vs).1, NdOk x := by
  obtain ⟨t, ht, h2⟩ := cmpl_tree s vs hz
  obtain ⟨k1, _⟩ := chk_zero2 _ vs (cmpl_chk s vs hz)
  intro x hx
  have hm := flat_mem t 0 ht x (by rw [← h2]; exact hx)
  rcases hm with hl | ⟨o, i, j, rfl⟩
  · rcases hl.is with ⟨_, e2, e3, e4⟩ | ⟨_, e2, e3, e4⟩ | ⟨e1, e4, _⟩
    · exact ⟨e4, by rw [e2]; exact Nat.zero_le _, by rw [e3]; exact Nat.zero_le _⟩
    · exact ⟨by omega, by rw [e2]; exact Nat.zero_le _, by rw [e3]; exact Nat.zero_le _⟩
    · obtain ⟨i, hi, rfl⟩ := List.mem_iff_getElem.1 hx
      have h1 := k1 i hi
      unfold ndE at h1
      rw [List.getElem?_eq_getElem hi] at h1
      simp only at h1
      have hv : vin vs (cmpl s vs).1[i].name (cmpl s vs).1[i].attr = true := by
        cases hh : vin vs (cmpl s vs).1[i].name (cmpl s vs).1[i].attr
        · rw [if_pos ⟨e1, hh⟩] at h1; cases h1
        · rfl
      have := hS _ ((vin_iff _ _ _).1 hv)
      exact ⟨by rw [e4]; decide, this.1, this.2⟩
  · exact ⟨by show 0 < _; decide, Nat.zero_le _, Nat.zero_le _⟩
/-- what a sentence holds with the law's variables -/
def hlS (g : Nat → Nat) (s : ByteArray) : Bool := if (cmpl s vars7).2 = 0 then hldN (envB (bnds g 7)) (cmpl s vars7).1 else false
theorem vars7_S : VarS vars7 := by
  intro v hv
  have := vars7_sz v hv
  exact ⟨by omega, by omega⟩
theorem cmpl_pos (s : ByteArray) (vs : List (ByteArray × ByteArray)) (hz : (cmpl s vs).2 = 0) : 1 ≤ (cmpl s vs).1.length := by
  obtain ⟨t, ht, h2⟩ := cmpl_tree s vs hz
  rw [h2, t.flat_len]; exact t.pos
theorem envB_rg (bl : List BindN) : EnvB (envB bl) := fun a c => envB_lt bl a c
set_option maxRecDepth 100000 in
set_option maxHeartbeats 4000000 in
theorem lb_holds (w : World) (s : ByteArray) (hs : s.size < 9223372036854775807) (A : Option Addr) (n c : Nat) (f : Nat → Nat) (hc : n ≤ c) (hf : ∀ i, f i < 2 ^ 128) (hA : ValsB w A n f) (hy1 : Syms w) (hy2 : SymY w) (hy3 : TypY w) :
    Calls Tryd.prog 15 #[.string s, .slice A n c] w (RetX (.tuple #[.bool (hlS (fun i => if i < n then f i else 0) s), .bool (decide ((cmpl s vars7).2 = 0))]) w) := by
  have KB := Lib.hid (lb_bound w A n c f hc hf hA)
  obtain ⟨g, hg⟩ : ∃ g : Nat → Nat, g = fun i => if i < n then f i else 0 := ⟨_, rfl⟩
  rw [← hg] at KB ⊢
  clear hg
  obtain ⟨r1, hr1⟩ : ∃ r, r = hlS g s := ⟨_, rfl⟩
  obtain ⟨r2, hr2⟩ : ∃ r, r = decide ((cmpl s vars7).2 = 0) := ⟨_, rfl⟩
  rw [← hr1, ← hr2]
  have HR1 := Lib.hid hr1
  have HR2 := Lib.hid hr2
  clear hr1 hr2
  have HY1 := Lib.hid hy1
  have HY2 := Lib.hid hy2
  have HY3 := Lib.hid hy3
  clear hy1 hy2 hy3 hf hA
  go_enter Tryd.func15, Tryd.ntmps15
  go_wp2_with fail
  go_at_call 28
  refine KB.out.mono ?_
  rintro e w1 ⟨A1, c1, A2, c2, A3, c3, A4, c4, rfl, h1, h2, h3, h4, hv1, hv2, hb3, hb4, hb⟩
  have HB := Lib.hid hb
  have HV := Lib.hid hv1
  have HBI := Lib.hid hb3
  clear hv1 hv2 hb3 hb4 hb KB
  have KC := Lib.hid (ty_Compile w1 s hs A1 7 c1 vars7 rfl h1 (by omega) HV.out vars7_S (HY1.out.below HB.out HY1.out.lt) (HY2.out.below HB.out HY2.out.lt) (HY3.out.below HB.out HY3.out.lt))
  go_wp2_with fail
  go_at_call 20
  refine KC.out.mono ?_
  rintro e w2 ⟨A5, c5, rfl, _, h5, hN, hb2⟩
  have HB2 := Lib.hid (HB.out.trans (hb2.mono HB.out.size))
  have HB12 := Lib.hid hb2
  have HN := Lib.hid hN
  obtain ⟨code, hcode⟩ : ∃ k, k = (cmpl s vars7).2 := ⟨_, rfl⟩
  have hl4 := cmpl_len s vars7
  obtain ⟨m, hm⟩ : ∃ m, m = (cmpl s vars7).1.length := ⟨_, rfl⟩
  rw [← hcode, ← hm]
  rw [← hm] at h5 hl4
  by_cases hz : code = 0
  · have hz2 : (cmpl s vars7).2 = 0 := by omega
    have hval : r1 = hldN (envB (bnds g 7)) (cmpl s vars7).1 := by rw [HR1.out]; unfold hlS; rw [if_pos hz2]
    have hv2 : r2 = true := by rw [HR2.out]; exact decide_eq_true hz2
    have hp := cmpl_pos s vars7 hz2
    subst hv2
    clear HR2
    have KH := Lib.hid (ev_Holds w2 A5 m c5 (cmpl s vars7).1 hm.symm (by omega) h5 hl4 HN.out (cmpl_ok s vars7 (fun v hv => by have := vars7_sz v hv; unfold maxLen; omega) hz2) A3 7 c3 (bnds g 7) (bnds_len g 7) h3 (by omega) (HBI.out.below HB12.out) (cmpl_rg (envB_rg _) s vars7 hz2))
    rw [← hval] at KH
    subst hz
    clear hcode hm hz2 hval hN hb2 KC
    go_wp2_with fail
    go_at_call 29
    refine KH.out.mono ?_
    rintro e w3 ⟨rfl, hb3⟩
    have HB3 := Lib.hid (HB2.out.trans (hb3.mono HB2.out.size))
    clear hb3
    go_wp2_with fail
    refine bodyPost_ret (v := .tuple #[.bool r1, .bool true]) (by simp [results, Tryd.results15, go_sem]) rfl ⟨rfl, HB3.out⟩
  · have hz2 : ¬ (cmpl s vars7).2 = 0 := by omega
    have hval : r1 = false := by rw [HR1.out]; unfold hlS; rw [if_neg hz2]
    have hv2 : r2 = false := by rw [HR2.out]; exact decide_eq_false hz2
    have hzI : ¬ (code : Int) = 0 := by omega
    subst hval hv2
    clear hcode hm hz2 hN hb2 KC
    go_wp2_with fail
    refine bodyPost_ret (v := .tuple #[.bool false, .bool false]) (by simp [results, Tryd.results15, go_sem]) rfl ⟨rfl, HB2.out⟩
end
/- Layer 9's laws: begun. -/
section
open Go.RowKit

def bgK9 : List KeyN := [⟨⟨#[100]⟩, 7, 2⟩]
def bg9 : ByteArray := ⟨#[100, 58, 58, 112, 114, 101, 102, 105, 120, 95, 108, 101, 110, 103, 116, 104, 32, 62, 61, 32, 56, 32, 45, 62, 32, 100, 58, 58, 118, 97, 108, 117, 101, 32, 62, 32, 48]⟩
theorem bg9_lit : (⟨#[100, 58, 58, 112, 114, 101, 102, 105, 120, 95, 108, 101, 110, 103, 116, 104, 32, 62, 61, 32, 56, 32, 45, 62, 32, 100, 58, 58, 118, 97, 108, 117, 101, 32, 62, 32, 48]⟩ : ByteArray) = bg9 := rfl
def bg9T : List Nd := [⟨3, 0, 0, ⟨#[100]⟩, sPrefix, 0⟩, ⟨1, 0, 0, ⟨#[]⟩, ⟨#[]⟩, 8⟩, nd 13 0 1, ⟨3, 0, 0, ⟨#[100]⟩, sValue, 0⟩, ⟨1, 0, 0, ⟨#[]⟩, ⟨#[]⟩, 0⟩, nd 12 3 4, nd 16 2 5]
set_option maxRecDepth 1000000 in
theorem bg9_is : cmpl bg9 (tvars bgK9) = (bg9T, 0) := by kernel_rfl
def bgB : List BindN := bindAll (bitsF []) bgK9 [] 0
theorem bgB_len : bgB.length = 3 := rfl
theorem bgB_holds : hldN (envB bgB) bg9T = true := by kernel_rfl
theorem bg9S : VarS (tvars bgK9) := by
  intro v hv
  have e : tvars bgK9 = [(⟨#[100]⟩, sValue), (⟨#[100]⟩, sPrefix), (sPrio, ⟨#[]⟩)] := rfl
  rw [e] at hv
  simp only [List.mem_cons, List.not_mem_nil, or_false] at hv
  rcases hv with rfl | rfl | rfl <;> exact ⟨by decide, by decide⟩
theorem bg9ok : ∀ x ∈ bg9T, NdOk x := by
  have h := cmpl_ok bg9 (tvars bgK9) (fun v hv => by have := bg9S v hv; unfold maxLen; omega) (by rw [bg9_is])
  rw [bg9_is] at h
  exact h
theorem bg9rg (bl : List BindN) : EnvRg (mns (envB bl) bg9T) := by
  have h := cmpl_rg (envB_rg bl) bg9 (tvars bgK9) (by rw [bg9_is])
  rw [bg9_is] at h
  exact h
set_option maxRecDepth 100000 in
set_option maxHeartbeats 8000000 in
theorem eb_begun (w : World) (hy : Syms w) (hy2 : SymY w) (hy3 : TypY w) : Calls Tryd.prog 16 #[] w (RetX (.bool true) w) := by
  have HY1 := Lib.hid hy
  have HY2 := Lib.hid hy2
  have HY3 := Lib.hid hy3
  clear hy hy2 hy3
  obtain ⟨W0, hW0⟩ : ∃ W, W = (w.alloc (.cells #[.string ⟨#[100]⟩, .int .i64 7, .int .i64 2] 66)).alloc (.cells #[.int .i64 0, .string ⟨#[]⟩, .slice (some ⟨w.heap.size, 0, none⟩) 1 1, .slice none 0 0, .int .i64 0, .slice none 0 0, .int .i64 0, .string ⟨#[]⟩] 26) := ⟨_, rfl⟩
  have hB0 : Below w.heap.size w W0 := by rw [hW0]; exact ((Below.refl _ _).alloc (Nat.le_refl _) _).alloc (by simp) _
  have hz0 : W0.heap.size = w.heap.size + 2 := by rw [hW0]; simp
  have hk0 : KeyR W0 (some ⟨w.heap.size, 0, none⟩) bgK9 := by
    have hK : W0.heap[w.heap.size]? = some (.cells #[.string ⟨#[100]⟩, .int .i64 7, .int .i64 2] 66 (0, 0)) := by
      rw [hW0]
      exact (((Below.refl _ _).alloc (Nat.le_refl _) _).block w.heap.size (by simp)).trans (heap_alloc_new _ _)
    refine ⟨.inr ⟨w.heap.size, 0, rfl, by omega, fun k v hv => ?_⟩⟩
    rcases k with _ | k
    · injection hv with hv
      subst hv
      exact cells3_of hK
    · simp [bgK9] at hv
  have hT0 : W0.heap[w.heap.size + 1]? = some (.cells #[.int .i64 0, .string ⟨#[]⟩, .slice (some ⟨w.heap.size, 0, none⟩) 1 1, .slice none 0 0, .int .i64 0, .slice none 0 0, .int .i64 0, .string ⟨#[]⟩] 26 (0, 0)) := by
    rw [hW0, show w.heap.size + 1 = (w.alloc (.cells #[.string ⟨#[100]⟩, .int .i64 7, .int .i64 2] 66)).heap.size by simp]
    exact heap_alloc_new _ _
  have HB0 := Lib.hid hB0
  have HZ0 := Lib.hid hz0
  have HK0 := Lib.hid hk0
  have HT0 := Lib.hid hT0
  have HW0 := Lib.hid hW0
  have KBI : Hid (∀ W, Below W0.heap.size W0 W → Calls Tryd.prog 30 #[.agg #[.slice none 0 0, .slice none 0 0, .slice none 0 0, .slice none 0 0, .slice none 0 0, .slice none 0 0, .slice none 0 0, .slice none 0 0, .int .i64 0, .int .i64 0], .agg #[.int .i64 0, .string ⟨#[]⟩, .slice (some ⟨w.heap.size, 0, none⟩) 1 1, .slice none 0 0, .int .i64 0, .slice none 0 0, .int .i64 0, .string ⟨#[]⟩], .agg #[.int .i64 0, .slice none 0 0, .int .i64 0, .int .i64 0, .slice none 0 0]] W (RetBi bgB W)) := Lib.hid fun W hW =>
    ev_Bind W _ _ _ _ _ _ _ _ _ _ (bitsF []) (fun W1 id hW1 => ev_bitsOf W1 none 0 0 [] rfl (Nat.le_refl _) (by omega) ⟨.inl rfl⟩ _ _ _ _ _ _ _ _ _ id) 0 0 0 _ _ (some ⟨w.heap.size, 0, none⟩) 1 1 _ _ bgK9 rfl (by omega) (by omega) (HK0.out.below hW) (fun k hk => by
      have : k = ⟨⟨#[100]⟩, 7, 2⟩ := by simpa [bgK9] using hk
      subst this
      show 1 ≤ 100000
      omega) 0 0 0 (by omega) none 0 0 _ [] rfl (Nat.le_refl _) ⟨.inl rfl⟩
  clear hB0 hz0 hk0 hT0 hW0
  go_enter Tryd.func16, Tryd.ntmps16
  rw [bg9_lit]
  go_upto_region 2 with fail
  change Code.wp _ _ _ _ ((w.alloc (.cells #[.string ⟨#[100]⟩, .int .i64 7, .int .i64 2] 66)).alloc (.cells #[.int .i64 0, .string ⟨#[]⟩, .slice (some ⟨w.heap.size, 0, none⟩) 1 1, .slice none 0 0, .int .i64 0, .slice none 0 0, .int .i64 0, .string ⟨#[]⟩] 26))
  rw [← HW0.out]
  clear HW0
  obtain ⟨t0, t1, t2, t3, t4, t5, t6, t7⟩ := cells8_of HT0.out
  go_wp2_with fail
  go_at_call 7
  refine (ty_TableVars W0 0 0 0 ⟨#[]⟩ ⟨#[]⟩ (some ⟨w.heap.size, 0, none⟩) 1 1 (.slice none 0 0) (.slice none 0 0) bgK9 rfl (by omega) (by omega) HK0.out (fun k hk => by
    have : k = ⟨⟨#[100]⟩, 7, 2⟩ := by simpa [bgK9] using hk
    subst this
    show 1 ≤ 100000
    omega)).mono ?_
  rintro e w1 ⟨A1, c1, he, hc1, hv1, hb1⟩
  have he2 : e = .returned (.slice A1 3 c1) := he
  subst he2
  have hc13 : 3 ≤ c1 := hc1
  have HB1 := Lib.hid hb1
  have h01 := HB0.out.trans (hb1.mono HB0.out.size)
  have HB01 := Lib.hid h01
  have KA := Lib.hid (ty_Compile w1 bg9 (by decide) A1 3 c1 (tvars bgK9) rfl hc13 (by omega) hv1 bg9S (HY1.out.below HB01.out HY1.out.lt) (HY2.out.below HB01.out HY2.out.lt) (HY3.out.below HB01.out HY3.out.lt))
  rw [bg9_is] at KA
  have HT1 := Lib.hid ((hb1.block (w.heap.size + 1) (by have := HZ0.out; omega)).trans HT0.out)
  clear he hc1 hv1 hb1 h01 t0 t1 t2 t3 t4 t5 t6 t7 HT0
  go_wp2_with fail
  go_at_call 20
  refine KA.out.mono ?_
  rintro e w2 ⟨A2, c2, he, _, hc2, hN, hb2⟩
  have he2 : e = .returned (.tuple #[.slice A2 7 c2, .int .i64 0]) := he
  subst he2
  have HB2 := Lib.hid (HB1.out.trans (hb2.mono HB1.out.size))
  have HN := Lib.hid hN
  have hc27 : 7 ≤ c2 := hc2
  have HT2 := Lib.hid ((hb2.block (w.heap.size + 1) (Array.getElem?_eq_some_iff.1 HT1.out).1).trans HT1.out)
  have KB := Lib.hid (KBI.out w2 HB2.out)
  clear he hb2 KA HB1 HB01 hN hc2 HT1
  obtain ⟨t0, t1, t2, t3, t4, t5, t6, t7⟩ := cells8_of HT2.out
  go_wp2_with fail
  go_at_call 30
  refine KB.out.mono ?_
  rintro e w3 ⟨A3, c3, he, hc3, hBI, hb3⟩
  have he2 : e = .returned (.slice A3 3 c3) := he
  subst he2
  have hc33 : 3 ≤ c3 := hc3
  have HB3 := Lib.hid (HB2.out.trans (hb3.mono HB2.out.size))
  have KH := Lib.hid (ev_Holds w3 A2 7 c2 bg9T rfl (by omega) hc27 (by omega) (HN.out.below hb3) bg9ok A3 3 c3 bgB rfl hc33 (by omega) hBI (bg9rg _))
  rw [bgB_holds] at KH
  have HT3 := Lib.hid ((hb3.block (w.heap.size + 1) (Array.getElem?_eq_some_iff.1 HT2.out).1).trans HT2.out)
  clear he hb3 hBI KB t0 t1 t2 t3 t4 t5 t6 t7 hc3 HT2 HN
  go_wp2_with fail
  go_at_call 29
  refine KH.out.mono ?_
  rintro e w4 ⟨rfl, hb4⟩
  have HB4 := Lib.hid (HB3.out.trans (hb4.mono HB3.out.size))
  have HT4 := Lib.hid ((hb4.block (w.heap.size + 1) (Array.getElem?_eq_some_iff.1 HT3.out).1).trans HT3.out)
  have KB := Lib.hid (KBI.out w4 HB4.out)
  clear hb4 KH HT3
  obtain ⟨t0, t1, t2, t3, t4, t5, t6, t7⟩ := cells8_of HT4.out
  go_wp2_with fail
  go_at_call 30
  refine KB.out.mono ?_
  rintro e w5 ⟨A5, c5, he, hc5, _, hb5⟩
  have he2 : e = .returned (.slice A5 3 c5) := he
  subst he2
  have HB5 := Lib.hid (HB0.out.trans ((HB4.out.trans (hb5.mono HB4.out.size)).mono HB0.out.size))
  clear he hb5 hc5 KB t0 t1 t2 t3 t4 t5 t6 t7
  go_wp2_with fail
  go_ret
  exact ⟨rfl, HB5.out⟩
end
end Go.Proofs.YtodmkmoglchoeaaDoor
