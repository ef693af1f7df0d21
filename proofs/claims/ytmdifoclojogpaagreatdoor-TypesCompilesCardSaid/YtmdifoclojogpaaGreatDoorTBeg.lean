/- Layer 8's laws: begun; some. -/
import Derived.Test.YtmdifoclojogpaaGreatDoorTCmp
import Derived.Test.YtmdifoclojogpaaGreatDoorTVars
namespace Go.Proofs.YtmdifoclojogpaaGreatDoor
open Go.RowKit Go.Maps

def bgK : List KeyN := [⟨⟨#[97]⟩, 0, 1⟩]
def bg1 : ByteArray := ⟨#[97, 32, 43, 32, 49]⟩
def bg2 : ByteArray := ⟨#[97, 58, 58, 109, 97, 115, 107, 32, 62, 32, 48]⟩
set_option maxRecDepth 1000000 in
theorem bg1_is : cmpl bg1 (tvars bgK) = ([], 12) := by kernel_rfl
set_option maxRecDepth 1000000 in
theorem bg2_is : cmpl bg2 (tvars bgK) = ([], 6) := by kernel_rfl
theorem bg3_is : cmpl ⟨#[]⟩ (tvars bgK) = ([⟨2, 0, 0, ⟨#[]⟩, ⟨#[]⟩, 1⟩], 0) := by kernel_rfl
set_option maxRecDepth 100000 in
set_option maxHeartbeats 4000000 in
theorem ty_begun (w : World) (hy : Syms w) (hy2 : SymY w) (hy3 : TypY w) : Calls Tryz.prog 21 #[] w (RetX (.bool true) w) := by
  have HY1 := Lib.hid hy
  have HY2 := Lib.hid hy2
  have HY3 := Lib.hid hy3
  have hS : VarS (tvars bgK) := by
    intro v hv
    have e : tvars bgK = [(⟨#[97]⟩, ⟨#[]⟩), (⟨#[97]⟩, sValue), (sPrio, ⟨#[]⟩)] := rfl
    rw [e] at hv
    simp only [List.mem_cons, List.not_mem_nil, or_false] at hv
    rcases hv with rfl | rfl | rfl <;> exact ⟨by decide, by decide⟩
  have HVS := Lib.hid hS
  clear hy hy2 hy3 hS
  go_enter Tryz.func21, Tryz.ntmps21
  go_wp2_with fail
  go_at_call 51
  have hk : KeyR (w.alloc (.cells #[.string ⟨#[97]⟩, .int .i64 0, .int .i64 1] 128)) (some ⟨w.heap.size, 0, none⟩) bgK := by
    refine ⟨.inr ⟨w.heap.size, 0, rfl, by simp, fun k v hv => ?_⟩⟩
    rcases k with _ | k
    · injection hv with hv
      subst hv
      refine ⟨?_, ?_, ?_⟩ <;> (rw [World.cell?_alloc_new]; rfl)
    · simp [bgK] at hv
  refine (ty_TableVars (w.alloc (.cells #[.string ⟨#[97]⟩, .int .i64 0, .int .i64 1] 128)) 0 0 0 ⟨#[]⟩ ⟨#[]⟩ (some ⟨w.heap.size, 0, none⟩) 1 1 (.slice none 0 0) (.slice none 0 0) bgK rfl (by omega) (by omega) hk (fun k hk => by
    have : k = ⟨⟨#[97]⟩, 0, 1⟩ := by simpa [bgK] using hk
    subst this
    show 1 ≤ 100000
    omega)).mono ?_
  rintro e w1 ⟨A1, c1, he, hc1, hv1, hb1⟩
  have he2 : e = .returned (.slice A1 3 c1) := he
  subst he2
  have hc13 : 3 ≤ c1 := hc1
  have HB1 : Hid (Below w.heap.size w w1) := Lib.hid (((Below.refl _ w).alloc (Nat.le_refl _) _).trans (hb1.mono (by simp)))
  have HV1 := Lib.hid hv1
  have h1 := HB1.out.size
  clear he hk hc1 hv1 hb1
  have K1 : Hid (∀ (s : ByteArray) (hs : s.size < 100) W, Below w1.heap.size w1 W → Calls Tryz.prog 27 #[.string s, .slice A1 3 c1] W (RetCm (cmpl s (tvars bgK)) (cmpl s (tvars bgK)).1.length W)) := Lib.hid fun s hs W hW =>
    ty_Compile W s (by omega) A1 3 c1 (tvars bgK) rfl hc13 (by omega) (HV1.out.below hW) HVS.out ((HY1.out.below HB1.out HY1.out.lt).below hW (Nat.lt_of_lt_of_le HY1.out.lt h1)) ((HY2.out.below HB1.out HY2.out.lt).below hW (Nat.lt_of_lt_of_le HY2.out.lt h1)) ((HY3.out.below HB1.out HY3.out.lt).below hW (Nat.lt_of_lt_of_le HY3.out.lt h1))
  have KA := Lib.hid (K1.out bg1 (by decide) w1 (Below.refl _ _))
  rw [bg1_is] at KA
  go_wp2_with fail
  go_at_call 27
  refine KA.out.mono ?_
  rintro e w2 ⟨A2, c2, he, _, _, _, hb2⟩
  have he2 : e = .returned (.tuple #[.slice A2 0 c2, .int .i64 12]) := he
  subst he2
  have HB2 := Lib.hid hb2
  have KB := Lib.hid (K1.out bg2 (by decide) w2 hb2)
  rw [bg2_is] at KB
  clear he hb2 KA
  go_wp2_with fail
  go_at_call 27
  refine KB.out.mono ?_
  rintro e w3 ⟨A3, c3, he, _, _, _, hb3⟩
  have he2 : e = .returned (.tuple #[.slice A3 0 c3, .int .i64 6]) := he
  subst he2
  have HB3 := Lib.hid (HB2.out.trans (hb3.mono HB2.out.size))
  have KC := Lib.hid (K1.out ⟨#[]⟩ (by decide) w3 HB3.out)
  rw [bg3_is] at KC
  clear he hb3 KB
  go_wp2_with fail
  go_at_call 27
  refine KC.out.mono ?_
  rintro e w4 ⟨A4, c4, he, _, _, _, hb4⟩
  have he2 : e = .returned (.tuple #[.slice A4 1 c4, .int .i64 0]) := he
  subst he2
  have HB4 := Lib.hid (HB1.out.trans ((HB3.out.trans (hb4.mono HB3.out.size)).mono h1))
  clear he hb4 KC
  go_wp2_with fail
  go_ret
  exact ⟨by first | rfl | simp, HB4.out⟩
def sixV : List (ByteArray × ByteArray) := [(⟨#[97]⟩, ⟨#[]⟩), (⟨#[98]⟩, ⟨#[]⟩), (⟨#[100]⟩, sPrefix), (⟨#[101]⟩, sMask), (⟨#[102]⟩, sHigh), (sPrio, ⟨#[]⟩)]
theorem six_sz : ∀ v ∈ sixV, v.1.size ≤ 100000 ∧ v.2.size ≤ 100000 := by
  intro v hv
  simp only [sixV, List.mem_cons, List.not_mem_nil, or_false] at hv
  rcases hv with rfl | rfl | rfl | rfl | rfl | rfl <;> exact ⟨by decide, by decide⟩
def sixA : Array Value := #[.string ⟨#[97]⟩, .string ⟨#[]⟩, .string ⟨#[98]⟩, .string ⟨#[]⟩, .string ⟨#[100]⟩, .string sPrefix, .string ⟨#[101]⟩, .string sMask, .string ⟨#[102]⟩, .string sHigh, .string sPrio, .string ⟨#[]⟩]
theorem six_at : ∀ k, k < 6 → ∃ v, sixV[k]? = some v ∧ sixA[k * 2]? = some (.string v.1) ∧ sixA[k * 2 + 1]? = some (.string v.2) := by
  intro k hk
  have : k = 0 ∨ k = 1 ∨ k = 2 ∨ k = 3 ∨ k = 4 ∨ k = 5 := by omega
  rcases this with rfl | rfl | rfl | rfl | rfl | rfl <;> exact ⟨_, rfl, rfl, rfl⟩
def RetSm (w : World) (e : Ending) (w' : World) : Prop := ∃ vs A c n, e = .returned (.slice A n c) ∧ n = vs.length ∧ n ≤ c ∧ n ≤ 6 ∧ VarS vs ∧ VarR w' A vs ∧ Below w.heap.size w w'
set_option maxRecDepth 100000 in
set_option maxHeartbeats 8000000 in
theorem ty_some (x : Int) (w : World) : Calls Tryz.prog 22 #[.int .i64 x] w (RetSm w) := by
  obtain ⟨i0, hi0, hz0, hy1, hy2⟩ := info_varT
  have HI := Lib.hid hi0
  have HZ := Lib.hid hz0
  have HY1 := Lib.hid hy1
  have HY2 := Lib.hid hy2
  clear hi0 hz0 hy1 hy2
  go_enter Tryz.func22, Tryz.ntmps22
  go_wp2_with fail
  obtain ⟨W0, hW0⟩ : ∃ W, W = w.alloc (.cells sixA 130) := ⟨_, rfl⟩
  have hsz0 : W0.heap.size = w.heap.size + 1 := by rw [hW0]; simp
  have HSZ0 := Lib.hid hsz0
  have HC0 : Hid (∀ i, W0.cell? ⟨w.heap.size, i, none⟩ = sixA[i]?) := Lib.hid fun i => by rw [hW0, World.cell?_alloc_new]
  have HBW : Hid (Below w.heap.size w W0) := Lib.hid (by rw [hW0]; exact (Below.refl _ _).alloc (Nat.le_refl _) _)
  change Code.wp _ _ _ _ (w.alloc (.cells sixA 130))
  rw [← hW0]
  clear hW0 hsz0
  go_loopw [3, 14] (fun v i w' => ∃ (k : Nat) (vs : List (ByteArray × ByteArray)), k ≤ 6 ∧ i = .int .i64 k ∧ vs.length ≤ k ∧ VarS vs ∧ VrAt W0 vs v w') (fun _ i _ => 6 - (intOf i).toNat)
  case atStart => exact ⟨0, [], by omega, rfl, Nat.le_refl _, (fun v hv => by cases hv), ⟨Below.refl _ _, World.ownsRow_nil _ _ _ _⟩⟩
  case round =>
    obtain ⟨k, vs, hk, rfl, hvk, hvS, hv⟩ := hrel
    obtain ⟨A3, c3, rfl⟩ := own_shapeV hv.own
    obtain ⟨m, hm⟩ : ∃ m, m = vs.length := ⟨_, rfl⟩
    rw [← hm] at hvk hv ⊢
    have HV := Lib.hid hv
    have HVS := Lib.hid hvS
    have hsz := hv.below.size
    have hz0 := HSZ0.out
    have HM := Lib.hid hm
    clear hv hvS hm
    by_cases hlt : k < 6
    · have hkI : (k : Int) < 6 := by omega
      have hk0 : 0 ≤ (k : Int) := by omega
      obtain ⟨⟨v1, v2⟩, hs1, hs2, hs3⟩ := six_at k hlt
      have c0 : wr.cell? ⟨w.heap.size, k * 2, none⟩ = some (.string v1) := by rw [HV.out.below.cell (p := ⟨w.heap.size, k * 2, none⟩) (by show w.heap.size < _; omega), HC0.out, hs2]
      have c1 : wr.cell? ⟨w.heap.size, k * 2 + 1, none⟩ = some (.string v2) := by rw [HV.out.below.cell (p := ⟨w.heap.size, k * 2 + 1, none⟩) (by show w.heap.size < _; omega), HC0.out, hs3]
      have hsz6 := six_sz _ (List.mem_of_getElem? hs1)
      have hcv : IntKind.u64.wrap (k : Int) = (k : Int) := by unfold IntKind.wrap; simp [IntKind.bits, IntKind.signed]; omega
      have HS6 := Lib.hid hsz6
      have HA := Lib.hid (HV.out.call ((Below.refl wr.heap.size wr).alloc (Nat.le_refl _) (.cells #[.string v1, .string v2] 130)))
      have HOW : Hid ((wr.alloc (.cells #[.string v1, .string v2] 130)).ownsRow W0.heap.size 130 2 (.slice A3 m c3) m (vcells vs)) := Lib.hid (by have := HA.out.own; rwa [← HM.out] at this)
      clear hs1 hs2 hs3 hsz6 hz0
      go_wp2_with (at_builtin; (refine wpList_append_own _ rfl (.tmp 25) (.tmp 27) 49 rfl W0.heap.size 130 i0 _ 2 32 Tryz.underlying49 HI.out HZ.out HY1.out HY2.out rfl (by decide) _ m _ rfl (World.ownsRow.alloc HOW.out _) ⟨wr.heap.size + 1, 0, none⟩ 1 1 (vcell (v1, v2)) rfl rfl (World.news_of_block (cs := (vcell (v1, v2)).toArray) (t := 130) (fr := (0, 0)) (by rw [show wr.heap.size + 1 = (wr.alloc (.cells #[.string v1, .string v2] 130)).heap.size by simp]; exact heap_alloc_new _ _)) (vcell_one _) (by unfold maxLen; omega) (by omega) (by simp; omega) ?_; intro v4 w4 hO4 hg4 hi4; clear hi4; have HO4 := Lib.hid hO4; have HG4 := Lib.hid hg4; clear hO4 hg4))
      · go_roundw
        case rel =>
          go_light
          refine ⟨k + 1, vs ++ [(v1, v2)], by omega, by simp, by rw [List.length_append, ← HM.out]; simp; omega, fun v hv => ?_, HA.out.app _ (by rw [← HM.out]; exact HO4.out) HG4.out⟩
          rcases List.mem_append.1 hv with hv | hv
          · exact HVS.out v hv
          · obtain rfl : v = (v1, v2) := by simpa using hv
            exact HS6.out
        case measure => simp [intOf]; omega
      · go_roundw
        case rel => (go_light; exact ⟨k + 1, vs, by omega, by simp, by rw [← HM.out]; omega, HVS.out, HA.out⟩)
        case measure => simp [intOf]; omega
    · have hkI : ¬ (k : Int) < 6 := by omega
      go_wp2_with fail
      go_ret
      exact ⟨vs, A3, c3, m, rfl, HM.out, own_le HV.out.own, by omega, HVS.out, varR_own (n := m) (by have := HV.out.own; rwa [← HM.out] at this) HM.out.symm, HBW.out.trans (HV.out.below.mono (by omega))⟩
end Go.Proofs.YtmdifoclojogpaaGreatDoor
