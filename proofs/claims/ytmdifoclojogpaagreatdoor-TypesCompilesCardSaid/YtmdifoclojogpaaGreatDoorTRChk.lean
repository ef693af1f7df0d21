/- Layer 8: the reference's Check and Compile; the law's vars. -/
import Derived.Test.YtmdifoclojogpaaGreatDoorTRef
import Derived.Test.YtmdifoclojogpaaGreatDoorTCmp
import Derived.Test.YtmdifoclojogpaaGreatDoorTBeg
namespace Go.Proofs.YtmdifoclojogpaaGreatDoor
open Go.RowKit Go.Maps

set_option maxRecDepth 100000 in
set_option maxHeartbeats 8000000 in
theorem tr_Check (w : World) (A A2 : Option Addr) (n c n2 c2 : Nat) (o : List Nd) (vs : List (ByteArray × ByteArray)) (hn : o.length = n) (hc : n ≤ c) (hn4 : n ≤ 100000) (h : NodR w A o) (hT : TrO o) (hn2 : vs.length = n2) (hc2 : n2 ≤ c2) (hn24 : n2 ≤ 100000) (h2 : VarR w A2 vs) :
    Calls Tryz.prog 24 #[.slice A n c, .slice A2 n2 c2] w (RetC (chk o vs) w) := by
  have HR := Lib.hid h
  have HN := Lib.hid hn
  have HT := Lib.hid hT
  have HV := Lib.hid h2
  have HN2 := Lib.hid hn2
  have HOP : Hid (∀ x ∈ o, 1 ≤ x.op ∧ x.op < 17) := Lib.hid fun x hx => by
    obtain ⟨i, hi⟩ := List.mem_iff_getElem?.1 hx
    have := hT.ok i x hi
    omega
  obtain ⟨R, hR⟩ : ∃ R, R = chk o vs := ⟨_, rfl⟩
  rw [← hR]
  have HRR := Lib.hid hR
  clear h hn hT hn2 h2 hR
  go_enter Tryz.func24, Tryz.ntmps24
  go_wp2_with fail
  go_loopw [11] (fun i w' => ∃ k : Nat, k ≤ n ∧ i = .int .i64 k ∧ Below w.heap.size w w' ∧ Hid (chkF (ndE o vs) n (chkEnd o) (n - k) k = R)) (fun i _ => n - (intOf i).toNat)
  case atStart => exact ⟨0, by omega, rfl, Below.refl _ _, Lib.hid (by rw [HRR.out, Nat.sub_zero, ← HN.out]; rfl)⟩
  case round =>
    clear HRR
    obtain ⟨k, hk, rfl, hb, HC⟩ := hrel
    have HB := Lib.hid hb
    have hsz := hb.size
    by_cases hlt : k < n
    · have hkI : (k : Int) < (n : Int) := by omega
      have hkc : (k : Int) < (c : Int) := by omega
      have hk0 : 0 ≤ (k : Int) := by omega
      have hkl : k < o.length := by rw [HN.out]; exact hlt
      obtain ⟨d, hd⟩ : ∃ d, d = o[k]'hkl := ⟨_, rfl⟩
      have hd2 : o[k]? = some d := by rw [List.getElem?_eq_getElem hkl, hd]
      obtain ⟨g, e1, l1, a0, a1, a2, a3, a4, a5, a6⟩ := nod_cells (HR.out.below hb) hkl
      rw [← hd] at a0 a1 a2 a3 a4 a5 a6
      have hrange := HT.out.ok k d hd2
      obtain ⟨da, hda⟩ : ∃ x, o[d.a]? = some x := ⟨_, List.getElem?_eq_getElem hrange.2.2.2.2.1⟩
      obtain ⟨db, hdb⟩ : ∃ x, o[d.b]? = some x := ⟨_, List.getElem?_eq_getElem hrange.2.2.2.2.2⟩
      have KF0 := tr_node (wr.alloc (.cells #[.int .i64 d.op, .int .i64 d.a, .int .i64 d.b, .string d.name, .string d.attr, .int .u64 (hi d.val), .int .u64 (lo d.val)] 68)) A A2 n c n2 c2 o vs HN.out hc (HR.out.below (hb.alloc hsz _)) HOP.out HN2.out hc2 hn24 (HV.out.below (hb.alloc hsz _)) d.op d.a d.b d.name d.attr (hi d.val) (lo d.val) (by omega) (by omega) hda hdb
      rw [← ndE_r hd2 hda hdb vs] at KF0
      have KF := Lib.hid KF0
      obtain ⟨e0, he0⟩ : ∃ e, e = ndE o vs k := ⟨_, rfl⟩
      rw [← he0] at KF
      have HE := Lib.hid he0
      clear KF0 hd hb hd2 hda hdb he0
      subst e1
      go_wp2_with fail
      go_at_call 55
      refine KF.out.mono ?_
      rintro e w5 ⟨rfl, hb5⟩
      have HB5 := Lib.hid ((HB.out.alloc hsz _).trans (hb5.mono (by simp; omega)))
      clear hb5 KF
      by_cases hz : e0 = 0
      · subst hz
        have HC2 : Hid (chkF (ndE o vs) n (chkEnd o) (n - (k + 1)) (k + 1) = R) := Lib.hid (by rw [← chkF_step hlt HE.out.symm]; exact HC.out)
        go_wp2_with fail
        go_roundw
        case rel => (go_light; exact ⟨k + 1, by omega, by simp, HB5.out, HC2⟩)
        case measure => simp [intOf]; omega
      · have hR : R = (k, e0) := by rw [← HC.out, chkF_hit hlt (by rw [← HE.out]; exact hz), ← HE.out]
        have HRR := Lib.hid hR
        have hzI : ((e0 : Int) != 0) = true := by simp; omega
        have hzJ : ¬ (e0 : Int) = 0 := by omega
        clear hR
        go_wp2_with fail
        go_ret2
        exact ⟨by rw [HRR.out]; rfl, HB5.out⟩
    · have hkI : ¬ (k : Int) < (n : Int) := by omega
      obtain rfl : n = k := by omega
      have hRE : R = chkEnd o := by rw [← HC.out, chkF_end]
      have HRE := Lib.hid hRE
      clear hRE HC
      by_cases hn0 : n = 0
      · subst hn0
        have ho : o = [] := List.eq_nil_of_length_eq_zero HN.out
        have hR : R = (0, 12) := by rw [HRE.out, ho]; rfl
        have HRR := Lib.hid hR
        clear hR ho hb
        go_wp2_with fail
        go_ret2
        exact ⟨by rw [HRR.out]; rfl, HB.out⟩
      · have hn0I : ((n : Int) == 0) = false := by rw [beq_eq_false_iff_ne]; omega
        have hn0J : ¬ (n : Int) = 0 := by omega
        obtain ⟨m, hm1⟩ : ∃ m, n = m + 1 := ⟨n - 1, by omega⟩
        have hsub : (n : Int) - 1 = (m : Int) := by omega
        have hmI : (m : Int) < (n : Int) := by omega
        have hmc : (m : Int) < (c : Int) := by omega
        have hm0 : 0 ≤ (m : Int) := by omega
        have hml : m < o.length := by have := HN.out; omega
        obtain ⟨d, hd⟩ : ∃ d, d = o[m]'hml := ⟨_, rfl⟩
        have hd2 : o[m]? = some d := by rw [List.getElem?_eq_getElem hml, hd]
        obtain ⟨g, e1, l1, a0, a1, a2, a3, a4, a5, a6⟩ := nod_cells (HR.out.below hb) hml
        rw [← hd] at a0 a1 a2 a3 a4 a5 a6
        have hrange := HT.out.ok m d hd2
        have KT := Lib.hid (tr_number wr d.op (d.a : Nat) (d.b : Nat) (hi d.val) (lo d.val) d.name d.attr (by omega) (by omega))
        have ht := typAt_num hd2
        obtain ⟨x, hx⟩ : ∃ x, x = numO d.op := ⟨_, rfl⟩
        rw [← hx] at KT ht
        have HTT := Lib.hid ht
        have HM1 := Lib.hid hm1
        clear hd hd2 ht hx hm1 hb hrange
        subst e1
        go_wp2_with fail
        go_at_call 56
        refine KT.out.mono ?_
        rintro e w5 ⟨rfl, hb5⟩
        have HB5 := Lib.hid (HB.out.trans (hb5.mono hsz))
        clear hb5 KT
        cases x
        · have hR : R = (0, 0) := by rw [HRE.out]; unfold chkEnd; rw [HN.out, HM1.out, Nat.add_sub_cancel, HTT.out]; rfl
          have HRR := Lib.hid hR
          clear hR
          go_wp2_with fail
          go_ret2
          exact ⟨by rw [HRR.out]; rfl, HB5.out⟩
        · have hR : R = (m, 12) := by rw [HRE.out]; unfold chkEnd; rw [HN.out, HM1.out, Nat.add_sub_cancel, HTT.out]; rfl
          have HRR := Lib.hid hR
          clear hR
          go_wp2_with fail
          go_ret2
          exact ⟨by rw [HRR.out]; rfl, HB5.out⟩
set_option maxRecDepth 100000 in
theorem info_varR : ∃ i, Tryz.prog.info? 139 = some i ∧ i.zero = some (.agg #[.string ⟨#[]⟩, .string ⟨#[]⟩]) ∧ i.size = 2 ∧ i.bytes = 32 := by
  have h : (Tryz.prog.info? 139).map (fun i => (i.zero, i.size, i.bytes)) = some (some (.agg #[.string ⟨#[]⟩, .string ⟨#[]⟩]), 2, 32) := by kernel_rfl
  cases hi : Tryz.prog.info? 139 with
  | none => rw [hi] at h; cases h
  | some i =>
    rw [hi] at h
    simp only [Option.map_some, Option.some.injEq, Prod.mk.injEq] at h
    exact ⟨i, rfl, h.1, h.2.1, h.2.2⟩
set_option maxRecDepth 100000 in
set_option maxHeartbeats 8000000 in
theorem tr_vars (w : World) (A : Option Addr) (n c : Nat) (vs : List (ByteArray × ByteArray)) (hn : vs.length = n) (hc : n ≤ c) (hn4 : n ≤ 100000) (h : VarR w A vs) : Calls Tryz.prog 25 #[.slice A n c] w (RetVs vs w) := by
  obtain ⟨i0, hi0, hz0, hy1, hy2⟩ := info_varR
  have HI := Lib.hid hi0
  have HZ := Lib.hid hz0
  have HY1 := Lib.hid hy1
  have HY2 := Lib.hid hy2
  have HR := Lib.hid h
  have HN := Lib.hid hn
  clear hi0 hz0 hy1 hy2 h hn
  go_enter Tryz.func25, Tryz.ntmps25
  go_wp2_with fail
  go_loopw [3, 8] (fun v i w' => ∃ k : Nat, k ≤ n ∧ i = .int .i64 k ∧ Below w.heap.size w w' ∧ w'.ownsRow w.heap.size 139 2 v k (vcells (vs.take k))) (fun _ i _ => n - (intOf i).toNat)
  case atStart => exact ⟨0, by omega, rfl, Below.refl _ _, by rw [List.take_zero]; exact World.ownsRow_nil _ _ _ _⟩
  case round =>
    obtain ⟨k, hk, rfl, hb, ho⟩ := hrel
    obtain ⟨A3, c3, rfl⟩ := own_shapeV ho
    have HB := Lib.hid hb
    have HO := Lib.hid ho
    have hsz := hb.size
    by_cases hlt : k < n
    · have hkI : (k : Int) < (n : Int) := by omega
      have hkc : (k : Int) < (c : Int) := by omega
      have hk0 : 0 ≤ (k : Int) := by omega
      obtain ⟨v, hv⟩ : ∃ v, vs[k]? = some v := ⟨_, List.getElem?_eq_getElem (by rw [HN.out]; exact hlt)⟩
      obtain ⟨g2, e2, l2, q⟩ := (HR.out.below hb).r.resolve_left (fun e => by rw [e] at hv; simp at hv)
      obtain ⟨q0, q1⟩ := q k v hv
      have HV := Lib.hid hv
      obtain ⟨v1, v2⟩ := v
      simp only at q0 q1
      have HOW := Lib.hid (own_below2 ho ((Below.refl wr.heap.size wr).alloc (Nat.le_refl _) (.cells #[.string v1, .string v2] 130)))
      have hBA := hb.alloc hsz (.cells #[.string v1, .string v2] 130)
      have HBA := Lib.hid hBA
      clear hv q hb ho hBA
      subst e2
      go_wp2_with (at_builtin; (refine wpList_append_own _ rfl (.tmp 12) (.tmp 18) 54 rfl w.heap.size 139 i0 _ 2 32 Tryz.underlying54 HI.out HZ.out HY1.out HY2.out rfl (by decide) _ k _ rfl (World.ownsRow.alloc HOW.out _) ⟨wr.heap.size + 1, 0, none⟩ 1 1 (vcell (v1, v2)) rfl rfl (World.news_of_block (cs := (vcell (v1, v2)).toArray) (t := 139) (fr := (0, 0)) (by rw [show wr.heap.size + 1 = (wr.alloc (.cells #[.string v1, .string v2] 130)).heap.size by simp]; exact heap_alloc_new _ _)) (vcell_one _) (by unfold maxLen; omega) (by omega) (by simp; omega) ?_; intro v4 w4 hO4 hg4 hi4; clear hi4; have HO4 := Lib.hid hO4; have HG4 := Lib.hid hg4; clear hO4 hg4))
      go_roundw
      case rel =>
        go_light
        refine ⟨k + 1, by omega, by simp, (HBA.out.alloc (by simp; omega) _).grown HG4.out (by simp; omega) (fun j hj => own_block_ge HO.out hj), ?_⟩
        rw [List.take_succ_eq_append_getElem (by rw [HN.out]; exact hlt), (List.getElem?_eq_some_iff.1 HV.out).2, vcells_snoc]
        exact HO4.out
      case measure => simp [intOf]; omega
    · have hkI : ¬ (k : Int) < (n : Int) := by omega
      obtain rfl : n = k := by omega
      clear hb ho
      go_wp2_with fail
      go_ret
      refine ⟨A3, c3, by rw [HN.out]; rfl, by rw [HN.out]; exact own_le HO.out, varR_own (n := n) (by have := HO.out; rwa [List.take_of_length_le (by rw [HN.out]; omega)] at this) HN.out, HB.out⟩
end Go.Proofs.YtmdifoclojogpaaGreatDoor
