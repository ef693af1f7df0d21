/- Contracts, joined: TChk, TCmp, TBeg. -/
import Derived.Test.YtodmkmoglchoeaaDoorTProg
import Derived.Maps.OwnOps
import Derived.Test.YtodmkmoglchoeaaDoorYSam
import Derived.Test.YtodmkmoglchoeaaDoorTVars
namespace Go.Proofs.YtodmkmoglchoeaaDoor
/- Layer 8: the program's setOf and Check. -/
section
open Go.RowKit Go.Maps

theorem wpList_put_set (w : World) {ops : Array Oper} {rest : List Oper} {o : Oper} {a : Act} {Q : Exit → Act → World → Prop}
    (hg : o.guard = none) (m x v : Operand) (hop : o.op = Op.mapUpdate 162 m x v) (b n : Nat) (vs : List (ByteArray × ByteArray))
    (hm : a.eval m = .map (some b)) (h : SetAt w b n vs) (hn : n < maxLen) (a1 c1 : ByteArray) (ha : a1.size ≤ maxLen) (hc : c1.size ≤ maxLen) (hx : a.eval x = .agg #[.string a1, .string c1]) (hv : a.eval v = .bool true)
    (hK : ∀ w', SetAt w' b (n + 1) (vs ++ [(a1, c1)]) → w.grownBy w' (some b) → wpList Tryd.prog ops Q rest (a.put o.dst undef) w') :
    wpList Tryd.prog ops Q (o :: rest) a w := by
  refine wpList_plain hg fun K' hK' => ?_
  obtain ⟨w', hrun, r1, r2⟩ := h.put a1 c1 ha hc hn
  unfold Oper.wp
  simp [execOp, hop, hm, hx, hv, hrun, Result.andThen]
  exact hK' _ _ (hK w' r1 r2)
def RetSet (vs : List (ByteArray × ByteArray)) (w : World) (e : Ending) (w' : World) : Prop := ∃ b m, e = .returned (.map (some b)) ∧ SetAt w' b m vs ∧ Below w.heap.size w w'
set_option maxRecDepth 100000 in
set_option maxHeartbeats 4000000 in
theorem ty_set (w : World) (A : Option Addr) (n c : Nat) (vs : List (ByteArray × ByteArray)) (hn : vs.length = n) (hc : n ≤ c) (hn4 : n ≤ 100000) (h : VarR w A vs) (hs : VarS vs) : Calls Tryd.prog 54 #[.slice A n c] w (RetSet vs w) := by
  have HR := Lib.hid h
  have HN := Lib.hid hn
  have HS := Lib.hid hs
  have hmm := @run_makeMap Tryd.prog
  clear h hn hs
  go_enter Tryd.func54, Tryd.ntmps54
  go_wp2_with fail
  have HM0 : Hid (SetAt (w.alloc (.map #[] 0)) w.heap.size 0 []) := Lib.hid (SetAt.made w)
  have HB0 : Hid (Below w.heap.size w (w.alloc (.map #[] 0))) := Lib.hid ((Below.refl _ _).alloc (Nat.le_refl _) _)
  go_loopw [9] (fun i w' => ∃ k : Nat, k ≤ n ∧ i = .int .i64 k ∧ Below w.heap.size w w' ∧ SetAt w' w.heap.size k (vs.take k)) (fun i _ => n - (intOf i).toNat)
  case atStart => exact ⟨0, by omega, rfl, HB0.out, by rw [List.take_zero]; exact HM0.out⟩
  case round =>
    clear HB0 HM0 hmm
    obtain ⟨k, hk, rfl, hb, hm⟩ := hrel
    have HB := Lib.hid hb
    have HM := Lib.hid hm
    have hsz := hb.size
    by_cases hlt : k < n
    · have hkI : (k : Int) < (n : Int) := by omega
      have hkc : (k : Int) < (c : Int) := by omega
      have hk0 : 0 ≤ (k : Int) := by omega
      obtain ⟨v, hv⟩ : ∃ v, vs[k]? = some v := ⟨_, List.getElem?_eq_getElem (by rw [HN.out]; exact hlt)⟩
      obtain ⟨g, e1, l1, q⟩ := (HR.out.below hb).r.resolve_left (fun e => by rw [e] at hv; simp at hv)
      obtain ⟨q0, q1⟩ := q k v hv
      have hvs := HS.out v (List.mem_of_getElem? hv)
      obtain ⟨v1, v2⟩ := v
      simp only at q0 q1 hvs
      have HV := Lib.hid hv
      subst e1
      have HM2 : Hid (SetAt (wr.alloc (.cells #[.string v1, .string v2] 69)) w.heap.size k (vs.take k)) := Lib.hid (hm.below ((Below.refl _ _).alloc (Nat.le_refl _) _))
      clear hb hm q hv
      have hs1 : v1.size ≤ maxLen := by unfold maxLen; omega
      have hs2 : v2.size ≤ maxLen := by unfold maxLen; omega
      go_wp2_with (at_mapUpdate; (refine wpList_put_set _ rfl (.tmp 13) (.tmp 14) (.const (.bool true)) rfl w.heap.size k (vs.take k) rfl HM2.out (by unfold maxLen; omega) v1 v2 hs1 hs2 rfl rfl ?_; intro w3 hm3 hg3; have HM3 := Lib.hid hm3; have HG3 := Lib.hid hg3; clear hm3 hg3))
      go_roundw
      case rel =>
        go_light
        refine ⟨k + 1, by omega, by simp, (HB.out.alloc hsz _).grown HG3.out (by simp; omega) (fun j hj => by injection hj with hj; omega), ?_⟩
        rw [List.take_succ_eq_append_getElem (by rw [HN.out]; exact hlt), (List.getElem?_eq_some_iff.1 HV.out).2]
        exact HM3.out
      case measure => simp [intOf]; omega
    · have hkI : ¬ (k : Int) < (n : Int) := by omega
      clear hb hm
      go_wp2_with fail
      go_ret
      refine ⟨w.heap.size, k, rfl, ?_, HB.out⟩
      have := HM.out
      rwa [List.take_of_length_le (by rw [HN.out]; omega)] at this
def RetC (R : Nat × Nat) (w : World) (e : Ending) (w' : World) : Prop := e = .returned (.tuple #[.int .i64 (R.1 : Nat), .int .i64 (R.2 : Nat)]) ∧ Below w.heap.size w w'
theorem typAt_take {o : List Nd} {i j : Nat} (h : j < i) : typAt (o.take i) j = typAt o j := by
  unfold typAt
  rw [List.getElem?_take_of_lt h]
theorem ndE_at {o : List Nd} (hT : TrO o) {i : Nat} {n : Nd} (hn : o[i]? = some n) (vs : List (ByteArray × ByteArray)) : ndE o vs i = if n.op = 3 ∧ vin vs n.name n.attr = false then 6 else if fitO n.op (typAt (o.take i) n.a) (typAt (o.take i) n.b) = true then 0 else 12 := by
  have h := hT.ok i n hn
  unfold ndE
  rw [hn]
  simp only
  by_cases h3 : n.op ≤ 3
  · have e : ∀ x y, fitO n.op x y = true := fun x y => by unfold fitO; rw [if_pos h3]
    rw [e, e]
  · have h4 : 4 ≤ n.op := by omega
    rw [typAt_take (h.2.2.1 h4)]
    by_cases h6 : 6 ≤ n.op
    · rw [typAt_take (h.2.2.2.1 h6)]
    · have e : ∀ x y z, fitO n.op x y = fitO n.op x z := fun x y z => by
        unfold fitO
        have e5 : n.op = 4 ∨ n.op = 5 := by omega
        rcases e5 with e5 | e5 <;> simp [e5]
      rw [e _ _ (typAt (o.take i) n.b)]
theorem NodR.take {w : World} {A : Option Addr} {o : List Nd} (h : NodR w A o) (k : Nat) : NodR w A (o.take k) := by
  rcases h.r with h | ⟨g, h1, h2, h3⟩
  · exact ⟨.inl (by rw [h, List.take_nil])⟩
  · refine ⟨.inr ⟨g, h1, h2, fun i hi j hj => ?_⟩⟩
    rw [List.length_take] at hi
    rw [List.getElem_take]
    exact h3 i (by omega) j hj
set_option maxRecDepth 100000 in
set_option maxHeartbeats 8000000 in
theorem ty_Check (w : World) (A A2 : Option Addr) (n c n2 c2 : Nat) (o : List Nd) (vs : List (ByteArray × ByteArray)) (hn : o.length = n) (hc : n ≤ c) (hn4 : n ≤ 100000) (h : NodR w A o) (hT : TrO o) (hnm : ∀ x ∈ o, x.name.size ≤ 100000 ∧ x.attr.size ≤ 100000) (hn2 : vs.length = n2) (hc2 : n2 ≤ c2) (hn24 : n2 ≤ 100000) (h2 : VarR w A2 vs) (hs : VarS vs) (hy : TypY w) :
    Calls Tryd.prog 35 #[.slice A n c, .slice A2 n2 c2] w (RetC (chk o vs) w) := by
  have HR := Lib.hid h
  have HN := Lib.hid hn
  have HT := Lib.hid hT
  have HNM := Lib.hid hnm
  have HY := Lib.hid hy
  have K1 := Lib.hid (ty_set w A2 n2 c2 vs hn2 hc2 hn24 h2 hs)
  have HOP : Hid (∀ x ∈ o, 1 ≤ x.op ∧ x.op < 17) := Lib.hid fun x hx => by
    obtain ⟨i, hi⟩ := List.mem_iff_getElem?.1 hx
    have := hT.ok i x hi
    omega
  obtain ⟨R, hR⟩ : ∃ R, R = chk o vs := ⟨_, rfl⟩
  rw [← hR]
  have HRR := Lib.hid hR
  clear h hn hT hnm hy hn2 hc2 hn24 h2 hs hR
  go_enter Tryd.func35, Tryd.ntmps35
  go_wp2_with fail
  go_at_call 54
  refine K1.out.mono ?_
  rintro e w1 ⟨mb, mm, rfl, hm1, hb1⟩
  have HM1 := Lib.hid hm1
  have HB1 := Lib.hid hb1
  clear hm1 hb1 K1
  go_wp2_with fail
  go_loopw [14] (fun i w' => ∃ k : Nat, k ≤ n ∧ i = .int .i64 k ∧ Below w.heap.size w w' ∧ SetAt w' mb mm vs ∧ Hid (chkF (ndE o vs) n (chkEnd o) (n - k) k = R)) (fun i _ => n - (intOf i).toNat)
  case atStart => exact ⟨0, by omega, rfl, HB1.out, HM1.out, Lib.hid (by rw [HRR.out, Nat.sub_zero, ← HN.out]; rfl)⟩
  case round =>
    clear HB1 HM1 HRR
    obtain ⟨k, hk, rfl, hb, hm, HC⟩ := hrel
    have HB := Lib.hid hb
    have HM := Lib.hid hm
    have hsz := hb.size
    by_cases hlt : k < n
    · have hkI : (k : Int) < (n : Int) := by omega
      have hkc : (k : Int) < (c : Int) := by omega
      have hkcN : (k : Int) ≤ (c : Int) := by omega
      have hk0 : 0 ≤ (k : Int) := by omega
      have hkl : k < o.length := by rw [HN.out]; exact hlt
      obtain ⟨d, hd⟩ : ∃ d, d = o[k]'hkl := ⟨_, rfl⟩
      have hd2 : o[k]? = some d := by rw [List.getElem?_eq_getElem hkl, hd]
      obtain ⟨g, e1, l1, a0, a1, a2, a3, a4, a5, a6⟩ := nod_cells (HR.out.below hb) hkl
      rw [← hd] at a0 a1 a2 a3 a4 a5 a6
      have hsize := HNM.out d (by rw [hd]; exact List.getElem_mem hkl)
      have hrange := HT.out.ok k d hd2
      have hE := ndE_at HT.out hd2 vs
      have KF : Hid (∀ W, Below wr.heap.size wr W → Calls Tryd.prog 55 #[.agg #[.int .i64 d.op, .int .i64 d.a, .int .i64 d.b, .string d.name, .string d.attr, .int .u64 (hi d.val), .int .u64 (lo d.val)], .slice A k c] W (RetX (.bool (fitO d.op (typAt (o.take k) d.a) (typAt (o.take k) d.b))) W)) := Lib.hid fun W hW =>
        ty_fit W A k c (o.take k) (by rw [List.length_take]; omega) (by omega) (by omega) (((HR.out.below hb).take k).below hW) (fun x hx => HOP.out x (List.mem_of_mem_take hx)) ((HY.out.below hb HY.out.lt).below hW (Nat.lt_of_lt_of_le HY.out.lt hsz)) d.op d.a d.b d.name d.attr _ _ (by omega) (by omega) (by have := HN.out; omega) (by have := HN.out; omega)
      have hlk0 := (hm.below ((Below.refl _ wr).alloc (Nat.le_refl _) (.cells #[.int .i64 d.op, .int .i64 d.a, .int .i64 d.b, .string d.name, .string d.attr, .int .u64 (hi d.val), .int .u64 (lo d.val)] 105))).lookup d.name d.attr (by unfold maxLen; omega) (by unfold maxLen; omega)
      generalize fitO d.op (typAt (o.take k) d.a) (typAt (o.take k) d.b) = fb at KF hE
      generalize vin vs d.name d.attr = kb at hlk0 hE
      generalize hi d.val = hv at KF a5 hlk0
      generalize lo d.val = lv at KF a6 hlk0
      have HE := Lib.hid hE
      have HD2 := Lib.hid hd2
      clear hd hb hm hE hd2
      subst e1
      obtain ⟨op, aa, bb, nm, at_, vv⟩ := d
      simp only at a0 a1 a2 a3 a4 a5 a6 hsize hrange HE KF hlk0
      obtain ⟨oi, hoi⟩ : ∃ z : Int, z = ((op : Nat) : Int) := ⟨_, rfl⟩
      rw [← hoi] at a0 KF hlk0
      have hG : Tryd.prog.eqGuardType Tryd.prog.depth 105 = false := by kernel_rfl
      by_cases hhit : op = 3 ∧ kb = false
      · obtain ⟨rfl, rfl⟩ := hhit
        obtain rfl : oi = 3 := by omega
        clear hoi
        have hR : R = (k, 6) := by rw [← HC.out, chkF_hit hlt (by rw [HE.out]; simp), HE.out]; simp
        have HRR := Lib.hid hR
        clear hR hG
        go_wp2_with fail
        go_ret2
        exact ⟨by rw [HRR.out]; rfl, HB.out.alloc hsz _⟩
      · have HE2 : Hid (ndE o vs k = if fb = true then 0 else 12) := Lib.hid (by rw [HE.out, if_neg hhit])
        have hcase : (oi = 3 ∧ kb = true) ∨ ((oi == 3) = false ∧ ¬ oi = 3) := by
          by_cases h3 : op = 3
          · refine .inl ⟨by omega, ?_⟩
            cases kb
            · exact absurd ⟨h3, rfl⟩ hhit
            · rfl
          · exact .inr ⟨by rw [beq_eq_false_iff_ne]; omega, by omega⟩
        have HBX : Hid (Below w.heap.size w (wr.alloc (.cells #[.int .i64 oi, .int .i64 aa, .int .i64 bb, .string nm, .string at_, .int .u64 hv, .int .u64 lv] 105)).drew) := Lib.hid (HB.out.alloc hsz _).drew
        have HMX := Lib.hid (HM.out.below ((Below.refl _ wr).alloc (Nat.le_refl _) (.cells #[.int .i64 oi, .int .i64 aa, .int .i64 bb, .string nm, .string at_, .int .u64 hv, .int .u64 lv] 105)).drew)
        have KF2 := Lib.hid (KF.out _ ((Below.refl _ wr).alloc (Nat.le_refl _) (.cells #[.int .i64 oi, .int .i64 aa, .int .i64 bb, .string nm, .string at_, .int .u64 hv, .int .u64 lv] 105)).drew)
        have b0 : (wr.alloc (.cells #[.int .i64 oi, .int .i64 aa, .int .i64 bb, .string nm, .string at_, .int .u64 hv, .int .u64 lv] 105)).cell? ⟨wr.heap.size, 0, none⟩ = some (.int .i64 oi) := by rw [World.cell?_alloc_new]; rfl
        have b1 : (wr.alloc (.cells #[.int .i64 oi, .int .i64 aa, .int .i64 bb, .string nm, .string at_, .int .u64 hv, .int .u64 lv] 105)).cell? ⟨wr.heap.size, 1, none⟩ = some (.int .i64 aa) := by rw [World.cell?_alloc_new]; rfl
        have b2 : (wr.alloc (.cells #[.int .i64 oi, .int .i64 aa, .int .i64 bb, .string nm, .string at_, .int .u64 hv, .int .u64 lv] 105)).cell? ⟨wr.heap.size, 2, none⟩ = some (.int .i64 bb) := by rw [World.cell?_alloc_new]; rfl
        have b3 : (wr.alloc (.cells #[.int .i64 oi, .int .i64 aa, .int .i64 bb, .string nm, .string at_, .int .u64 hv, .int .u64 lv] 105)).cell? ⟨wr.heap.size, 3, none⟩ = some (.string nm) := by rw [World.cell?_alloc_new]; rfl
        have b4 : (wr.alloc (.cells #[.int .i64 oi, .int .i64 aa, .int .i64 bb, .string nm, .string at_, .int .u64 hv, .int .u64 lv] 105)).cell? ⟨wr.heap.size, 4, none⟩ = some (.string at_) := by rw [World.cell?_alloc_new]; rfl
        have b5 : (wr.alloc (.cells #[.int .i64 oi, .int .i64 aa, .int .i64 bb, .string nm, .string at_, .int .u64 hv, .int .u64 lv] 105)).cell? ⟨wr.heap.size, 5, none⟩ = some (.int .u64 hv) := by rw [World.cell?_alloc_new]; rfl
        have b6 : (wr.alloc (.cells #[.int .i64 oi, .int .i64 aa, .int .i64 bb, .string nm, .string at_, .int .u64 hv, .int .u64 lv] 105)).cell? ⟨wr.heap.size, 6, none⟩ = some (.int .u64 lv) := by rw [World.cell?_alloc_new]; rfl
        clear hhit HE KF
        clear hoi
        rcases hcase with ⟨rfl, rfl⟩ | ⟨h3I, h3J⟩
        all_goals
          go_upto_region 7 with fail
          generalize (wr.alloc (.cells _ 105)) = WX at HBX HMX KF2 b0 b1 b2 b3 b4 b5 b6 ⊢
          go_still_tail 4, (by kernel_rfl)
          change wpList _ _ _ _ _ WX.drew
          go_wp2_with fail
          go_at_call 55
          refine KF2.out.mono ?_
          rintro e w5 ⟨rfl, hb5⟩
          have HB5 := Lib.hid (HBX.out.trans (hb5.mono HBX.out.size))
          have HM5 := Lib.hid (HMX.out.below hb5)
          clear hb5 KF2 HBX HMX
          cases fb
          · have hR : R = (k, 12) := by rw [← HC.out, chkF_hit hlt (by rw [HE2.out]; simp), HE2.out]; simp
            have HRR := Lib.hid hR
            clear hR
            go_wp2_with fail
            go_ret2
            exact ⟨by rw [HRR.out]; rfl, HB5.out⟩
          · have HC2 : Hid (chkF (ndE o vs) n (chkEnd o) (n - (k + 1)) (k + 1) = R) := Lib.hid (by rw [← chkF_step hlt (by rw [HE2.out]; simp)]; exact HC.out)
            go_wp2_with fail
            go_roundw
            case rel => (go_light; exact ⟨k + 1, by omega, by simp, HB5.out, HM5.out, HC2⟩)
            case measure => simp [intOf]; omega
    · have hkI : ¬ (k : Int) < (n : Int) := by omega
      obtain rfl : n = k := by omega
      have hRE : R = chkEnd o := by rw [← HC.out, chkF_end]
      have HRE := Lib.hid hRE
      clear hRE HC hb hm
      by_cases hn0 : n = 0
      · subst hn0
        have ho : o = [] := List.eq_nil_of_length_eq_zero HN.out
        have hR : R = (0, 12) := by rw [HRE.out, ho]; rfl
        have HRR := Lib.hid hR
        clear hR ho
        go_wp2_with fail
        go_at_call 56
        refine (ty_at_neg wr A 0 c).mono ?_
        rintro e w5 ⟨rfl, hb5⟩
        have HB5 := Lib.hid (HB.out.trans (hb5.mono hsz))
        clear hb5
        go_wp2_with fail
        go_ret2
        exact ⟨by rw [HRR.out]; rfl, HB5.out⟩
      · obtain ⟨m, hm1⟩ : ∃ m, n = m + 1 := ⟨n - 1, by omega⟩
        have hsub : (n : Int) - 1 = (m : Int) := by omega
        have hmax : max (m : Int) 0 = (m : Int) := by omega
        have KT := Lib.hid (ty_at wr A n c o HN.out hc hn4 (HR.out.below HB.out) HOP.out (HY.out.below HB.out HY.out.lt) m (by omega))
        have HM1 := Lib.hid hm1
        obtain ⟨t, ht⟩ : ∃ t, t = typAt o m := ⟨_, rfl⟩
        rw [← ht] at KT
        have HTT := Lib.hid ht
        clear hm1 ht
        go_wp2_with fail
        go_at_call 56
        refine KT.out.mono ?_
        rintro e w5 ⟨rfl, hb5⟩
        have HB5 := Lib.hid (HB.out.trans (hb5.mono hsz))
        clear hb5 KT
        by_cases h2 : t = 2
        · subst h2
          have hR : R = (0, 0) := by rw [HRE.out]; unfold chkEnd; rw [HN.out, HM1.out, Nat.add_sub_cancel, ← HTT.out]; rfl
          have HRR := Lib.hid hR
          clear hR
          go_wp2_with fail
          go_ret2
          exact ⟨by rw [HRR.out]; rfl, HB5.out⟩
        · have hR : R = (m, 12) := by rw [HRE.out]; unfold chkEnd; rw [HN.out, HM1.out, Nat.add_sub_cancel, ← HTT.out, if_neg h2]
          have h2I : ((t : Int) == 2) = false := by rw [beq_eq_false_iff_ne]; omega
          have h2J : ¬ (t : Int) = 2 := by omega
          have HRR := Lib.hid hR
          clear hR h2
          go_wp2_with fail
          go_ret2
          exact ⟨by rw [HRR.out]; rfl, HB5.out⟩
end
/- Layer 8: the program's Compile. -/
section
open Go.RowKit Go.Maps

theorem parse_names {l : List Tok} (hT : TokOk l) : ∀ x ∈ (parse l).1, x.name.size ≤ 100000 ∧ x.attr.size ≤ 100000 := by
  have h := pR_inv l (fun x => x.name.size ≤ 100000 ∧ x.attr.size ≤ 100000) (fun _ _ _ => ⟨by show 0 ≤ _; omega, by show 0 ≤ _; omega⟩) ⟨by show 0 ≤ _; omega, by show 0 ≤ _; omega⟩ ⟨by show 0 ≤ _; omega, by show 0 ≤ _; omega⟩
    (fun t ht _ _ _ => ⟨by have := hT.sz t ht; show t.text.size ≤ _; omega, by show 0 ≤ _; omega⟩) (fun t ht u hu _ _ _ _ => ⟨by have := hT.sz t ht; show t.text.size ≤ _; omega, by have := hT.sz u hu; show u.text.size ≤ _; omega⟩) (fun o a b _ => ⟨by show 0 ≤ _; omega, by show 0 ≤ _; omega⟩) _ _ _ _ (pRun_some l) (fun x hx => by cases hx)
  intro x hx
  unfold parse at hx
  split at hx
  · cases hx
  · split at hx
    · cases hx
    · exact h x hx
def RetCm (R : List Nd × Nat) (m : Nat) (w : World) (e : Ending) (w' : World) : Prop := ∃ A c, e = .returned (.tuple #[.slice A m c, .int .i64 (R.2 : Nat)]) ∧ m = R.1.length ∧ m ≤ c ∧ NodR w' A R.1 ∧ Below w.heap.size w w'
set_option maxRecDepth 100000 in
set_option maxHeartbeats 4000000 in
theorem ty_Compile (w : World) (s : ByteArray) (hs : s.size < 9223372036854775807) (A2 : Option Addr) (n2 c2 : Nat) (vs : List (ByteArray × ByteArray)) (hn2 : vs.length = n2) (hc2 : n2 ≤ c2) (hn24 : n2 ≤ 100000) (h2 : VarR w A2 vs) (hvs : VarS vs) (hy1 : Syms w) (hy2 : SymY w) (hy3 : TypY w) :
    Calls Tryd.prog 20 #[.string s, .slice A2 n2 c2] w (RetCm (cmpl s vs) (cmpl s vs).1.length w) := by
  have K1 := Lib.hid (lx_scan s hs w hy1)
  have hlt1 := hy2.lt
  have hlt2 := hy3.lt
  have HY2 := Lib.hid hy2
  have HY3 := Lib.hid hy3
  have HV := Lib.hid h2
  have HVS := Lib.hid hvs
  have HN2 := Lib.hid hn2
  obtain ⟨R, hR⟩ : ∃ R, R = cmpl s vs := ⟨_, rfl⟩
  rw [← hR]
  have HR := Lib.hid hR
  clear hy1 hy2 hy3 h2 hvs hn2 hR
  by_cases h0 : s.size = 0
  · obtain rfl : s = ⟨#[]⟩ := by
      apply ba_ext
      have := bl_len s
      rw [h0] at this
      exact List.eq_nil_of_length_eq_zero this
    have hRe : R = ([⟨2, 0, 0, ⟨#[]⟩, ⟨#[]⟩, 1⟩], 0) := HR.out
    have HRe := Lib.hid hRe
    clear hRe h0 K1 hs
    go_enter Tryd.func20, Tryd.ntmps20
    go_wp2_with fail
    go_at_call 32
    refine (of_any 1 (by decide) _).mono ?_
    rintro e w1 ⟨rfl, hb1⟩
    have HB1 := Lib.hid hb1
    clear hb1
    go_wp2_with fail
    go_ret2
    refine ⟨some ⟨w1.heap.size, 0, none⟩, 1, by rw [HRe.out]; rfl, by rw [HRe.out], by rw [HRe.out]; exact Nat.le_refl 1, ?_, HB1.out.alloc HB1.out.size _⟩
    rw [HRe.out]
    refine ⟨.inr ⟨w1.heap.size, rfl, by simp, fun k hk j hj => ?_⟩⟩
    obtain rfl : k = 0 := by simp at hk; omega
    rw [Nat.zero_mul, Nat.zero_add, World.cell?_alloc_new]
    have : j = 0 ∨ j = 1 ∨ j = 2 ∨ j = 3 ∨ j = 4 ∨ j = 5 ∨ j = 6 := by omega
    rcases this with rfl | rfl | rfl | rfl | rfl | rfl | rfl <;> rfl
  · have hse : (s.toList == []) = false := by
      rw [beq_eq_false_iff_ne]
      intro e
      have := bl_len s
      unfold bl at this
      rw [ByteArray.toList_eq] at e
      rw [e] at this
      simp at this; omega
    have hse2 : ¬ s.toList = [] := by simpa using hse
    have hse3 : s.toList.isEmpty = false := by
      cases hh : s.toList
      · exact absurd hh hse2
      · rfl
    have hTok := scan_tokOk s
    have hGood := scan_tokGood s
    have hsl := scan_len s
    obtain ⟨⟨l, ri, rc⟩, hS⟩ : ∃ R, scan s = R := ⟨_, rfl⟩
    have hRe : R = if rc ≠ 0 then ([], rc) else if (parse l).2.2 ≠ 0 then ([], (parse l).2.2) else if (chk (parse l).1 vs).2 ≠ 0 then ([], (chk (parse l).1 vs).2) else ((parse l).1, 0) := by
      rw [HR.out]; unfold cmpl; rw [if_neg h0, hS]
    rw [hS] at K1 hTok hGood hsl
    simp only at hTok hGood hsl
    obtain ⟨n, hn⟩ : ∃ n, n = l.length := ⟨_, rfl⟩
    have HRe := Lib.hid hRe
    have HTok := Lib.hid hTok
    have HGood := Lib.hid hGood
    have hn4 : n ≤ 400 := by omega
    have HN := Lib.hid hn
    clear hRe hTok hGood hS hsl hn HR
    go_enter Tryd.func20, Tryd.ntmps20
    go_wp2_with fail
    go_at_call 33
    refine K1.out.mono ?_
    rintro e w1 ⟨A1, c1, he, hO1, hb1⟩
    have he2 : e = .returned (.tuple #[.slice A1 n c1, .int .i64 (ri : Nat), .int .i64 (rc : Nat)]) := by rw [HN.out]; exact he
    subst he2
    have hc1 : n ≤ c1 := by rw [HN.out]; exact own_le hO1
    have T1 := Lib.hid (tokR_own hO1 rfl)
    have HB1 := Lib.hid hb1
    have h1 := hb1.size
    clear he hO1 hb1 K1
    by_cases hrc : rc = 0
    · subst hrc
      have HTO := Lib.hid (HTok.out rfl)
      have K3 := Lib.hid (py_Parse w1 A1 n c1 l HN.out.symm hc1 HTO.out T1.out.atB (HY2.out.below HB1.out hlt1))
      have hNames := parse_names HTO.out
      have hTro := parse_tro (HGood.out rfl)
      have hpl := parse_len l
      obtain ⟨⟨o, pi, pc⟩, hP⟩ : ∃ R, parse l = R := ⟨_, rfl⟩
      have hRe : R = if pc ≠ 0 then ([], pc) else if (chk o vs).2 ≠ 0 then ([], (chk o vs).2) else (o, 0) := by
        rw [HRe.out, if_neg (by simp), hP]
      rw [hP] at K3 hNames hTro hpl
      simp only at hNames hTro hpl
      obtain ⟨m, hm⟩ : ∃ m, m = o.length := ⟨_, rfl⟩
      have hm4 : m ≤ 400 := by have := HN.out; omega
      have HM := Lib.hid hm
      have HNm := Lib.hid hNames
      have HTr := Lib.hid hTro
      have HRe2 := Lib.hid hRe
      clear hRe HRe hP hNames hTro hpl hm
      go_wp2_with fail
      go_at_call 34
      refine K3.out.mono ?_
      rintro e w3 ⟨A3, c3, he, hl3, hn3, hb3⟩
      have he2 : e = .returned (.tuple #[.slice A3 m c3, .int .i64 (pi : Nat), .int .i64 (pc : Nat)]) := by rw [HM.out]; exact he
      subst he2
      have N3 := Lib.hid hn3
      have hc3 : m ≤ c3 := by rw [HM.out]; exact hl3
      have HB3 := Lib.hid (HB1.out.trans (hb3.mono h1))
      have h3 := HB3.out.size
      clear he hn3 hb3 hl3 K3
      by_cases hpc : pc = 0
      · subst hpc
        have K4 := Lib.hid (ty_Check w3 A3 A2 m c3 n2 c2 o vs HM.out.symm hc3 (by omega) N3.out HTr.out HNm.out HN2.out hc2 hn24 (HV.out.below HB3.out) HVS.out (HY3.out.below HB3.out hlt2))
        obtain ⟨⟨ci, cc⟩, hC⟩ : ∃ R, chk o vs = R := ⟨_, rfl⟩
        have hRe : R = if cc ≠ 0 then ([], cc) else (o, 0) := by rw [HRe2.out, if_neg (by simp), hC]
        rw [hC] at K4
        have HRe3 := Lib.hid hRe
        clear hRe HRe2 hC
        go_wp2_with fail
        go_at_call 35
        refine K4.out.mono ?_
        rintro e w4 ⟨he, hb4⟩
        have he2 : e = .returned (.tuple #[.int .i64 (ci : Nat), .int .i64 (cc : Nat)]) := he
        subst he2
        have HB4 := Lib.hid (HB3.out.trans (hb4.mono h3))
        have N4 := Lib.hid (N3.out.below hb4)
        clear he hb4 K4
        by_cases hcc : cc = 0
        · subst hcc
          have hRe : R = (o, 0) := by rw [HRe3.out, if_neg (by simp)]
          have HRe4 := Lib.hid hRe
          clear hRe HRe3
          go_wp2_with fail
          go_ret2
          exact ⟨A3, c3, by rw [HRe4.out, HM.out]; rfl, rfl, by rw [HRe4.out]; show o.length ≤ _; rw [← HM.out]; exact hc3, by rw [HRe4.out]; exact N4.out, HB4.out⟩
        · have hccI : ((cc : Int) != 0) = true := by simp; omega
          have hccJ : ¬ (cc : Int) = 0 := by omega
          have hRe : R = ([], cc) := by rw [HRe3.out, if_pos hcc]
          have HRe4 := Lib.hid hRe
          clear hRe HRe3
          go_wp2_with fail
          go_ret2
          exact ⟨none, 0, by rw [HRe4.out]; rfl, rfl, by rw [HRe4.out]; exact Nat.le_refl 0, by rw [HRe4.out]; exact ⟨.inl rfl⟩, HB4.out⟩
      · have hpcI : ((pc : Int) != 0) = true := by simp; omega
        have hpcJ : ¬ (pc : Int) = 0 := by omega
        have hRe : R = ([], pc) := by rw [HRe2.out, if_pos hpc]
        have HRe4 := Lib.hid hRe
        clear hRe HRe2
        go_wp2_with fail
        go_ret2
        exact ⟨none, 0, by rw [HRe4.out]; rfl, rfl, by rw [HRe4.out]; exact Nat.le_refl 0, by rw [HRe4.out]; exact ⟨.inl rfl⟩, HB3.out⟩
    · have hrcI : ((rc : Int) != 0) = true := by simp; omega
      have hrcJ : ¬ (rc : Int) = 0 := by omega
      have hRe : R = ([], rc) := by rw [HRe.out, if_pos hrc]
      have HRe4 := Lib.hid hRe
      clear hRe HRe
      go_wp2_with fail
      go_ret2
      exact ⟨none, 0, by rw [HRe4.out]; rfl, rfl, by rw [HRe4.out]; exact Nat.le_refl 0, by rw [HRe4.out]; exact ⟨.inl rfl⟩, HB1.out⟩
end
/- Layer 8's laws: begun; some. -/
section
open Go.RowKit Go.Maps

def bgK : List KeyN := [⟨⟨#[97]⟩, 0, 1⟩]
def bg1 : ByteArray := ⟨#[97, 32, 43, 32, 49]⟩
def bg2 : ByteArray := ⟨#[97, 58, 58, 109, 97, 115, 107, 32, 62, 32, 48]⟩
set_option maxRecDepth 1000000 in
theorem bg1_is : cmpl bg1 (tvars bgK) = ([], 12) := by kernel_rfl
set_option maxRecDepth 1000000 in
theorem bg2_is : cmpl bg2 (tvars bgK) = ([], 6) := by kernel_rfl
theorem bg3_is : cmpl ⟨#[]⟩ (tvars bgK) = ([⟨2, 0, 0, ⟨#[]⟩, ⟨#[]⟩, 1⟩], 0) := by kernel_rfl
set_option maxRecDepth 100000 in
set_option maxHeartbeats 4000000 in
theorem ty_begun (w : World) (hy : Syms w) (hy2 : SymY w) (hy3 : TypY w) : Calls Tryd.prog 11 #[] w (RetX (.bool true) w) := by
  have HY1 := Lib.hid hy
  have HY2 := Lib.hid hy2
  have HY3 := Lib.hid hy3
  have hS : VarS (tvars bgK) := by
    intro v hv
    have e : tvars bgK = [(⟨#[97]⟩, ⟨#[]⟩), (⟨#[97]⟩, sValue), (sPrio, ⟨#[]⟩)] := rfl
    rw [e] at hv
    simp only [List.mem_cons, List.not_mem_nil, or_false] at hv
    rcases hv with rfl | rfl | rfl <;> exact ⟨by decide, by decide⟩
  have HVS := Lib.hid hS
  clear hy hy2 hy3 hS
  go_enter Tryd.func11, Tryd.ntmps11
  go_wp2_with fail
  go_at_call 7
  have hk : KeyR (w.alloc (.cells #[.string ⟨#[97]⟩, .int .i64 0, .int .i64 1] 66)) (some ⟨w.heap.size, 0, none⟩) bgK := by
    refine ⟨.inr ⟨w.heap.size, 0, rfl, by simp, fun k v hv => ?_⟩⟩
    rcases k with _ | k
    · injection hv with hv
      subst hv
      refine ⟨?_, ?_, ?_⟩ <;> (rw [World.cell?_alloc_new]; rfl)
    · simp [bgK] at hv
  refine (ty_TableVars (w.alloc (.cells #[.string ⟨#[97]⟩, .int .i64 0, .int .i64 1] 66)) 0 0 0 ⟨#[]⟩ ⟨#[]⟩ (some ⟨w.heap.size, 0, none⟩) 1 1 (.slice none 0 0) (.slice none 0 0) bgK rfl (by omega) (by omega) hk (fun k hk => by
    have : k = ⟨⟨#[97]⟩, 0, 1⟩ := by simpa [bgK] using hk
    subst this
    show 1 ≤ 100000
    omega)).mono ?_
  rintro e w1 ⟨A1, c1, he, hc1, hv1, hb1⟩
  have he2 : e = .returned (.slice A1 3 c1) := he
  subst he2
  have hc13 : 3 ≤ c1 := hc1
  have HB1 : Hid (Below w.heap.size w w1) := Lib.hid (((Below.refl _ w).alloc (Nat.le_refl _) _).trans (hb1.mono (by simp)))
  have HV1 := Lib.hid hv1
  have h1 := HB1.out.size
  clear he hk hc1 hv1 hb1
  have K1 : Hid (∀ (s : ByteArray) (hs : s.size < 100) W, Below w1.heap.size w1 W → Calls Tryd.prog 20 #[.string s, .slice A1 3 c1] W (RetCm (cmpl s (tvars bgK)) (cmpl s (tvars bgK)).1.length W)) := Lib.hid fun s hs W hW =>
    ty_Compile W s (by omega) A1 3 c1 (tvars bgK) rfl hc13 (by omega) (HV1.out.below hW) HVS.out ((HY1.out.below HB1.out HY1.out.lt).below hW (Nat.lt_of_lt_of_le HY1.out.lt h1)) ((HY2.out.below HB1.out HY2.out.lt).below hW (Nat.lt_of_lt_of_le HY2.out.lt h1)) ((HY3.out.below HB1.out HY3.out.lt).below hW (Nat.lt_of_lt_of_le HY3.out.lt h1))
  have KA := Lib.hid (K1.out bg1 (by decide) w1 (Below.refl _ _))
  rw [bg1_is] at KA
  go_wp2_with fail
  go_at_call 20
  refine KA.out.mono ?_
  rintro e w2 ⟨A2, c2, he, _, _, _, hb2⟩
  have he2 : e = .returned (.tuple #[.slice A2 0 c2, .int .i64 12]) := he
  subst he2
  have HB2 := Lib.hid hb2
  have KB := Lib.hid (K1.out bg2 (by decide) w2 hb2)
  rw [bg2_is] at KB
  clear he hb2 KA
  go_wp2_with fail
  go_at_call 20
  refine KB.out.mono ?_
  rintro e w3 ⟨A3, c3, he, _, _, _, hb3⟩
  have he2 : e = .returned (.tuple #[.slice A3 0 c3, .int .i64 6]) := he
  subst he2
  have HB3 := Lib.hid (HB2.out.trans (hb3.mono HB2.out.size))
  have KC := Lib.hid (K1.out ⟨#[]⟩ (by decide) w3 HB3.out)
  rw [bg3_is] at KC
  clear he hb3 KB
  go_wp2_with fail
  go_at_call 20
  refine KC.out.mono ?_
  rintro e w4 ⟨A4, c4, he, _, _, _, hb4⟩
  have he2 : e = .returned (.tuple #[.slice A4 1 c4, .int .i64 0]) := he
  subst he2
  have HB4 := Lib.hid (HB1.out.trans ((HB3.out.trans (hb4.mono HB3.out.size)).mono h1))
  clear he hb4 KC
  go_wp2_with fail
  go_ret
  exact ⟨by first | rfl | simp, HB4.out⟩
def sixV : List (ByteArray × ByteArray) := [(⟨#[97]⟩, ⟨#[]⟩), (⟨#[98]⟩, ⟨#[]⟩), (⟨#[100]⟩, sPrefix), (⟨#[101]⟩, sMask), (⟨#[102]⟩, sHigh), (sPrio, ⟨#[]⟩)]
theorem six_sz : ∀ v ∈ sixV, v.1.size ≤ 100000 ∧ v.2.size ≤ 100000 := by
  intro v hv
  simp only [sixV, List.mem_cons, List.not_mem_nil, or_false] at hv
  rcases hv with rfl | rfl | rfl | rfl | rfl | rfl <;> exact ⟨by decide, by decide⟩
def sixA : Array Value := #[.string ⟨#[97]⟩, .string ⟨#[]⟩, .string ⟨#[98]⟩, .string ⟨#[]⟩, .string ⟨#[100]⟩, .string sPrefix, .string ⟨#[101]⟩, .string sMask, .string ⟨#[102]⟩, .string sHigh, .string sPrio, .string ⟨#[]⟩]
theorem six_at : ∀ k, k < 6 → ∃ v, sixV[k]? = some v ∧ sixA[k * 2]? = some (.string v.1) ∧ sixA[k * 2 + 1]? = some (.string v.2) := by
  intro k hk
  have : k = 0 ∨ k = 1 ∨ k = 2 ∨ k = 3 ∨ k = 4 ∨ k = 5 := by omega
  rcases this with rfl | rfl | rfl | rfl | rfl | rfl <;> exact ⟨_, rfl, rfl, rfl⟩
def RetSm (w : World) (e : Ending) (w' : World) : Prop := ∃ vs A c n, e = .returned (.slice A n c) ∧ n = vs.length ∧ n ≤ c ∧ n ≤ 6 ∧ VarS vs ∧ VarR w' A vs ∧ Below w.heap.size w w'
end
end Go.Proofs.YtodmkmoglchoeaaDoor
