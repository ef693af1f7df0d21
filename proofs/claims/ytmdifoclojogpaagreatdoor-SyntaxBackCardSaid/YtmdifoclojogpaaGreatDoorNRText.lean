/- matchguardref05: Text. -/
import Derived.Test.YtmdifoclojogpaaGreatDoorJNRef
namespace Go.Proofs.YtmdifoclojogpaaGreatDoor
open Go.RowKit

theorem strN_snoc (l : List Int) (x : Int) : strN (l ++ [x]) = strN l ++ strN [x] := by
  unfold strN
  rw [List.foldl_append]
  apply ByteArray.ext
  simp
theorem cd_dg {n : Nat} (h : n ≠ 0) : cd n = dg n := by unfold cd; rw [if_neg h]
theorem strN_len (l : List Int) : (strN l).size = l.length := by
  have h : ∀ (l : List Int) (a : ByteArray), (l.foldl (fun r n => r.push (UInt8.ofNat n.toNat)) a).size = a.size + l.length := by
    intro l
    induction l with
    | nil => intro a; rfl
    | cons x t ih => intro a; rw [List.foldl_cons, ih, ByteArray.size_push, List.length_cons]; omega
  have := h l ByteArray.empty
  simpa [strN] using this
/-- the text of the digits from k on -/
def ts (sg : List Int) (D : List Nat) (k : Nat) : List Int := sg ++ ((D.drop k).reverse.map fun d : Nat => 48 + (d : Int))
theorem ts_len (sg : List Int) (D : List Nat) (k : Nat) : (ts sg D k).length ≤ sg.length + D.length := by unfold ts; simp
theorem ts_step (sg : List Int) (D : List Nat) (k : Nat) (hk : k < D.length) : ts sg D k = ts sg D (k + 1) ++ [48 + ((gd D k : Nat) : Int)] := by
  unfold ts gd
  rw [List.drop_eq_getElem_cons hk, List.reverse_cons, List.map_append, List.append_assoc, List.getD_eq_getElem?_getD, List.getElem?_eq_getElem hk]
  rfl
theorem ts_end (sg : List Int) (D : List Nat) : ts sg D D.length = sg := by unfold ts; simp
set_option maxRecDepth 100000 in
set_option maxHeartbeats 2000000 in
theorem ri_text (w : World) (s : Bool) (A : Option Addr) (n c : Nat) (z : Int) (h : IntS w s A n c z) :
    Calls Tryz.prog 71 #[.agg #[.bool s, .slice A n c]] w (RetX (.string (strN (tl z))) w) := by
  obtain ⟨hs, hn, hc, hl, hD⟩ := h
  have HS := Lib.hid hs
  have HN := Lib.hid hn
  have HD := Lib.hid hD
  have E0 : Hid (ts (if s then [45] else []) (cd z.natAbs) n = if s then [45] else []) := Lib.hid (by rw [← hn]; exact ts_end _ _)
  have em : (strN []) = ByteArray.empty := rfl
  have hm : strN [45] = ⟨#[45]⟩ := rfl
  have EM := Lib.hid em
  have HM := Lib.hid hm
  clear hs hn hD em hm
  cases s
  all_goals
    go_enter Tryz.func71, Tryz.ntmps71
    go_wp2
  · go_loopw [3, 4] (fun t i w' => ∃ k : Nat, k ≤ n ∧ i = .int .i64 ((k : Int) - 1) ∧ t = .string (strN (ts [] (cd z.natAbs) k)) ∧ Below w.heap.size w w' ∧ w'.cell? ⟨w.heap.size, 1, none⟩ = some (.slice A n c)) (fun _ i _ => (intOf i + 1).toNat)
    case atStart => exact ⟨n, Nat.le_refl _, rfl, by have := E0.out; simp only [Bool.false_eq_true, if_false] at this; rw [this, EM.out]; rfl, (Below.refl _ _).alloc (by simp) _, by simp [go_sem]⟩
    case round =>
      obtain ⟨k1, hk, rfl, rfl, hB, cA⟩ := hrel
      have HB := Lib.hid hB
      have hsz := hB.size
      clear hB
      cases k1 with
      | zero =>
        have hz : ¬ z < 0 := by have := HS.out; simpa using this
        by_cases hn0 : n = 0
        · have hz0 := (cd_len_zero (z := z) HN.out).1 hn0
          have hfin : Hid (strN (tl z) = ⟨#[48]⟩) := Lib.hid (by subst hz0; unfold tl; rw [if_neg (by decide), Int.natAbs_zero, dg_lo (by decide)]; rfl)
          subst hn0
          clear hz hz0
          go_wp2
          go_ret
          exact ⟨by rw [hfin.out]; rfl, HB.out⟩
        · have hn1 : ((n : Int) == 0) = false := by rw [beq_eq_false_iff_ne]; omega
          have hzn : z.natAbs ≠ 0 := fun e => hn0 ((cd_len_zero (z := z) HN.out).2 (by omega))
          have hfin : Hid (strN (ts [] (cd z.natAbs) 0) = strN (tl z)) := Lib.hid (by unfold ts tl; rw [if_neg hz, cd_dg hzn, List.drop_zero])
          clear hz hn0 hzn
          go_wp2
          go_ret
          exact ⟨by rw [← hfin.out]; rfl, HB.out⟩
      | succ k =>
        have ek : ((k + 1 : Nat) : Int) - 1 = (k : Int) := by omega
        rw [ek]
        obtain ⟨d, hd⟩ : ∃ d, gd (cd z.natAbs) k = d := ⟨_, rfl⟩
        have hd9 : d < 10 := by rw [← hd]; exact sm_getD (sm_cd _) _
        obtain ⟨b, hA, _, hcell⟩ := (HD.out.below HB.out).at k (by rw [HN.out]; omega)
        rw [hd] at hcell
        subst hA
        have hcat : ¬ 9223372036854775807 < (strN (ts [] (cd z.natAbs) (k + 1))).size + (strN [48 + (d : Int)]).size := by
          rw [strN_len, strN_len]
          have := ts_len [] (cd z.natAbs) (k + 1)
          rw [HN.out] at this
          simp only [List.length_cons, List.length_nil] at this ⊢
          omega
        have hT : Hid (ts [] (cd z.natAbs) k = ts [] (cd z.natAbs) (k + 1) ++ [48 + (d : Int)]) := Lib.hid (by rw [← hd]; exact ts_step _ _ _ (by rw [HN.out]; omega))
        have hby := byte_add d hd9
        have hkn : (k : Int) < (n : Int) := by omega
        have kc : (convert 22 9 (.slice (some ⟨wr.heap.size, 0, none⟩) 1 1)).run Tryz.prog (wr.alloc (.cells #[.int .u8 (48 + (d : Int))] 5)) = .ok (.string (strN [48 + (d : Int)])) (wr.alloc (.cells #[.int .u8 (48 + (d : Int))] 5)) :=
          conv_row (base := 0) [48 + (d : Int)] (World.ownsRow_lit wr #[.int .u8 (48 + (d : Int))] 1 (Nat.zero_le _) (by decide) rfl) (by omega)
        clear ek hd
        go_wp2
        go_roundw
        case rel =>
          go_light
          exact ⟨k, by omega, rfl, by rw [hT.out, strN_snoc], HB.out.alloc hsz _, by rw [World.cell?_alloc_past _ _ _ (World.block_lt_of_cell? wr _ cA)]; exact cA⟩
        case measure => simp [intOf]

  · go_loopw [3, 4] (fun t i w' => ∃ k : Nat, k ≤ n ∧ i = .int .i64 ((k : Int) - 1) ∧ t = .string (strN (ts [45] (cd z.natAbs) k)) ∧ Below w.heap.size w w' ∧ w'.cell? ⟨w.heap.size, 1, none⟩ = some (.slice A n c)) (fun _ i _ => (intOf i + 1).toNat)
    case atStart => exact ⟨n, Nat.le_refl _, rfl, by have := E0.out; simp only [if_true] at this; rw [this, HM.out], (Below.refl _ _).alloc (by simp) _, by simp [go_sem]⟩
    case round =>
      obtain ⟨k1, hk, rfl, rfl, hB, cA⟩ := hrel
      have HB := Lib.hid hB
      have hsz := hB.size
      clear hB
      cases k1 with
      | zero =>
        have hz : z < 0 := by have := HS.out; simpa using this
        have hn0 : ((n : Int) == 0) = false := by
          rw [beq_eq_false_iff_ne]
          intro e
          have := (cd_len_zero (z := z) HN.out).1 (by omega)
          omega
        have hfin : Hid (strN (ts [45] (cd z.natAbs) 0) = strN (tl z)) := Lib.hid (by unfold ts tl; rw [if_pos hz, cd_dg (by omega), List.drop_zero])
        clear hz
        go_wp2
        go_ret
        exact ⟨by rw [← hfin.out]; rfl, HB.out⟩
      | succ k =>
        have ek : ((k + 1 : Nat) : Int) - 1 = (k : Int) := by omega
        rw [ek]
        obtain ⟨d, hd⟩ : ∃ d, gd (cd z.natAbs) k = d := ⟨_, rfl⟩
        have hd9 : d < 10 := by rw [← hd]; exact sm_getD (sm_cd _) _
        obtain ⟨b, hA, _, hcell⟩ := (HD.out.below HB.out).at k (by rw [HN.out]; omega)
        rw [hd] at hcell
        subst hA
        have hcat : ¬ 9223372036854775807 < (strN (ts [45] (cd z.natAbs) (k + 1))).size + (strN [48 + (d : Int)]).size := by
          rw [strN_len, strN_len]
          have := ts_len [45] (cd z.natAbs) (k + 1)
          rw [HN.out] at this
          simp only [List.length_cons, List.length_nil] at this ⊢
          omega
        have hT : Hid (ts [45] (cd z.natAbs) k = ts [45] (cd z.natAbs) (k + 1) ++ [48 + (d : Int)]) := Lib.hid (by rw [← hd]; exact ts_step _ _ _ (by rw [HN.out]; omega))
        have hby := byte_add d hd9
        have hkn : (k : Int) < (n : Int) := by omega
        have kc : (convert 22 9 (.slice (some ⟨wr.heap.size, 0, none⟩) 1 1)).run Tryz.prog (wr.alloc (.cells #[.int .u8 (48 + (d : Int))] 5)) = .ok (.string (strN [48 + (d : Int)])) (wr.alloc (.cells #[.int .u8 (48 + (d : Int))] 5)) :=
          conv_row (base := 0) [48 + (d : Int)] (World.ownsRow_lit wr #[.int .u8 (48 + (d : Int))] 1 (Nat.zero_le _) (by decide) rfl) (by omega)
        clear ek hd
        go_wp2
        go_roundw
        case rel =>
          go_light
          exact ⟨k, by omega, rfl, by rw [hT.out, strN_snoc], HB.out.alloc hsz _, by rw [World.cell?_alloc_past _ _ _ (World.block_lt_of_cell? wr _ cA)]; exact cA⟩
        case measure => simp [intOf]

end Go.Proofs.YtmdifoclojogpaaGreatDoor
