/- The sanity check of layer 6; Mod; a text of parentheses. -/
import Derived.Test.YtoiofbpmgihkfaaDoorLScan
namespace Go.Proofs.YtoiofbpmgihkfaaDoor
open Go.RowKit

/-- the chapter's example -/
def exS : ByteArray := ⟨#[97, 58, 58, 109, 97, 115, 107, 33, 61, 48, 120, 49, 102]⟩
def exL : List Tok := [⟨2, ⟨#[97]⟩, 0⟩, ⟨3, ⟨#[58, 58]⟩, 1⟩, ⟨2, ⟨#[109, 97, 115, 107]⟩, 3⟩, ⟨3, ⟨#[33, 61]⟩, 7⟩, ⟨1, ⟨#[48, 120, 49, 102]⟩, 9⟩]
set_option maxRecDepth 100000 in
theorem ex_scan : scan exS = (exL, 0, 0) := by kernel_rfl
set_option maxRecDepth 100000 in
set_option maxHeartbeats 2000000 in
theorem lx_begun (w : World) (hy : Syms w) : Calls Tryd.prog 17 #[] w (RetX (.bool true) w) := by
  have K : Hid (Calls Tryd.prog 14 #[.string ⟨#[97, 58, 58, 109, 97, 115, 107, 33, 61, 48, 120, 49, 102]⟩] w (RetScan (exL, 0, 0) w)) := Lib.hid (by
    have h := lx_scan exS (by decide) w hy
    rw [ex_scan] at h
    exact h)
  go_enter Tryd.func17, Tryd.ntmps17
  go_wp2_with fail
  go_at_call 14
  refine K.out.mono ?_
  rintro e w1 ⟨A, cap, he, hO, hb⟩
  have he2 : e = .returned (.tuple #[.slice A 5 cap, .int .i64 0, .int .i64 0]) := he
  subst he2
  have hO2 : w1.ownsRow w.heap.size 39 3 (.slice A 5 cap) 5 (tcells exL) := hO
  obtain ⟨g, c, hv, hge, hl⟩ := hO2.form (by decide)
  injection hv with e1 e2 e3
  subst e1
  have c10 : w1.cell? ⟨g, 10, none⟩ = some (.string ⟨#[33, 61]⟩) := by rw [hO2.cellAt 10 (by decide)]; rfl
  have c12 : w1.cell? ⟨g, 12, none⟩ = some (.int .i64 1) := by rw [hO2.cellAt 12 (by decide)]; rfl
  have c14 : w1.cell? ⟨g, 14, none⟩ = some (.int .i64 9) := by rw [hO2.cellAt 14 (by decide)]; rfl
  have HBb := Lib.hid hb
  clear he hO hO2 e2 e3 hb
  go_wp2
  go_ret
  exact ⟨by first | rfl | simp, HBb.out⟩
/-- Mod at 3 -/
def md (n : Int) : Nat := ((n.tmod 3 + 3).tmod 3).toNat
theorem tm3 (n : Int) : -2 ≤ n.tmod 3 ∧ n.tmod 3 ≤ 2 := by
  have h1 := Int.tmod_lt_of_pos n (show (0 : Int) < 3 by decide)
  have h2 : -3 < n.tmod 3 := by
    have := Int.lt_tmod_of_pos n (show (0 : Int) < 3 by decide)
    omega
  omega
theorem md_lt (n : Int) : md n < 3 := by
  have h := tm3 n
  unfold md
  have := Int.tmod_lt_of_pos (n.tmod 3 + 3) (show (0 : Int) < 3 by decide)
  omega
set_option maxRecDepth 100000 in
set_option maxHeartbeats 2000000 in
theorem cs_mod3 (n : Int) (w : World) : Calls Tryd.prog 13 #[.int .i64 n, .int .i64 3] w fun e w' => e = .returned (.int .i64 (md n : Nat)) ∧ w = w' := by
  obtain ⟨t, ht⟩ : ∃ t, n.tmod 3 = t := ⟨_, rfl⟩
  have hb := tm3 n
  rw [ht] at hb
  have hw : IntKind.i64.wrap (t + 3) = t + 3 := IntWalk.i64_in _ (by omega)
  have hm : (t + 3).tmod 3 = (md n : Int) := by
    unfold md
    rw [ht, Int.tmod_eq_emod_of_nonneg (by omega)]
    omega
  generalize md n = m at hm ⊢
  go_enter Tryd.func13, Tryd.ntmps13
  go_wp2
  go_ret
  exact ⟨rfl, rfl⟩
theorem pr_dl0 (ns : List Int) : ∀ (s : ByteArray), (ns.foldl (fun r n => r.push (UInt8.ofNat n.toNat)) s).data.toList = s.data.toList ++ ns.map fun n => UInt8.ofNat n.toNat := by
  induction ns with
  | nil => intro s; simp
  | cons x t ih => intro s; rw [List.foldl_cons, ih]; simp
theorem pr_dl (ns : List Int) : (strN ns).data.toList = ns.map fun n => UInt8.ofNat n.toNat := by
  unfold strN; rw [pr_dl0]; rfl
theorem pr_get (s : ByteArray) (i : Nat) (h : i < s.size) : s.data.toList[i]? = some (s[i]'h) := by
  rw [Array.getElem?_toList, Array.getElem?_eq_getElem h]; rfl
theorem pr_len (l : List Int) : (strN l).size = l.length := by
  rw [ByteArray.size, ← Array.length_toList, pr_dl, List.length_map]
theorem pr_snoc (l : List Int) (x : Int) : strN (l ++ [x]) = strN l ++ strN [x] := by
  apply ByteArray.ext
  apply Array.ext'
  rw [ByteArray.data_append, Array.toList_append, pr_dl, pr_dl, pr_dl, List.map_append]
/-- n parentheses -/
def par (n : Nat) : ByteArray := strN (List.replicate n 40)
theorem par_size (n : Nat) : (par n).size = n := by unfold par; rw [pr_len]; simp
theorem par_succ (n : Nat) : par (n + 1) = par n ++ ⟨#[40]⟩ := by
  unfold par
  rw [List.replicate_succ', pr_snoc]
  rfl
theorem bt_of (s : ByteArray) (i : Nat) (b : UInt8) (h : s.data.toList[i]? = some b) : bt s i = b.toNat := by
  have hi : i < s.size := by
    have := (List.getElem?_eq_some_iff.1 h).1
    rwa [Array.length_toList] at this
  rw [pr_get s i hi] at h
  injection h with h
  rw [← bt_at s i hi, h]
theorem par_bt (n a : Nat) (h : a < n) : bt (par n) a = 40 := by
  have e : (par n).data.toList[a]? = some (UInt8.ofNat (40 : Int).toNat) := by
    unfold par; rw [pr_dl]; simp [h]
  rw [bt_of _ _ _ e]; rfl
theorem bt_ext (s : ByteArray) (a : Nat) (h : a < s.size) : bt (s.extract a s.size) 0 = bt s a := by
  have e : (s.extract a s.size).data.toList[0]? = some (s[a]'h) := by
    rw [ByteArray.data_extract, Array.toList_extract, List.extract_eq_take_drop, List.getElem?_take_of_lt (by omega), List.getElem?_drop, Nat.add_zero, pr_get s a h]
  rw [bt_of _ _ _ e, bt_at]
theorem hp_head (t p : ByteArray) (hp : 0 < p.size) (h : hpB t p = true) : bt t 0 = bt p 0 := by
  unfold hpB at h
  rw [Bool.and_eq_true, decide_eq_true_iff, beq_iff_eq, ByteArray.toList_eq, ByteArray.toList_eq] at h
  have h0 : 0 < t.size := by omega
  have e : p.data.toList[0]? = some (t[0]'h0) := by
    rw [← h.2, ByteArray.data_extract, Array.toList_extract, List.extract_eq_take_drop, List.getElem?_take_of_lt (by omega), List.getElem?_drop, Nat.add_zero, pr_get t 0 h0]
  rw [bt_of _ _ _ e, bt_at]
theorem hp_par (t : ByteArray) (h : 0 < t.size) (h40 : bt t 0 = 40) : hpB t ⟨#[40]⟩ = true := by
  unfold hpB
  rw [Bool.and_eq_true, decide_eq_true_iff, beq_iff_eq, ByteArray.toList_eq, ByteArray.toList_eq]
  refine ⟨h, ?_⟩
  rw [ByteArray.data_extract, Array.toList_extract, List.extract_eq_take_drop]
  have e := pr_get t 0 h
  have e2 : t[0]'h = 40 := by
    have := bt_at t 0 h
    rw [h40] at this
    exact UInt8.toNat_inj.1 this
  rw [e2] at e
  cases hl : t.data.toList with
  | nil => rw [hl] at e; cases e
  | cons b r =>
    rw [hl] at e
    simp at e
    subst e
    rfl
theorem par_sym (n a : Nat) (h : a < n) : symAt (par n) a = some ⟨#[40]⟩ := by
  have hs : a < (par n).size := by rw [par_size]; exact h
  have h40 : bt ((par n).extract a (par n).size) 0 = 40 := by rw [bt_ext _ _ hs, par_bt n a h]
  have hz : 0 < ((par n).extract a (par n).size).size := by rw [ByteArray.size_extract]; omega
  unfold symAt
  generalize (par n).extract a (par n).size = t at h40 hz ⊢
  have hno : ∀ p : ByteArray, 0 < p.size → bt p 0 ≠ 40 → hpB t p = false := fun p hp hne => by
    cases hb : hpB t p
    · rfl
    · exact absurd ((hp_head t p hp hb).symm.trans h40) hne
  have hyes := hp_par t hz h40
  unfold symL
  rw [List.find?_cons, hno _ (by decide) (by decide), List.find?_cons, hno _ (by decide) (by decide), List.find?_cons, hno _ (by decide) (by decide), List.find?_cons, hno _ (by decide) (by decide), List.find?_cons, hno _ (by decide) (by decide), List.find?_cons, hno _ (by decide) (by decide), List.find?_cons, hno _ (by decide) (by decide), List.find?_cons, hno _ (by decide) (by decide), List.find?_cons, hyes]
theorem par_scanN (n : Nat) : ∀ (f a : Nat) (l : List Tok), a ≤ n → n ≤ f + a → ∃ l', scanN (par n) f a l = (l', 0, 0) ∧ l'.length = l.length + (n - a) := by
  intro f
  induction f with
  | zero => intro a l ha hf; exact ⟨l, rfl, by omega⟩
  | succ f ih =>
    intro a l ha hf
    by_cases h : a < n
    · have hw : wrun (par n) a = 0 := wrun_stop _ _ (fun h2 => by have := h2.2; rw [par_bt n a h] at this; revert this; decide)
      have hn : nextTok (par n) a = some ⟨3, ⟨#[40]⟩, a⟩ := by
        unfold nextTok; rw [hw, if_neg (by decide), par_sym n a h]; rfl
      obtain ⟨l', h1, h2⟩ := ih (a + 1) (l ++ [⟨3, ⟨#[40]⟩, a⟩]) (by omega) (by omega)
      refine ⟨l', ?_, by rw [h2, List.length_append]; simp; omega⟩
      rw [scanN, if_pos (by rw [par_size]; exact h), par_bt n a h, if_neg (by decide), hn]
      exact h1
    · refine ⟨l, ?_, by omega⟩
      rw [scanN, if_neg (by rw [par_size]; exact h)]
theorem par_scan (n : Nat) (h : n ≤ 400) : ∃ l, scan (par n) = (l, 0, 0) ∧ l.length = n := by
  unfold scan
  rw [par_size, if_neg (by omega)]
  obtain ⟨l, h1, h2⟩ := par_scanN n n 0 [] (by omega) (by omega)
  exact ⟨l, h1, by simpa using h2⟩
end Go.Proofs.YtoiofbpmgihkfaaDoor
