/- Layer 7: the reference's text of a leaf. -/
import Derived.Test.YtmdifoclojogpaaGreatDoorYFmt6
import Derived.Test.YtmdifoclojogpaaGreatDoorNRText
import Derived.Test.YtmdifoclojogpaaGreatDoorJYRef
namespace Go.Proofs.YtmdifoclojogpaaGreatDoor
open Go.RowKit

theorem fmtT_leaf (n : Nd) : fmtT (.leaf n) = lfB n := by
  apply ba_ext
  rw [lfB_bl]; rfl
/-- node i has the text T in the reference -/
def RfC (m cap : Nat) (A : Option Addr) (o : List Nd) (i : Nat) (T : ByteArray) : Prop := ∀ w : World, NodR w A o → Calls Tryz.prog 37 #[.slice A m cap, .int .i64 (i : Nat)] w (RetX (.string T) w)
theorem nodR_at {w : World} {A : Option Addr} {o : List Nd} (h : NodR w A o) {i : Nat} {n : Nd} (hn : o[i]? = some n) : ∃ g, A = some ⟨g, 0, none⟩ ∧ g < w.heap.size ∧ i < o.length ∧
    w.cell? ⟨g, i * 7, none⟩ = some (.int .i64 (n.op : Nat)) ∧ w.cell? ⟨g, i * 7 + 1, none⟩ = some (.int .i64 (n.a : Nat)) ∧ w.cell? ⟨g, i * 7 + 2, none⟩ = some (.int .i64 (n.b : Nat)) ∧ w.cell? ⟨g, i * 7 + 3, none⟩ = some (.string n.name) ∧ w.cell? ⟨g, i * 7 + 4, none⟩ = some (.string n.attr) ∧ w.cell? ⟨g, i * 7 + 5, none⟩ = some (.int .u64 (hi n.val)) ∧ w.cell? ⟨g, i * 7 + 6, none⟩ = some (.int .u64 (lo n.val)) := by
  obtain ⟨hk, he⟩ := List.getElem?_eq_some_iff.1 hn
  obtain ⟨g, e, hg, q⟩ := h.r.resolve_left (fun e => by rw [e] at hk; simp at hk)
  have hq := q i hk
  rw [he] at hq
  exact ⟨g, e, hg, hk, hq 0 (by decide), hq 1 (by decide), hq 2 (by decide), hq 3 (by decide), hq 4 (by decide), hq 5 (by decide), hq 6 (by decide)⟩
set_option maxRecDepth 100000 in
set_option maxHeartbeats 4000000 in
theorem rf_leaf {m cap : Nat} {A : Option Addr} {o : List Nd} {i : Nat} {n : Nd} (hm : o.length = m) (hn : o[i]? = some n) (h : LeafOk n) (hz : n.name.size ≤ 100000 ∧ n.attr.size ≤ 100000) : RfC m cap A o i (lfB n) := by
  intro w hw
  obtain ⟨g, rfl, hg, hil, c0, c1, c2, c3, c4, c5, c6⟩ := nodR_at hw hn
  rw [hm] at hil
  have i1 : ¬ (i : Int) < 0 := by omega
  have i2 : (i : Int) < (m : Int) := by omega
  have i3 : 0 ≤ (i : Int) := by omega
  obtain ⟨op, a, b, nm, at_, v⟩ := n
  obtain ⟨ha, hb, his⟩ := h
  simp only at ha hb his hz c0 c1 c2 c3 c4 c5 c6
  subst ha hb
  clear hn hw hm
  rcases his with ⟨rfl, rfl, rfl, hv⟩ | ⟨rfl, rfl, rfl, hv⟩ | ⟨rfl, rfl, hkn, n1, n2, hat, hw, hwa⟩
  · have KF := Lib.hid fun W => ri_from v (Nat.lt_of_lt_of_eq hv (by decide)) W
    have e0 : lfB ⟨1, 0, 0, ⟨#[]⟩, ⟨#[]⟩, v⟩ = strN (tl v) := rfl
    rw [e0]
    generalize hi v = v1 at *
    generalize lo v = v2 at *
    clear hv e0
    go_enter Tryz.func37, Tryz.ntmps37
    go_wp2_with fail
    go_at_call 72
    refine (KF.out _).mono ?_
    rintro e w1 ⟨sg, A1, n1, c1', rfl, h1, hb1⟩
    have H1 := Lib.hid h1
    have HB1 := Lib.hid hb1
    clear h1 hb1
    go_wp2_with fail
    go_at_call 71
    refine (ri_text _ sg A1 n1 c1' (v : Int) H1.out).mono ?_
    rintro e w2 ⟨rfl, hb2⟩
    have HB2 := Lib.hid (HB1.out.trans (hb2.mono HB1.out.size))
    clear hb2
    go_wp2_with fail
    go_ret
    exact ⟨rfl, ((Below.refl _ _).alloc (Nat.le_refl _) _).trans (HB2.out.mono (by simp))⟩
  · have h01 : v = 1 ∨ v = 0 := by omega
    rcases h01 with rfl | rfl
    · have e0 : lfB ⟨2, 0, 0, ⟨#[]⟩, ⟨#[]⟩, 1⟩ = syTrue := rfl
      rw [e0]
      rw [hl_one.1] at c5
      rw [hl_one.2] at c6
      clear e0 hv
      go_enter Tryz.func37, Tryz.ntmps37
      go_wp2_with fail
      first | done | (go_quiet (fail); go_wp2_with fail) | skip
      go_ret
      exact ⟨rfl, ((Below.refl _ _).alloc (Nat.le_refl _) _)⟩
    · have e0 : lfB ⟨2, 0, 0, ⟨#[]⟩, ⟨#[]⟩, 0⟩ = syFalse := rfl
      rw [e0]
      rw [hl_zero.1] at c5
      rw [hl_zero.2] at c6
      clear e0 hv
      go_enter Tryz.func37, Tryz.ntmps37
      go_wp2_with fail
      first | done | (go_quiet (fail); go_wp2_with fail) | skip
      go_ret
      exact ⟨rfl, ((Below.refl _ _).alloc (Nat.le_refl _) _)⟩
  · have e0 : lfB ⟨3, 0, 0, nm, at_, 0⟩ = if at_.size = 0 then nm else nm ++ syOf ++ at_ := rfl
    rw [e0]
    rw [hl_zero.1] at c5
    rw [hl_zero.2] at c6
    clear e0 hkn n1 n2 hw hwa
    by_cases h0 : at_.size = 0
    · rw [if_pos h0]
      have hate := size0 h0
      subst hate
      clear h0 hat
      go_enter Tryz.func37, Tryz.ntmps37
      go_wp2_with fail
      first | done | (go_quiet (fail); go_wp2_with fail) | skip
      go_ret
      exact ⟨rfl, ((Below.refl _ _).alloc (Nat.le_refl _) _)⟩
    · rw [if_neg h0]
      have hne : at_.toList.isEmpty = false := by
        rw [List.isEmpty_eq_false_iff]
        intro e
        have := bl_len at_
        unfold bl at this
        rw [ByteArray.toList_eq] at e
        rw [e] at this
        simp at this; omega
      clear h0 hat
      go_enter Tryz.func37, Tryz.ntmps37
      go_wp2_with fail
      first | done | (go_quiet (fail); go_wp2_with fail) | skip
      go_ret
      exact ⟨rfl, ((Below.refl _ _).alloc (Nat.le_refl _) _)⟩
end Go.Proofs.YtmdifoclojogpaaGreatDoor
