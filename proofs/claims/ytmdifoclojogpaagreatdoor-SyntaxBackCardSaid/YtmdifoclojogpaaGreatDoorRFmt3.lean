/- Layer 7: the reference's Format. -/
import Derived.Test.YtmdifoclojogpaaGreatDoorRFmt2
namespace Go.Proofs.YtmdifoclojogpaaGreatDoor
open Go.RowKit

theorem bl_fmtT (t : Tr) : bl (fmtT t) = itx (emK t) := rfl
theorem fmtT_un (p : Nat) (t : Tr) : fmtT (.un p t) = sy p ++ ⟨#[40]⟩ ++ fmtT t ++ ⟨#[41]⟩ := by
  apply ba_ext
  rw [bl_fmtT, itx_un, bl_app, bl_app, bl_app, bl_fmtT, bl_40, bl_41]
  simp [List.append_assoc]
theorem bl_4132 : bl ⟨#[41, 32]⟩ = [41, 32] := rfl
theorem bl_3240 : bl ⟨#[32, 40]⟩ = [32, 40] := rfl
theorem bl_32 : bl ⟨#[32]⟩ = [32] := rfl
theorem fmtT_bin (p : Nat) (t u : Tr) : fmtT (.bin p t u) = ⟨#[40]⟩ ++ fmtT t ++ ⟨#[41, 32]⟩ ++ sy p ++ ⟨#[32, 40]⟩ ++ fmtT u ++ ⟨#[41]⟩ := by
  apply ba_ext
  rw [bl_fmtT, itx_bin]
  unfold mid
  simp only [bl_app, bl_fmtT, bl_40, bl_41, bl_4132, bl_3240, bl_32]
  simp [List.append_assoc]
theorem fmtT_size (t : Tr) (h : t.Ok) (hn : t.Nm) (h2 : t.size ≤ 200) : (fmtT t).size ≤ 90000000 := by
  have := emK_len t h hn
  rw [← bl_len, bl_fmtT]; omega
theorem rf_tree {m cap : Nat} {A : Option Addr} {o : List Nd} (hm : o.length = m) (t : Tr) : t.Ok → t.Nm → t.size ≤ 200 → ∀ k, Sub o t k → RfC m cap A o (k + t.size - 1) (fmtT t) := by
  induction t with
  | leaf n =>
    intro h hz h2 k hk
    have := rf_leaf (cap := cap) (A := A) hm (sub_leaf hk) h hz
    rw [fmtT_leaf]
    exact this
  | un p t ih =>
    intro h hz h2 k hk
    have hs : t.size ≤ 200 := by simp [Tr.size] at h2; omega
    obtain ⟨k1, k2⟩ := sub_un hk
    have := rf_un (cap := cap) (A := A) hm k2 h.1 (ih h.2 hz hs k k1) (fmtT_size t h.2 hz hs)
    rw [fmtT_un]
    exact this
  | bin p t u ih1 ih2 =>
    intro h hz h2 k hk
    obtain ⟨h6, h16, ht, hu⟩ := h
    have hs : t.size ≤ 200 ∧ u.size ≤ 200 := by simp [Tr.size] at h2; omega
    obtain ⟨k1, k2, k3⟩ := sub_bin hk
    have := rf_bin (cap := cap) (A := A) hm k3 h6 h16 (ih1 ht hz.1 hs.1 k k1) (ih2 hu hz.2 hs.2 (k + t.size) k2) (fmtT_size t ht hz.1 hs.1) (fmtT_size u hu hz.2 hs.2)
    rw [fmtT_bin]
    rw [show k + (Tr.bin p t u).size - 1 = k + t.size + u.size by simp [Tr.size]; omega]
    exact this
set_option maxRecDepth 100000 in
set_option maxHeartbeats 4000000 in
theorem rf_Format (w : World) (A : Option Addr) (m cap : Nat) (t : Tr) (ht : t.Ok) (hnm : t.Nm) (hm : t.size = m) (hm4 : m ≤ 120) (hnd : NodR w A (t.flat 0)) :
    Calls Tryz.prog 12 #[.slice A m cap] w (RetX (.string (fmtT t)) w) := by
  have hp := t.pos
  have KN : Hid (Calls Tryz.prog 37 #[.slice A m cap, .int .i64 ((m : Int) - 1)] w (RetX (.string (fmtT t)) w)) := Lib.hid (by
    have := rf_tree (cap := cap) (A := A) (o := t.flat 0) (m := m) (by rw [t.flat_len]; exact hm) t ht hnm (by omega) 0 (sub_whole t) w hnd
    rw [show ((0 + t.size - 1 : Nat) : Int) = (m : Int) - 1 by omega] at this
    exact this)
  have i1 : ((m : Int) == 0) = false := by rw [beq_eq_false_iff_ne]; omega
  generalize fmtT t = x at KN ⊢
  clear hnd ht hnm hm hp
  go_enter Tryz.func12, Tryz.ntmps12
  go_wp2_with fail
  go_at_call 37
  refine KN.out.mono ?_
  rintro e w1 ⟨rfl, hb1⟩
  go_wp2_with fail
  go_ret
  exact ⟨rfl, hb1⟩
end Go.Proofs.YtmdifoclojogpaaGreatDoor
