/- A choice of two. -/
import Derived.Test.YtkennilcojbbgaaSCodes
import Derived.Test.YtkennilcojbbgaaSBegun
namespace Go.Proofs.Ytkennilcojbbgaa
open Go.RowKit

/-- The call returns one of two, and only the choices have changed. -/
def ChoseBZ (K D : Nat) (l : List Nat) (w : World) (e : Ending) (w' : World) : Prop := ∃ v : Bool, (l = [] → v = false) ∧ e = .returned (.bool v) ∧ w.grownBy w' (some K) ∧ ∃ p, CoAt K D l p w'
def ChoseB (K D : Nat) (l : List Nat) (w : World) (e : Ending) (w' : World) : Prop := ∃ v : Bool, e = .returned (.bool v) ∧ w.grownBy w' (some K) ∧ ∃ p, CoAt K D l p w'
set_option maxRecDepth 100000 in
theorem cobool_z {K D p : Nat} {l : List Nat} {w : World} (h : CoAt K D l p w) : Calls Try.prog 43 #[.pointer (some ⟨K, 0, none⟩)] w (ChoseBZ K D l w) := by
  have HN := Lib.hid (next_z 2 (by decide) (by decide) h)
  clear h
  go_enter Try.func43, Try.ntmps43
  go_wp2_with (go_at_call 38; (refine HN.out.mono ?_; rintro e w' ⟨v, hv, hz, rfl, hg, hc⟩; have HZ := Lib.hid hz; clear hz))
  go_ret
  exact ⟨_, fun e => by rw [HZ.out e]; rfl, rfl, hg, hc⟩
theorem cobool_any {K D p : Nat} {l : List Nat} {w : World} (h : CoAt K D l p w) : Calls Try.prog 43 #[.pointer (some ⟨K, 0, none⟩)] w (ChoseB K D l w) := (cobool_z h).mono fun _ _ ⟨v, _, h2, h3, h4⟩ => ⟨v, h2, h3, h4⟩
end Go.Proofs.Ytkennilcojbbgaa
