/- matchguardref05: Text. -/
import Derived.Test.YtodmkmoglchoeaaDoorJNRef
namespace Go.Proofs.YtodmkmoglchoeaaDoor
open Go.RowKit

theorem strN_snoc (l : List Int) (x : Int) : strN (l ++ [x]) = strN l ++ strN [x] := by
  unfold strN
  rw [List.foldl_append]
  apply ByteArray.ext
  simp
theorem cd_dg {n : Nat} (h : n ≠ 0) : cd n = dg n := by unfold cd; rw [if_neg h]
theorem strN_len (l : List Int) : (strN l).size = l.length := by
  have h : ∀ (l : List Int) (a : ByteArray), (l.foldl (fun r n => r.push (UInt8.ofNat n.toNat)) a).size = a.size + l.length := by
    intro l
    induction l with
    | nil => intro a; rfl
    | cons x t ih => intro a; rw [List.foldl_cons, ih, ByteArray.size_push, List.length_cons]; omega
  have := h l ByteArray.empty
  simpa [strN] using this
/-- the text of the digits from k on -/
def ts (sg : List Int) (D : List Nat) (k : Nat) : List Int := sg ++ ((D.drop k).reverse.map fun d : Nat => 48 + (d : Int))
theorem ts_len (sg : List Int) (D : List Nat) (k : Nat) : (ts sg D k).length ≤ sg.length + D.length := by unfold ts; simp
theorem ts_step (sg : List Int) (D : List Nat) (k : Nat) (hk : k < D.length) : ts sg D k = ts sg D (k + 1) ++ [48 + ((gd D k : Nat) : Int)] := by
  unfold ts gd
  rw [List.drop_eq_getElem_cons hk, List.reverse_cons, List.map_append, List.append_assoc, List.getD_eq_getElem?_getD, List.getElem?_eq_getElem hk]
  rfl
theorem ts_end (sg : List Int) (D : List Nat) : ts sg D D.length = sg := by unfold ts; simp
end Go.Proofs.YtodmkmoglchoeaaDoor
