/- What was written is read back. -/
import Derived.Test.YthfimcbjbkbcjaaWWritesWalk
namespace Go.Proofs.Ythfimcbjbkbcjaa
open Go.RowKit

theorem encU_e1 (v : Int) : encU v 1 = [byteAt v 0] := rfl
theorem encU_e2 (v : Int) : encU v 2 = [byteAt v 1, byteAt v 0] := rfl
theorem encU_e4 (v : Int) : encU v 4 = [byteAt v 3, byteAt v 2, byteAt v 1, byteAt v 0] := rfl
theorem num_e1 (v : Int) (h0 : 0 ≤ v) (h1 : v < 256) : (num (encU v 1) : Int) = v := by
  rw [encU_e1]
  simp only [num, byteAt, List.foldl]
  omega
theorem num_e2 (v : Int) (h0 : 0 ≤ v) (h1 : v < 65536) : (num (encU v 2) : Int) = v := by
  rw [encU_e2]
  simp only [num, byteAt, List.foldl]
  omega
theorem num_e4 (v : Int) (h0 : 0 ≤ v) (h1 : v < 4294967296) : (num (encU v 4) : Int) = v := by
  rw [encU_e4]
  simp only [num, byteAt, List.foldl]
  omega
theorem take_pre (a b : List Nat) (k : Nat) (h : a.length = k) : (a ++ b).take k = a := by subst h; simp
theorem drop_pre (a b : List Nat) (k : Nat) (h : a.length = k) : (a ++ b).drop k = b := by subst h; simp
theorem numTo_congr {g h : Nat → Nat} : ∀ n, (∀ i, i < n → g i = h i) → numTo g n = numTo h n
  | 0, _ => rfl
  | n + 1, e => by rw [numTo, numTo, numTo_congr n fun i hi => e i (by omega), e n (by omega)]
theorem parse_bl (a : Nat) (ha : a < 2 ^ 128) : pE (bl a) = 0 ∧ pV (bl a) = a := by
  have h := parse_gb a ha
  have hn := nb_pos a
  have e1 : pE (bl a) = parseE (nb a) (gb a) := by
    unfold pE parseE
    have h0 : (bl a).getD 0 0 = gb a 0 := bl_get a 0 (by omega)
    simp only [bl_len, h0]
  have e2 : pV (bl a) = parseV (nb a) (gb a) := by
    unfold pV parseV
    have e3 : parseE (bl a).length (fun i => (bl a).getD i 0) = parseE (nb a) (gb a) := e1
    rw [e3, bl_len, numTo_congr (nb a) fun i hi => bl_get a i hi]
  rw [e1, e2]
  exact h
section
variable (R D : Nat) (A : Option Addr) (n cap : Nat) (w : World) (r : List Nat)
theorem g_uint (v : Int) (k : Nat) (hk : 1 ≤ k ∧ k ≤ 4) (hv : (num (encU v k) : Int) = v) (hR : RdAt w R D (encU v k ++ r) 0 A n cap) :
    Calls Try.prog 16 #[.pointer (some ⟨R, 0, none⟩), .int .i64 k] w (Meth R D (.int .i64 v) r 0 w) := by
  have h := m_uint R D _ A n cap w k (by omega) (by omega) 0 hR
  have hE : uE k (encU v k ++ r) = 0 := by
    rw [uE, if_neg (by omega), if_neg (by rw [List.length_append, encU_len, Int.toNat_natCast]; omega)]
  rw [pick_ok hE, stL_ok hE, hE, stE_0, Int.toNat_natCast, drop_pre _ _ _ (encU_len v k), uV, Int.toNat_natCast, take_pre _ _ _ (encU_len v k), hv] at h
  exact h
theorem g_bool (b : Bool) (hR : RdAt w R D ([if b = true then 1 else 0] ++ r) 0 A n cap) :
    Calls Try.prog 18 #[.pointer (some ⟨R, 0, none⟩)] w (Meth R D (.bool b) r 0 w) := by
  have h := m_bool R D _ A n cap w 0 hR
  have ht : num (([if b = true then 1 else 0] ++ r).take 1) = if b = true then 1 else 0 := by cases b <;> rfl
  have hE : bE ([if b = true then 1 else 0] ++ r) = 0 := by
    rw [bE, if_neg (by simp), ht, if_neg (by cases b <;> decide)]
  have hV : bV ([if b = true then 1 else 0] ++ r) = b := by rw [bV, ht]; cases b <;> rfl
  rw [pick_ok hE, stL_ok hE, hE, stE_0, hV] at h
  exact h
theorem g_value (a : Nat) (ha : a < 2 ^ 128) (hR : RdAt w R D (encU (nb a) 1 ++ (bl a ++ r)) 0 A n cap) :
    Calls Try.prog 24 #[.pointer (some ⟨R, 0, none⟩)] w (Meth R D (.agg #[.int .u64 (hi a), .int .u64 (lo a)]) r 0 w) := by
  have h := m_value R D _ A n cap w 0 hR
  have hn := nb_pos a
  have hn2 := nb_le a ha
  have ht : num ((encU (nb a) 1 ++ (bl a ++ r)).take 1) = nb a := by
    rw [take_pre _ _ _ (encU_len _ _)]
    have := num_e1 (nb a) (by omega) (by omega)
    omega
  have hX : vX (encU (nb a) 1 ++ (bl a ++ r)) = bl a := by
    rw [vX, ht, drop_pre _ _ _ (encU_len _ _), take_pre _ _ _ (bl_len a)]
  have hE : vE (encU (nb a) 1 ++ (bl a ++ r)) = 0 := by
    rw [vE, ht, hX, if_neg (by rw [List.length_append, encU_len]; omega), if_neg (by omega), if_neg (by rw [List.length_append, encU_len, List.length_append, bl_len]; omega), if_pos (parse_bl a ha).1]
  have hL : (encU (nb a) 1 ++ (bl a ++ r)).drop (vK (encU (nb a) 1 ++ (bl a ++ r))) = r := by
    rw [vK, ht, ← List.append_assoc, drop_pre _ _ _ (by rw [List.length_append, encU_len, bl_len])]
  rw [pick_ok hE, stL_ok hE, hE, stE_0, hX, (parse_bl a ha).2, hL] at h
  exact h
theorem g_bytes (x : List Nat) (hx : x.length ≤ 40) (hR : RdAt w R D (encU x.length 2 ++ (x ++ r)) 0 A n cap) :
    Calls Try.prog 20 #[.pointer (some ⟨R, 0, none⟩), .int .i64 40] w (MethS R D x r 0 w) := by
  have h := m_bytes R D _ A n cap w 40 0 hR
  have ht : num ((encU x.length 2 ++ (x ++ r)).take 2) = x.length := by
    rw [take_pre _ _ _ (encU_len _ _)]
    have := num_e2 x.length (by omega) (by omega)
    omega
  have hX : sX (encU x.length 2 ++ (x ++ r)) = x := by
    rw [sX, ht, drop_pre _ _ _ (encU_len _ _), take_pre _ _ _ rfl]
  have hE : sE 40 (encU x.length 2 ++ (x ++ r)) = 0 := by
    rw [sE, ht, if_neg (by rw [List.length_append, encU_len]; omega), if_neg (by omega), if_neg (by rw [List.length_append, encU_len, List.length_append]; omega)]
  have hL : (encU x.length 2 ++ (x ++ r)).drop (sK (encU x.length 2 ++ (x ++ r))) = r := by
    rw [sK, ht, ← List.append_assoc, drop_pre _ _ _ (by rw [List.length_append, encU_len])]
  rw [pick_ok hE, stL_ok hE, hE, stE_0, hX, hL] at h
  exact h
end
/-- The bytes of one element of WireBack. -/
def recL (nn : Int) (val : Nat) (x : List Nat) : List Nat :=
  encU (nn % 256) 1 ++ (encU (nn % 65536) 2 ++ (encU (nn % 4294967296) 4 ++ ([if (nn % 2 == 1) = true then 1 else 0] ++ (encU (nb val) 1 ++ (bl val ++ (encU x.length 2 ++ x))))))
/-- k elements from the q-th on. -/
def sufL (F : Nat → List Nat) (q : Nat) : Nat → List Nat
  | 0 => []
  | k + 1 => F q ++ sufL F (q + 1) k
theorem sufL_step (F : Nat → List Nat) (q m : Nat) (h : q < m) : sufL F q (m - q) = F q ++ sufL F (q + 1) (m - (q + 1)) := by
  rw [show m - q = (m - (q + 1)) + 1 by omega, sufL]
theorem recL_small (nn : Int) (val : Nat) (x : List Nat) (hx : Small x) : Small (recL nn val x) := by
  refine (encU_small _ _).append ((encU_small _ _).append ((encU_small _ _).append (Small.append ?_ ((encU_small _ _).append ((bl_small _).append ((encU_small _ _).append hx))))))
  intro y hy
  have := List.mem_singleton.1 hy
  subst this
  split <;> decide
theorem recL_len (nn : Int) (val : Nat) (x : List Nat) (hv : val < 2 ^ 128) (hx : x.length ≤ 40) : (recL nn val x).length ≤ 70 := by
  have := nb_le val hv
  simp only [recL, List.length_append, encU_len, bl_len, List.length_singleton]
  omega
end Go.Proofs.Ythfimcbjbkbcjaa
