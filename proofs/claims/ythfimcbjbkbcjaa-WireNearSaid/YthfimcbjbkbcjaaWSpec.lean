/- The reader of package wire as a machine over lists of bytes. -/
import Derived.Test.YthfimcbjbkbcjaaWMeth
namespace Go.Proofs.Ythfimcbjbkbcjaa
open Go.RowKit

/-- Of an element: its error E, and the bytes K that it takes. What is left behind it, the first error behind it, and what is returned. -/
def stL (E : Int) (K : Nat) (l : List Nat) (e : Int) : List Nat := if e = 0 ∧ E = 0 then l.drop K else l
def stE (E e : Int) : Int := if e = 0 then E else e
def pick {α : Type} (E e : Int) (z v : α) : α := if e = 0 ∧ E = 0 then v else z
def uE (k : Int) (l : List Nat) : Int := if k < 1 ∨ 4 < k then 4 else if l.length < k.toNat then 1 else 0
def uV (k : Int) (l : List Nat) : Int := (num (l.take k.toNat) : Nat)
def bE (l : List Nat) : Int := if l.length < 1 then 1 else if 1 < num (l.take 1) then 2 else 0
def bV (l : List Nat) : Bool := num (l.take 1) == 1
def cE (most : Int) (l : List Nat) : Int := if l.length < 2 then 1 else if most < (num (l.take 2) : Int) then 3 else 0
def cV (l : List Nat) : Int := (num (l.take 2) : Nat)
def sE (most : Int) (l : List Nat) : Int := if l.length < 2 then 1 else if most < (num (l.take 2) : Int) then 3 else if l.length - 2 < num (l.take 2) then 1 else 0
def sX (l : List Nat) : List Nat := (l.drop 2).take (num (l.take 2))
def sK (l : List Nat) : Nat := 2 + num (l.take 2)
def tE (most : Int) (l : List Nat) : Int := if sE most l = 0 then (if plain (sX l) = true then 0 else 2) else sE most l
def vX (l : List Nat) : List Nat := (l.drop 1).take (num (l.take 1))
def vE (l : List Nat) : Int := if l.length < 1 then 1 else if num (l.take 1) < 1 ∨ 16 < num (l.take 1) then 2 else if l.length - 1 < num (l.take 1) then 1 else if pE (vX l) = 0 then 0 else 5
def vK (l : List Nat) : Nat := 1 + num (l.take 1)

theorem stL_err {E : Int} {K : Nat} {l : List Nat} {e : Int} (h : e ≠ 0) : stL E K l e = l := by simp [stL, h]
theorem stE_err {E e : Int} (h : e ≠ 0) : stE E e = e := by simp [stE, h]
theorem pick_err {α : Type} {E e : Int} {z v : α} (h : e ≠ 0) : pick E e z v = z := by simp [pick, h]
theorem stL_bad {E : Int} {K : Nat} {l : List Nat} (h : E ≠ 0) : stL E K l 0 = l := by simp [stL, h]
theorem stE_0 {E : Int} : stE E 0 = E := by simp [stE]
theorem pick_bad {α : Type} {E : Int} {z v : α} (h : E ≠ 0) : pick E 0 z v = z := by simp [pick, h]
theorem stL_ok {E : Int} {K : Nat} {l : List Nat} (h : E = 0) : stL E K l 0 = l.drop K := by simp [stL, h]
theorem pick_ok {α : Type} {E : Int} {z v : α} (h : E = 0) : pick E 0 z v = v := by simp [pick, h]
theorem beq_of {e : Int} (h : e ≠ 0) : (e == 0) = false := by simpa using h

section
variable (R D : Nat) (l : List Nat) (A : Option Addr) (n cap : Nat) (w : World)
theorem m_uint (k : Int) (hk1 : -9223372036854775808 ≤ k) (hk2 : k ≤ 9223372036854775807) (e : Int) (hR : RdAt w R D l e A n cap) :
    Calls Try.prog 16 #[.pointer (some ⟨R, 0, none⟩), .int .i64 k] w (Meth R D (.int .i64 (pick (uE k l) e 0 (uV k l))) (stL (uE k l) k.toNat l e) (stE (uE k l) e) w) := by
  by_cases he : e = 0
  · subst he
    have hlen := hR.len
    rw [stE_0]
    by_cases hk : k < 1 ∨ 4 < k
    · have hE : uE k l = 4 := by simp [uE, hk]
      rw [hE, stL_bad (by decide), pick_bad (by decide)]
      exact uint_bad R D l A n cap w k 4 rfl hR fun W hW => (ruint_bad _ k W hk hk1 hk2).mono fun _ _ ⟨h1, h2⟩ => by subst h1; subst h2; exact .of_same hW _ _
    · obtain ⟨j, rfl⟩ := Int.eq_ofNat_of_zero_le (a := k) (by omega)
      by_cases hs : l.length < j
      · have hE : uE (j : Int) l = 1 := by rw [uE, if_neg hk, if_pos (by simpa using hs)]
        rw [hE, stL_bad (by decide), pick_bad (by decide)]
        exact uint_bad R D l A n cap w j 1 rfl hR fun W hW => (ruint_short R j A n cap W hW.c0 (by omega) (by omega) (by omega)).mono fun _ _ ⟨h1, h2⟩ => by subst h1; subst h2; exact .of_same hW _ _
      · have hE : uE (j : Int) l = 0 := by rw [uE, if_neg hk, if_neg (by simpa using hs)]
        rw [stL_ok hE, pick_ok hE, hE]
        exact uint_good R D l A n cap w j (uV j l) (l.drop j) hR fun W hW => (ruint_ok R D j l 0 A n cap W hW (by omega) (by omega) (by omega)).mono fun _ _ ⟨h1, h2⟩ => by subst h1; subst h2; exact .of_skip hW j (by omega) _
  · rw [stL_err he, stE_err he, pick_err he]
    exact uint_err R D l A n cap w k e (beq_of he) hR
theorem m_bool (e : Int) (hR : RdAt w R D l e A n cap) :
    Calls Try.prog 18 #[.pointer (some ⟨R, 0, none⟩)] w (Meth R D (.bool (pick (bE l) e false (bV l))) (stL (bE l) 1 l e) (stE (bE l) e) w) := by
  by_cases he : e = 0
  · subst he
    have hlen := hR.len
    rw [stE_0]
    by_cases hs : l.length < 1
    · have hE : bE l = 1 := by rw [bE, if_pos hs]
      rw [hE, stL_bad (by decide), pick_bad (by decide)]
      exact bool_bad R D l A n cap w 1 rfl hR fun W hW => (rbool_short R D l A n cap W 0 hW (by omega)).mono fun _ _ ⟨h1, h2⟩ => by subst h1; subst h2; exact .of_same hW _ _
    · obtain ⟨v, hv⟩ : ∃ v, Hid (num (l.take 1) = v) := ⟨_, Lib.hid rfl⟩
      have h1 : 1 ≤ n := by omega
      by_cases hx : 1 < v
      · have hE : bE l = 2 := by rw [bE, if_neg hs, hv.out, if_pos hx]
        rw [hE, stL_bad (by decide), pick_bad (by decide)]
        exact bool_bad R D l A n cap w 2 rfl hR fun W hW => (rbool_form R D l A n cap W 0 hW h1 v hv hx).mono fun _ _ ⟨h1', h2⟩ => by subst h1'; subst h2; exact .of_skip hW 1 h1 _ _
      · have hE : bE l = 0 := by rw [bE, if_neg hs, hv.out, if_neg hx]
        rw [stL_ok hE, pick_ok hE, hE]
        by_cases h0 : v = 0
        · have hb : bV l = false := by rw [bV, hv.out, h0]; rfl
          rw [hb]
          exact bool_good R D l A n cap w false (l.drop 1) hR fun W hW => (rbool_0 R D l A n cap W 0 hW h1 v hv h0).mono fun _ _ ⟨h1', h2⟩ => by subst h1'; subst h2; exact .of_skip hW 1 h1 _
        · have hb : bV l = true := by rw [bV, hv.out, show v = 1 by omega]; rfl
          rw [hb]
          exact bool_good R D l A n cap w true (l.drop 1) hR fun W hW => (rbool_1 R D l A n cap W 0 hW h1 v hv (by omega)).mono fun _ _ ⟨h1', h2⟩ => by subst h1'; subst h2; exact .of_skip hW 1 h1 _
  · rw [stL_err he, stE_err he, pick_err he]
    exact bool_err R D l A n cap w e (beq_of he) hR
theorem m_count (most : Int) (e : Int) (hR : RdAt w R D l e A n cap) :
    Calls Try.prog 30 #[.pointer (some ⟨R, 0, none⟩), .int .i64 most] w (Meth R D (.int .i64 (pick (cE most l) e 0 (cV l))) (stL (cE most l) 2 l e) (stE (cE most l) e) w) := by
  by_cases he : e = 0
  · subst he
    have hlen := hR.len
    rw [stE_0]
    by_cases hs : l.length < 2
    · have hE : cE most l = 1 := by rw [cE, if_pos hs]
      rw [hE, stL_bad (by decide), pick_bad (by decide)]
      exact count_bad R D l A n cap w most 1 rfl hR fun W hW => (rcount_short R D l A n cap W 0 hW most (by omega)).mono fun _ _ ⟨h1, h2⟩ => by subst h1; subst h2; exact .of_same hW _ _
    · obtain ⟨v, hv⟩ : ∃ v, Hid (num (l.take 2) = v) := ⟨_, Lib.hid rfl⟩
      have h1 : 2 ≤ n := by omega
      by_cases hx : most < (v : Int)
      · have hE : cE most l = 3 := by rw [cE, if_neg hs, hv.out, if_pos hx]
        rw [hE, stL_bad (by decide), pick_bad (by decide)]
        exact count_bad R D l A n cap w most 3 rfl hR fun W hW => (rcount_limit R D l A n cap W 0 hW h1 v hv most hx).mono fun _ _ ⟨h1', h2⟩ => by subst h1'; subst h2; exact .of_skip hW 2 h1 _ _
      · have hE : cE most l = 0 := by rw [cE, if_neg hs, hv.out, if_neg hx]
        rw [stL_ok hE, pick_ok hE, hE, cV, hv.out]
        exact count_good R D l A n cap w most v (l.drop 2) hR fun W hW => (rcount_ok R D l A n cap W 0 hW h1 v hv most (by omega)).mono fun _ _ ⟨h1', h2⟩ => by subst h1'; subst h2; exact .of_skip hW 2 h1 _
  · rw [stL_err he, stE_err he, pick_err he]
    exact count_err R D l A n cap w most e (beq_of he) hR
/-- readBytes at one go. -/
theorem rbytes_bad_any (most : Int) (hE : sE most l ≠ 0) (hR : RdAt w R D l 0 A n cap) : Calls Try.prog 45 #[.pointer (some ⟨R, 0, none⟩), .int .i64 most] w (BadB R D (sE most l) w) := by
  have hlen := hR.len
  by_cases hs : l.length < 2
  · have hE : sE most l = 1 := by rw [sE, if_pos hs]
    rw [hE]
    exact rbytes_short R D l A n cap w hR most (by omega)
  · obtain ⟨v, hv⟩ : ∃ v, Hid (num (l.take 2) = v) := ⟨_, Lib.hid rfl⟩
    by_cases hx : most < (v : Int)
    · have hE : sE most l = 3 := by rw [sE, if_neg hs, hv.out, if_pos hx]
      rw [hE]
      exact rbytes_limit R D l A n cap w hR most (by omega) v hv hx
    · by_cases h2 : l.length - 2 < v
      · have hE : sE most l = 1 := by rw [sE, if_neg hs, hv.out, if_neg hx, if_pos h2]
        rw [hE]
        exact rbytes_short2 R D l A n cap w hR most (by omega) v hv (by omega) (by omega)
      · exact absurd (by rw [sE, if_neg hs, hv.out, if_neg hx, if_neg h2]) hE
theorem rbytes_good_any (most : Int) (hE : sE most l = 0) (hR : RdAt w R D l 0 A n cap) : Calls Try.prog 45 #[.pointer (some ⟨R, 0, none⟩), .int .i64 most] w (GoodB R D (sX l) (l.drop (sK l)) w) := by
  have hlen := hR.len
  by_cases hs : l.length < 2
  · rw [sE, if_pos hs] at hE
    exact absurd hE (by decide)
  · obtain ⟨v, hv⟩ : ∃ v, Hid (num (l.take 2) = v) := ⟨_, Lib.hid rfl⟩
    rw [sE, if_neg hs, hv.out] at hE
    by_cases hx : most < (v : Int)
    · rw [if_pos hx] at hE
      exact absurd hE (by decide)
    · rw [if_neg hx] at hE
      by_cases h2 : l.length - 2 < v
      · rw [if_pos h2] at hE
        exact absurd hE (by decide)
      · rw [sX, sK, hv.out]
        exact rbytes_ok R D l A n cap w hR most (by omega) v hv (by omega) (by omega)
/-- What Bytes returns: the bytes x, or nil. -/
def MethS (R D : Nat) (x l' : List Nat) (e' : Int) (w : World) (en : Ending) (w' : World) : Prop :=
  ∃ A n cap g, ReadsL w' g A x ∧ w.heap.size ≤ g ∧ Hid (n = x.length) ∧ Meth R D (.slice A n cap) l' e' w en w'
theorem m_bytes (most : Int) (e : Int) (hR : RdAt w R D l e A n cap) :
    Calls Try.prog 20 #[.pointer (some ⟨R, 0, none⟩), .int .i64 most] w (MethS R D (pick (sE most l) e [] (sX l)) (stL (sE most l) (sK l) l e) (stE (sE most l) e) w) := by
  by_cases he : e = 0
  · subst he
    rw [stE_0]
    by_cases hE : sE most l = 0
    · rw [stL_ok hE, pick_ok hE, hE]
      refine (bytes_good R D l A n cap w most (sX l) (l.drop (sK l)) hR fun W hW => rbytes_good_any R D l A n cap W most hE hW).mono ?_
      rintro en w' ⟨_, ⟨A2, n2, cap2, g2, rfl, hn2, hlg, hr2, _⟩, hM⟩
      exact ⟨A2, n2, cap2, g2, hr2, hlg, hn2, hM⟩
    · rw [stL_bad hE, pick_bad hE]
      refine (bytes_bad R D l A n cap w most (sE most l) (beq_of hE) hR fun W hW => (rbytes_bad_any R D l A n cap W most hE hW).mono fun _ _ ⟨A3, cap3, h1, h2⟩ => ⟨_, h1, h2⟩).mono ?_
      intro en w' hM
      exact ⟨none, 0, 0, w.heap.size, .inl rfl, Nat.le_refl _, Lib.hid rfl, hM⟩
  · rw [stL_err he, stE_err he, pick_err he]
    refine (bytes_err R D l A n cap w most e (beq_of he) hR).mono ?_
    intro en w' hM
    exact ⟨none, 0, 0, w.heap.size, .inl rfl, Nat.le_refl _, Lib.hid rfl, hM⟩
theorem m_text (most : Int) (e : Int) (hR : RdAt w R D l e A n cap) :
    Calls Try.prog 22 #[.pointer (some ⟨R, 0, none⟩), .int .i64 most] w (Meth R D (.string (pick (tE most l) e ⟨#[]⟩ (strL (sX l)))) (stL (tE most l) (sK l) l e) (stE (tE most l) e) w) := by
  by_cases he : e = 0
  · subst he
    rw [stE_0]
    by_cases hE : sE most l = 0
    · by_cases hp : plain (sX l) = true
      · have hT : tE most l = 0 := by rw [tE, if_pos hE, if_pos hp]
        rw [stL_ok hT, pick_ok hT, hT]
        exact text_good R D l A n cap w most (strL (sX l)) (l.drop (sK l)) hR fun W hW => rtext_ok R D W most (sX l) _ hp (rbytes_good_any R D l A n cap W most hE hW)
      · have hT : tE most l = 2 := by rw [tE, if_pos hE, if_neg hp]
        rw [hT, stL_bad (by decide), pick_bad (by decide)]
        exact text_bad R D l A n cap w most 2 rfl hR fun W hW => rtext_form R D W most (sX l) _ (by simpa using hp) (rbytes_good_any R D l A n cap W most hE hW)
    · have hT : tE most l = sE most l := by rw [tE, if_neg hE]
      rw [hT, stL_bad hE, pick_bad hE]
      exact text_bad R D l A n cap w most (sE most l) (beq_of hE) hR fun W hW => rtext_bad R D W most _ (rbytes_bad_any R D l A n cap W most hE hW)
  · rw [stL_err he, stE_err he, pick_err he]
    exact text_err R D l A n cap w most e (beq_of he) hR
theorem m_value (e : Int) (hR : RdAt w R D l e A n cap) :
    Calls Try.prog 24 #[.pointer (some ⟨R, 0, none⟩)] w (Meth R D (valOf (pick (vE l) e 0 (pV (vX l)))) (stL (vE l) (vK l) l e) (stE (vE l) e) w) := by
  by_cases he : e = 0
  · subst he
    have hlen := hR.len
    rw [stE_0]
    by_cases hs : l.length < 1
    · have hE : vE l = 1 := by rw [vE, if_pos hs]
      rw [hE, stL_bad (by decide), pick_bad (by decide)]
      exact value_bad R D l A n cap w 1 rfl hR fun W hW => rvalue_short R D l A n cap W hW (by omega)
    · obtain ⟨v, hv⟩ : ∃ v, Hid (num (l.take 1) = v) := ⟨_, Lib.hid rfl⟩
      have h1 : 1 ≤ n := by omega
      by_cases hx : v < 1 ∨ 16 < v
      · have hE : vE l = 2 := by rw [vE, if_neg hs, hv.out, if_pos hx]
        rw [hE, stL_bad (by decide), pick_bad (by decide)]
        rcases hx with hx | hx
        · exact value_bad R D l A n cap w 2 rfl hR fun W hW => rvalue_form0 R D l A n cap W hW h1 v hv hx
        · exact value_bad R D l A n cap w 2 rfl hR fun W hW => rvalue_form16 R D l A n cap W hW h1 v hv hx
      · by_cases h2 : l.length - 1 < v
        · have hE : vE l = 1 := by rw [vE, if_neg hs, hv.out, if_neg hx, if_pos h2]
          rw [hE, stL_bad (by decide), pick_bad (by decide)]
          exact value_bad R D l A n cap w 1 rfl hR fun W hW => rvalue_short2 R D l A n cap W hW h1 v hv (by omega) (by omega) (by omega)
        · have hX : vX l = (l.drop 1).take v := by rw [vX, hv.out]
          by_cases hp : pE (vX l) = 0
          · have hE : vE l = 0 := by rw [vE, if_neg hs, hv.out, if_neg hx, if_neg h2, if_pos hp]
            rw [stL_ok hE, pick_ok hE, hE, vK, hv.out]
            exact value_good R D l A n cap w (pV (vX l)) (l.drop (1 + v)) hR fun W hW => rvalue_ok R D l A n cap W hW h1 v hv (by omega) (by omega) (by omega) _ (Lib.hid (by rw [← hX]; exact hp)) (Lib.hid (by rw [hX]))
          · have hE : vE l = 5 := by rw [vE, if_neg hs, hv.out, if_neg hx, if_neg h2, if_neg hp]
            rw [hE, stL_bad (by decide), pick_bad (by decide)]
            exact value_bad R D l A n cap w 5 rfl hR fun W hW => rvalue_value R D l A n cap W hW h1 v hv (by omega) (by omega) (by omega) _ (Lib.hid (by rw [← hX])) (beq_of hp)
  · rw [stL_err he, stE_err he, pick_err he]
    exact value_err R D l A n cap w e (beq_of he) hR
end
end Go.Proofs.Ythfimcbjbkbcjaa
