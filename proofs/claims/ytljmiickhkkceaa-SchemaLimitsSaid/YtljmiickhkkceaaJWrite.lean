/- Contracts, joined: WSpec, WNew, WNum, WApp, WWrite, WStr, WRefW. -/
import Derived.Test.YtljmiickhkkceaaWMeth
import Derived.Deep.RegionLaw
import Derived.Lib.ConvBytes
import Derived.Test.YtljmiickhkkceaaJParse
import Derived.Deep.RegionHeld3
namespace Go.Proofs.Ytljmiickhkkceaa
/- The reader of package wire as a machine over lists of bytes. -/
section
open Go.RowKit

/-- Of an element: its error E, and the bytes K that it takes. What is left behind it, the first error behind it, and what is returned. -/
def stL (E : Int) (K : Nat) (l : List Nat) (e : Int) : List Nat := if e = 0 ∧ E = 0 then l.drop K else l
def stE (E e : Int) : Int := if e = 0 then E else e
def pick {α : Type} (E e : Int) (z v : α) : α := if e = 0 ∧ E = 0 then v else z
def uE (k : Int) (l : List Nat) : Int := if k < 1 ∨ 4 < k then 4 else if l.length < k.toNat then 1 else 0
def uV (k : Int) (l : List Nat) : Int := (num (l.take k.toNat) : Nat)
def bE (l : List Nat) : Int := if l.length < 1 then 1 else if 1 < num (l.take 1) then 2 else 0
def bV (l : List Nat) : Bool := num (l.take 1) == 1
def cE (most : Int) (l : List Nat) : Int := if l.length < 2 then 1 else if most < (num (l.take 2) : Int) then 3 else 0
def cV (l : List Nat) : Int := (num (l.take 2) : Nat)
def sE (most : Int) (l : List Nat) : Int := if l.length < 2 then 1 else if most < (num (l.take 2) : Int) then 3 else if l.length - 2 < num (l.take 2) then 1 else 0
def sX (l : List Nat) : List Nat := (l.drop 2).take (num (l.take 2))
def sK (l : List Nat) : Nat := 2 + num (l.take 2)
def tE (most : Int) (l : List Nat) : Int := if sE most l = 0 then (if plain (sX l) = true then 0 else 2) else sE most l
def vX (l : List Nat) : List Nat := (l.drop 1).take (num (l.take 1))
def vE (l : List Nat) : Int := if l.length < 1 then 1 else if num (l.take 1) < 1 ∨ 16 < num (l.take 1) then 2 else if l.length - 1 < num (l.take 1) then 1 else if pE (vX l) = 0 then 0 else 5
def vK (l : List Nat) : Nat := 1 + num (l.take 1)

set_option maxRecDepth 100000 in
theorem stL_err {E : Int} {K : Nat} {l : List Nat} {e : Int} (h : e ≠ 0) : stL E K l e = l := by simp [stL, h]
set_option maxRecDepth 100000 in
theorem stE_err {E e : Int} (h : e ≠ 0) : stE E e = e := by simp [stE, h]
set_option maxRecDepth 100000 in
theorem pick_err {α : Type} {E e : Int} {z v : α} (h : e ≠ 0) : pick E e z v = z := by simp [pick, h]
set_option maxRecDepth 100000 in
theorem stL_bad {E : Int} {K : Nat} {l : List Nat} (h : E ≠ 0) : stL E K l 0 = l := by simp [stL, h]
set_option maxRecDepth 100000 in
theorem stE_0 {E : Int} : stE E 0 = E := by simp [stE]
set_option maxRecDepth 100000 in
theorem pick_bad {α : Type} {E : Int} {z v : α} (h : E ≠ 0) : pick E 0 z v = z := by simp [pick, h]
set_option maxRecDepth 100000 in
theorem stL_ok {E : Int} {K : Nat} {l : List Nat} (h : E = 0) : stL E K l 0 = l.drop K := by simp [stL, h]
set_option maxRecDepth 100000 in
theorem pick_ok {α : Type} {E : Int} {z v : α} (h : E = 0) : pick E 0 z v = v := by simp [pick, h]
set_option maxRecDepth 100000 in
theorem beq_of {e : Int} (h : e ≠ 0) : (e == 0) = false := by simpa using h

section
variable (R D : Nat) (l : List Nat) (A : Option Addr) (n cap : Nat) (w : World)
set_option maxRecDepth 100000 in
theorem m_uint (k : Int) (hk1 : -9223372036854775808 ≤ k) (hk2 : k ≤ 9223372036854775807) (e : Int) (hR : RdAt w R D l e A n cap) :
    Calls Try.prog 69 #[.pointer (some ⟨R, 0, none⟩), .int .i64 k] w (Meth R D (.int .i64 (pick (uE k l) e 0 (uV k l))) (stL (uE k l) k.toNat l e) (stE (uE k l) e) w) := by
  by_cases he : e = 0
  · subst he
    have hlen := hR.len
    rw [stE_0]
    by_cases hk : k < 1 ∨ 4 < k
    · have hE : uE k l = 4 := by simp [uE, hk]
      rw [hE, stL_bad (by decide), pick_bad (by decide)]
      exact uint_bad R D l A n cap w k 4 rfl hR fun W hW => (ruint_bad _ k W hk hk1 hk2).mono fun _ _ ⟨h1, h2⟩ => by subst h1; subst h2; exact .of_same hW _ _
    · obtain ⟨j, rfl⟩ := Int.eq_ofNat_of_zero_le (a := k) (by omega)
      by_cases hs : l.length < j
      · have hE : uE (j : Int) l = 1 := by rw [uE, if_neg hk, if_pos (by simpa using hs)]
        rw [hE, stL_bad (by decide), pick_bad (by decide)]
        exact uint_bad R D l A n cap w j 1 rfl hR fun W hW => (ruint_short R j A n cap W hW.c0 (by omega) (by omega) (by omega)).mono fun _ _ ⟨h1, h2⟩ => by subst h1; subst h2; exact .of_same hW _ _
      · have hE : uE (j : Int) l = 0 := by rw [uE, if_neg hk, if_neg (by simpa using hs)]
        rw [stL_ok hE, pick_ok hE, hE]
        exact uint_good R D l A n cap w j (uV j l) (l.drop j) hR fun W hW => (ruint_ok R D j l 0 A n cap W hW (by omega) (by omega) (by omega)).mono fun _ _ ⟨h1, h2⟩ => by subst h1; subst h2; exact .of_skip hW j (by omega) _
  · rw [stL_err he, stE_err he, pick_err he]
    exact uint_err R D l A n cap w k e (beq_of he) hR
set_option maxRecDepth 100000 in
theorem m_bool (e : Int) (hR : RdAt w R D l e A n cap) :
    Calls Try.prog 72 #[.pointer (some ⟨R, 0, none⟩)] w (Meth R D (.bool (pick (bE l) e false (bV l))) (stL (bE l) 1 l e) (stE (bE l) e) w) := by
  by_cases he : e = 0
  · subst he
    have hlen := hR.len
    rw [stE_0]
    by_cases hs : l.length < 1
    · have hE : bE l = 1 := by rw [bE, if_pos hs]
      rw [hE, stL_bad (by decide), pick_bad (by decide)]
      exact bool_bad R D l A n cap w 1 rfl hR fun W hW => (rbool_short R D l A n cap W 0 hW (by omega)).mono fun _ _ ⟨h1, h2⟩ => by subst h1; subst h2; exact .of_same hW _ _
    · obtain ⟨v, hv⟩ : ∃ v, Hid (num (l.take 1) = v) := ⟨_, Lib.hid rfl⟩
      have h1 : 1 ≤ n := by omega
      by_cases hx : 1 < v
      · have hE : bE l = 2 := by rw [bE, if_neg hs, hv.out, if_pos hx]
        rw [hE, stL_bad (by decide), pick_bad (by decide)]
        exact bool_bad R D l A n cap w 2 rfl hR fun W hW => (rbool_form R D l A n cap W 0 hW h1 v hv hx).mono fun _ _ ⟨h1', h2⟩ => by subst h1'; subst h2; exact .of_skip hW 1 h1 _ _
      · have hE : bE l = 0 := by rw [bE, if_neg hs, hv.out, if_neg hx]
        rw [stL_ok hE, pick_ok hE, hE]
        by_cases h0 : v = 0
        · have hb : bV l = false := by rw [bV, hv.out, h0]; rfl
          rw [hb]
          exact bool_good R D l A n cap w false (l.drop 1) hR fun W hW => (rbool_0 R D l A n cap W 0 hW h1 v hv h0).mono fun _ _ ⟨h1', h2⟩ => by subst h1'; subst h2; exact .of_skip hW 1 h1 _
        · have hb : bV l = true := by rw [bV, hv.out, show v = 1 by omega]; rfl
          rw [hb]
          exact bool_good R D l A n cap w true (l.drop 1) hR fun W hW => (rbool_1 R D l A n cap W 0 hW h1 v hv (by omega)).mono fun _ _ ⟨h1', h2⟩ => by subst h1'; subst h2; exact .of_skip hW 1 h1 _
  · rw [stL_err he, stE_err he, pick_err he]
    exact bool_err R D l A n cap w e (beq_of he) hR
set_option maxRecDepth 100000 in
theorem m_count (most : Int) (e : Int) (hR : RdAt w R D l e A n cap) :
    Calls Try.prog 78 #[.pointer (some ⟨R, 0, none⟩), .int .i64 most] w (Meth R D (.int .i64 (pick (cE most l) e 0 (cV l))) (stL (cE most l) 2 l e) (stE (cE most l) e) w) := by
  by_cases he : e = 0
  · subst he
    have hlen := hR.len
    rw [stE_0]
    by_cases hs : l.length < 2
    · have hE : cE most l = 1 := by rw [cE, if_pos hs]
      rw [hE, stL_bad (by decide), pick_bad (by decide)]
      exact count_bad R D l A n cap w most 1 rfl hR fun W hW => (rcount_short R D l A n cap W 0 hW most (by omega)).mono fun _ _ ⟨h1, h2⟩ => by subst h1; subst h2; exact .of_same hW _ _
    · obtain ⟨v, hv⟩ : ∃ v, Hid (num (l.take 2) = v) := ⟨_, Lib.hid rfl⟩
      have h1 : 2 ≤ n := by omega
      by_cases hx : most < (v : Int)
      · have hE : cE most l = 3 := by rw [cE, if_neg hs, hv.out, if_pos hx]
        rw [hE, stL_bad (by decide), pick_bad (by decide)]
        exact count_bad R D l A n cap w most 3 rfl hR fun W hW => (rcount_limit R D l A n cap W 0 hW h1 v hv most hx).mono fun _ _ ⟨h1', h2⟩ => by subst h1'; subst h2; exact .of_skip hW 2 h1 _ _
      · have hE : cE most l = 0 := by rw [cE, if_neg hs, hv.out, if_neg hx]
        rw [stL_ok hE, pick_ok hE, hE, cV, hv.out]
        exact count_good R D l A n cap w most v (l.drop 2) hR fun W hW => (rcount_ok R D l A n cap W 0 hW h1 v hv most (by omega)).mono fun _ _ ⟨h1', h2⟩ => by subst h1'; subst h2; exact .of_skip hW 2 h1 _
  · rw [stL_err he, stE_err he, pick_err he]
    exact count_err R D l A n cap w most e (beq_of he) hR
set_option maxRecDepth 100000 in
/-- readBytes at one go. -/
theorem rbytes_bad_any (most : Int) (hE : sE most l ≠ 0) (hR : RdAt w R D l 0 A n cap) : Calls Try.prog 127 #[.pointer (some ⟨R, 0, none⟩), .int .i64 most] w (BadB R D (sE most l) w) := by
  have hlen := hR.len
  by_cases hs : l.length < 2
  · have hE : sE most l = 1 := by rw [sE, if_pos hs]
    rw [hE]
    exact rbytes_short R D l A n cap w hR most (by omega)
  · obtain ⟨v, hv⟩ : ∃ v, Hid (num (l.take 2) = v) := ⟨_, Lib.hid rfl⟩
    by_cases hx : most < (v : Int)
    · have hE : sE most l = 3 := by rw [sE, if_neg hs, hv.out, if_pos hx]
      rw [hE]
      exact rbytes_limit R D l A n cap w hR most (by omega) v hv hx
    · by_cases h2 : l.length - 2 < v
      · have hE : sE most l = 1 := by rw [sE, if_neg hs, hv.out, if_neg hx, if_pos h2]
        rw [hE]
        exact rbytes_short2 R D l A n cap w hR most (by omega) v hv (by omega) (by omega)
      · exact absurd (by rw [sE, if_neg hs, hv.out, if_neg hx, if_neg h2]) hE
set_option maxRecDepth 100000 in
theorem rbytes_good_any (most : Int) (hE : sE most l = 0) (hR : RdAt w R D l 0 A n cap) : Calls Try.prog 127 #[.pointer (some ⟨R, 0, none⟩), .int .i64 most] w (GoodB R D (sX l) (l.drop (sK l)) w) := by
  have hlen := hR.len
  by_cases hs : l.length < 2
  · rw [sE, if_pos hs] at hE
    exact absurd hE (by decide)
  · obtain ⟨v, hv⟩ : ∃ v, Hid (num (l.take 2) = v) := ⟨_, Lib.hid rfl⟩
    rw [sE, if_neg hs, hv.out] at hE
    by_cases hx : most < (v : Int)
    · rw [if_pos hx] at hE
      exact absurd hE (by decide)
    · rw [if_neg hx] at hE
      by_cases h2 : l.length - 2 < v
      · rw [if_pos h2] at hE
        exact absurd hE (by decide)
      · rw [sX, sK, hv.out]
        exact rbytes_ok R D l A n cap w hR most (by omega) v hv (by omega) (by omega)
/-- What Bytes returns: the bytes x, or nil. -/
def MethS (R D : Nat) (x l' : List Nat) (e' : Int) (w : World) (en : Ending) (w' : World) : Prop :=
  ∃ A n cap g, ReadsL w' g A x ∧ w.heap.size ≤ g ∧ Hid (n = x.length) ∧ Meth R D (.slice A n cap) l' e' w en w'
set_option maxRecDepth 100000 in
theorem m_text (most : Int) (e : Int) (hR : RdAt w R D l e A n cap) :
    Calls Try.prog 76 #[.pointer (some ⟨R, 0, none⟩), .int .i64 most] w (Meth R D (.string (pick (tE most l) e ⟨#[]⟩ (strL (sX l)))) (stL (tE most l) (sK l) l e) (stE (tE most l) e) w) := by
  by_cases he : e = 0
  · subst he
    rw [stE_0]
    by_cases hE : sE most l = 0
    · by_cases hp : plain (sX l) = true
      · have hT : tE most l = 0 := by rw [tE, if_pos hE, if_pos hp]
        rw [stL_ok hT, pick_ok hT, hT]
        exact text_good R D l A n cap w most (strL (sX l)) (l.drop (sK l)) hR fun W hW => rtext_ok R D W most (sX l) _ hp (rbytes_good_any R D l A n cap W most hE hW)
      · have hT : tE most l = 2 := by rw [tE, if_pos hE, if_neg hp]
        rw [hT, stL_bad (by decide), pick_bad (by decide)]
        exact text_bad R D l A n cap w most 2 rfl hR fun W hW => rtext_form R D W most (sX l) _ (by simpa using hp) (rbytes_good_any R D l A n cap W most hE hW)
    · have hT : tE most l = sE most l := by rw [tE, if_neg hE]
      rw [hT, stL_bad hE, pick_bad hE]
      exact text_bad R D l A n cap w most (sE most l) (beq_of hE) hR fun W hW => rtext_bad R D W most _ (rbytes_bad_any R D l A n cap W most hE hW)
  · rw [stL_err he, stE_err he, pick_err he]
    exact text_err R D l A n cap w most e (beq_of he) hR
set_option maxRecDepth 100000 in
theorem m_value (e : Int) (hR : RdAt w R D l e A n cap) :
    Calls Try.prog 74 #[.pointer (some ⟨R, 0, none⟩)] w (Meth R D (valOf (pick (vE l) e 0 (pV (vX l)))) (stL (vE l) (vK l) l e) (stE (vE l) e) w) := by
  by_cases he : e = 0
  · subst he
    have hlen := hR.len
    rw [stE_0]
    by_cases hs : l.length < 1
    · have hE : vE l = 1 := by rw [vE, if_pos hs]
      rw [hE, stL_bad (by decide), pick_bad (by decide)]
      exact value_bad R D l A n cap w 1 rfl hR fun W hW => rvalue_short R D l A n cap W hW (by omega)
    · obtain ⟨v, hv⟩ : ∃ v, Hid (num (l.take 1) = v) := ⟨_, Lib.hid rfl⟩
      have h1 : 1 ≤ n := by omega
      by_cases hx : v < 1 ∨ 16 < v
      · have hE : vE l = 2 := by rw [vE, if_neg hs, hv.out, if_pos hx]
        rw [hE, stL_bad (by decide), pick_bad (by decide)]
        rcases hx with hx | hx
        · exact value_bad R D l A n cap w 2 rfl hR fun W hW => rvalue_form0 R D l A n cap W hW h1 v hv hx
        · exact value_bad R D l A n cap w 2 rfl hR fun W hW => rvalue_form16 R D l A n cap W hW h1 v hv hx
      · by_cases h2 : l.length - 1 < v
        · have hE : vE l = 1 := by rw [vE, if_neg hs, hv.out, if_neg hx, if_pos h2]
          rw [hE, stL_bad (by decide), pick_bad (by decide)]
          exact value_bad R D l A n cap w 1 rfl hR fun W hW => rvalue_short2 R D l A n cap W hW h1 v hv (by omega) (by omega) (by omega)
        · have hX : vX l = (l.drop 1).take v := by rw [vX, hv.out]
          by_cases hp : pE (vX l) = 0
          · have hE : vE l = 0 := by rw [vE, if_neg hs, hv.out, if_neg hx, if_neg h2, if_pos hp]
            rw [stL_ok hE, pick_ok hE, hE, vK, hv.out]
            exact value_good R D l A n cap w (pV (vX l)) (l.drop (1 + v)) hR fun W hW => rvalue_ok R D l A n cap W hW h1 v hv (by omega) (by omega) (by omega) _ (Lib.hid (by rw [← hX]; exact hp)) (Lib.hid (by rw [hX]))
          · have hE : vE l = 5 := by rw [vE, if_neg hs, hv.out, if_neg hx, if_neg h2, if_neg hp]
            rw [hE, stL_bad (by decide), pick_bad (by decide)]
            exact value_bad R D l A n cap w 5 rfl hR fun W hW => rvalue_value R D l A n cap W hW h1 v hv (by omega) (by omega) (by omega) _ (Lib.hid (by rw [← hX])) (beq_of hp)
  · rw [stL_err he, stE_err he, pick_err he]
    exact value_err R D l A n cap w e (beq_of he) hR
end
end
/- New, Left, Err, Finish of package wire. -/
section
open Go.RowKit

/-- The call returns a new reader of the bytes l. -/
def RetR (l : List Nat) (w : World) (en : Ending) (w' : World) : Prop :=
  ∃ R D A n cap, en = .returned (.pointer (some ⟨R, 0, none⟩)) ∧ w.heap.size ≤ R ∧ w.heap.size ≤ D ∧ RdAt w' R D l 0 A n cap ∧ Below w.heap.size w w'
set_option maxRecDepth 100000 in
theorem new_any (A : Option Addr) (D n cap : Nat) (l : List Nat) (w : World) (hr : ReadsL w D A l) (hs : Small l) (hl : l.length = n) (hn : n ≤ 1000000) :
    Calls Try.prog 31 #[.slice A n cap] w (RetR l w) := by
  have HR := Lib.hid hr
  have HL := Lib.hid hl
  have HS := Lib.hid hs
  clear hr hl hs
  go_enter Try.func31, Try.ntmps31
  go_wp2_with (go_at_call 67; refine (room_0 A D n cap l _ HR.out HL.out (by omega)).mono ?_; rintro e w1 ⟨A1, n1, cap1, g1, rfl, hn1, ho1, hb1, hg1, hr1, hc1, hm1, hm2, hq1⟩)
  go_ret
  refine ⟨w1.heap.size, g1, A1, n1, cap1, rfl, hb1.size, hg1, ?_, hb1.alloc hb1.size _⟩
  have hL := HL.out
  have hn1' := hn1.out
  exact {
    c0 := by rw [World.cell?_alloc_new]; rfl
    c1 := by rw [World.cell?_alloc_new]; rfl
    f0 := World.frozen?_alloc_new _ _ _ _
    f1 := World.frozen?_alloc_new _ _ _ _
    lt := by simp
    dlt := by simp; omega
    len := hn1'.symm
    le := hc1
    max := by omega
    small := HS.out
    reads := hr1.kept (row := none) (grown_alloc _ _ none) (by simp)
    apart := by omega }
section
variable (R D : Nat) (l : List Nat) (A : Option Addr) (n cap : Nat) (w : World)
set_option maxRecDepth 100000 in
theorem left_any' (e : Int) (hR : RdAt w R D l e A n cap) : Calls Try.prog 80 #[.pointer (some ⟨R, 0, none⟩)] w fun en w' => en = .returned (.int .i64 n) ∧ w = w' := by
  have hc := hR.c0
  clear hR
  go_enter Try.func80, Try.ntmps80
  go_wp2
  go_ret
  exact ⟨rfl, rfl⟩
set_option maxRecDepth 100000 in
theorem err_any (e : Int) (hR : RdAt w R D l e A n cap) : Calls Try.prog 79 #[.pointer (some ⟨R, 0, none⟩)] w fun en w' => en = .returned (.int .i64 e) ∧ w = w' := by
  have hc := hR.c1
  clear hR
  go_enter Try.func79, Try.ntmps79
  go_wp2
  go_ret
  exact ⟨rfl, rfl⟩
set_option maxRecDepth 100000 in
theorem err_nil : Calls Try.prog 79 #[.pointer none] w fun en w' => en = .returned (.int .i64 0) ∧ w = w' := by
  go_enter Try.func79, Try.ntmps79
  go_wp2
  go_ret
  exact ⟨rfl, rfl⟩
set_option maxRecDepth 100000 in
theorem uint_nil (k : Int) : Calls Try.prog 69 #[.pointer none, .int .i64 k] w fun en w' => en = .returned (.int .i64 0) ∧ Below w.heap.size w w' := by
  have hmf := make_func
  go_enter Try.func69, Try.ntmps69
  go_wp2
  go_ret
  exact ⟨rfl, ((Below.refl _ _).alloc (by simp) _).alloc (by simp) _⟩
/-- What Finish says. -/
def fE (l : List Nat) (e : Int) : Int := if e = 0 ∧ 0 < l.length then 2 else e
set_option maxRecDepth 100000 in
theorem finish_any (e : Int) (hR : RdAt w R D l e A n cap) : Calls Try.prog 33 #[.pointer (some ⟨R, 0, none⟩)] w fun en w' => en = .returned (.int .i64 (fE l e)) ∧ w = w' := by
  have HR := Lib.hid hR
  have hlen := hR.len
  by_cases he : e = 0
  · subst he
    by_cases hl : 0 < n
    · have hf : fE l 0 = 2 := by rw [fE, if_pos ⟨rfl, by omega⟩]
      have hl' : 0 < (n : Int) := by omega
      rw [hf]
      clear hR hf hlen hl
      go_enter Try.func33, Try.ntmps33
      go_wp2_with (first | (go_at_call 79; refine (err_any R D l A n cap w 0 HR.out).mono ?_; rintro e w' ⟨rfl, rfl⟩) | (go_at_call 80; refine (left_any' R D l A n cap w 0 HR.out).mono ?_; rintro e w' ⟨rfl, rfl⟩))
      go_ret
      exact ⟨rfl, rfl⟩
    · have hf : fE l 0 = 0 := by rw [fE, if_neg (by omega)]
      have hl' : decide (0 < (n : Int)) = false := by simp; omega
      have hl2 : n = 0 := by omega
      rw [hf]
      clear hR hf hlen hl
      subst hl2
      go_enter Try.func33, Try.ntmps33
      go_wp2_with (first | (go_at_call 79; refine (err_any R D l A 0 cap w 0 HR.out).mono ?_; rintro e w' ⟨rfl, rfl⟩) | (go_at_call 80; refine (left_any' R D l A 0 cap w 0 HR.out).mono ?_; rintro e w' ⟨rfl, rfl⟩))
      go_ret
      exact ⟨rfl, rfl⟩
  · have hf : fE l e = e := by rw [fE, if_neg (by omega)]
    have he' := beq_of he
    rw [hf]
    clear hR hf hlen he
    go_enter Try.func33, Try.ntmps33
    go_wp2_with (first | (go_at_call 79; refine (err_any R D l A n cap w e HR.out).mono ?_; rintro e w' ⟨rfl, rfl⟩) | (go_at_call 80; refine (left_any' R D l A n cap w e HR.out).mono ?_; rintro e w' ⟨rfl, rfl⟩))
    go_ret
    exact ⟨rfl, rfl⟩
end
end
/- Numbers appended: by package wire and by the reference. -/
section
open Go.RowKit

/-- Byte i of the number n. -/
def byteAt (n : Int) (i : Nat) : Nat := (n / 2 ^ (8 * i) % 256).toNat
/-- The first j bytes of the k low bytes of n, the highest first. -/
def encT (n : Int) (k : Nat) : Nat → List Nat
  | 0 => []
  | j + 1 => encT n k j ++ [byteAt n (k - 1 - j)]
def encU (n : Int) (k : Nat) : List Nat := encT n k k
set_option maxRecDepth 100000 in
theorem encT_len (n : Int) (k : Nat) : ∀ j, (encT n k j).length = j
  | 0 => rfl
  | j + 1 => by rw [encT, List.length_append, encT_len n k j]; rfl
set_option maxRecDepth 100000 in
theorem encU_len (n : Int) (k : Nat) : (encU n k).length = k := encT_len n k k
set_option maxRecDepth 100000 in
theorem byteAt_lt (n : Int) (i : Nat) : byteAt n i < 256 := by unfold byteAt; omega
set_option maxRecDepth 100000 in
theorem encT_small (n : Int) (k : Nat) : ∀ j, Small (encT n k j)
  | 0 => Small.nil
  | j + 1 => (encT_small n k j).append fun x hx => by rw [List.mem_singleton.1 hx]; exact byteAt_lt n _
set_option maxRecDepth 100000 in
theorem encU_small (n : Int) (k : Nat) : Small (encU n k) := encT_small n k k

/-- The slice v is a row of one's own, not below block B, and holds the bytes l. -/
def Own (w : World) (B : Nat) (v : Value) (l : List Nat) : Prop := w.ownsRow B 5 1 v l.length (cellsOf l)
/-- Where the row of v' is that grew out of v: in the same block, or in a new one. -/
def At (w : World) (v v' : Value) : Prop := v'.ownBlock = v.ownBlock ∨ ∃ g, v'.ownBlock = some g ∧ w.heap.size ≤ g
/-- The call returns the row v grown to l. -/
def Grows (B : Nat) (l : List Nat) (v : Value) (w : World) (en : Ending) (w' : World) : Prop := ∃ v', en = .returned v' ∧ Own w' B v' l ∧ w.grownBy w' v.ownBlock ∧ At w v v'
set_option maxRecDepth 100000 in
theorem Own.base {w : World} {B : Nat} {v : Value} {l : List Nat} (h : Own w B v l) {B' : Nat} (hb : B' ≤ B) : Own w B' v l := World.ownsRow.mono h hb
set_option maxRecDepth 100000 in
theorem Own.kept {w w' : World} {B : Nat} {v : Value} {l : List Nat} {row : Option Nat} (h : Own w B v l) (hg : w.grownBy w' row) (hr : v.ownBlock = none ∨ v.ownBlock ≠ row) : Own w' B v l := World.ownsRow.kept h hg hr
set_option maxRecDepth 100000 in
theorem Own.below {w w' : World} {B : Nat} {v : Value} {l : List Nat} (h : Own w B v l) (hb : Below w.heap.size w w') : Own w' B v l :=
  h.kept (grown_of_below hb none) (by cases v.ownBlock <;> simp)
set_option maxRecDepth 100000 in
/-- A row that grew out of v, or v: a step of grownBy composes. -/
theorem grown_step {w w1 w2 : World} {v v1 : Value} (h : w.grownBy w1 v.ownBlock) (ha : At w v v1) (k : w1.grownBy w2 v1.ownBlock) : w.grownBy w2 v.ownBlock :=
  h.andThen k fun j hj => by
    rcases ha with e | ⟨g, e, hg⟩
    · exact .inr (by rw [← e, hj])
    · rw [e] at hj
      injection hj with hj
      exact .inl (by omega)
set_option maxRecDepth 100000 in
theorem At.step {w w1 : World} {row : Option Nat} {v v1 v2 : Value} (h : w.grownBy w1 row) (ha : At w v v1) (k : At w1 v1 v2) : At w v v2 := by
  rcases k with e | ⟨g, e, hg⟩
  · rcases ha with e1 | ⟨g1, e1, hg1⟩
    · exact .inl (e.trans e1)
    · exact .inr ⟨g1, e.trans e1, hg1⟩
  · exact .inr ⟨g, e, Nat.le_trans h.size hg⟩

set_option maxRecDepth 100000 in
theorem Own.snoc {w : World} {B : Nat} {v : Value} {l : List Nat} {x : Int} {y : Nat} (h : w.ownsRow B 5 1 v (l.length + 1) (cellsOf l ++ [.int .u8 x])) (hx : (y : Int) = x) : Own w B v (l ++ [y]) := by
  subst hx
  unfold Own
  rw [cellsOf_append, List.length_append]
  exact h
set_option maxRecDepth 100000 in
theorem byteAt_int (n : Int) (i : Nat) : (byteAt n i : Int) = n / 2 ^ (8 * i) % 256 := by
  unfold byteAt
  rw [Int.toNat_of_nonneg (Int.emod_nonneg _ (by decide))]
set_option maxRecDepth 100000 in
set_option maxHeartbeats 1000000 in
theorem num_any (v : Value) (n : Int) (k : Nat) (l : List Nat) (B : Nat) (w : World) (hk : k ≤ 4) (hn1 : -9223372036854775808 ≤ n) (hn2 : n ≤ 9223372036854775807) (hl : l.length ≤ 4000000) (hB : B ≤ w.heap.size) (hO : Own w B v l) :
    Calls Try.prog 114 #[v, .int .i64 n, .int .i64 k] w (Grows B (l ++ encU n k) v w) := by
  obtain ⟨i0, hi0, hz0, hy1, hy2⟩ := info_parts info_w8
  have HI := Lib.hid hi0
  have HZ := Lib.hid hz0
  have HY1 := Lib.hid hy1
  have HY2 := Lib.hid hy2
  have HO := Lib.hid hO
  have HN1 := Lib.hid hn1
  have HN2 := Lib.hid hn2
  clear hi0 hz0 hy1 hy2 hO hn1 hn2
  go_enter Try.func114, Try.ntmps114
  go_wp2
  go_loopw [0, 7] (fun v' i w' => ∃ j : Nat, j ≤ k ∧ i = .int .i64 ((k : Int) - 1 - j) ∧ Own w' B v' (l ++ encT n k j) ∧ w.grownBy w' v.ownBlock ∧ At w v v') (fun _ i _ => (intOf i + 1).toNat)
  case atStart => exact ⟨0, by omega, by simp, by simpa [encT] using HO.out, World.grownBy.refl _ _, .inl rfl⟩
  case round =>
    obtain ⟨j, hj, rfl, hW, hg, ha⟩ := hrel
    by_cases hlt : j < k
    · obtain ⟨i, hi⟩ : ∃ i : Nat, (k : Int) - 1 - j = i := ⟨k - 1 - j, by omega⟩
      have hi3 : i ≤ 3 := by omega
      have h0 : 0 ≤ (i : Int) := by omega
      have hi4 : (i : Int) ≤ 3 := by omega
      have HI2 := Lib.hid hi
      rw [hi]
      clear hi
      have hlen : (l ++ encT n k j).length + 1 ≤ 4000010 := by rw [List.length_append, encT_len]; omega
      have HLen := Lib.hid hlen
      have HB := Lib.hid (Nat.le_trans hB hg.size)
      have hW' := Lib.hid hW
      have hg' := Lib.hid hg
      have ha' := Lib.hid ha
      clear hW hg ha hlen
      go_wp2_with (at_builtin; (refine wpList_append_own_at _ rfl (.tmp 14) (.tmp 20) 32 rfl B 5 i0 _ 1 1 Try.underlying32 HI.out HZ.out HY1.out HY2.out rfl (by omega) _ _ (cellsOf (l ++ encT n k j)) rfl (hW'.out.alloc _) ⟨wr.heap.size, 0, none⟩ 1 1 [.int .u8 (n / 2 ^ (8 * i) % 256)] rfl rfl (cell_one_new _ _ _) (by simp [Value.oneCell']) (by have := HLen.out; unfold maxLen; omega) (by have := HLen.out; omega) (by have := HB.out; simp; omega) ?_; intro v1 w1 hown1 hg1 _ hat1))
      go_roundw
      case rel =>
        refine ⟨j + 1, by omega, by have := HI2.out; (congr 1 <;> omega), ?_, ?_, ?_⟩
        · have hij : k - 1 - j = i := by have := HI2.out; omega
          rw [encT, hij, ← List.append_assoc]
          exact Own.snoc hown1 (byteAt_int n i)
        · exact grown_step hg'.out ha'.out ((grown_alloc wr _ _).trans hg1)
        · exact At.step hg'.out ha'.out (hat1.imp id fun e => ⟨_, e, by simp⟩)
      case measure => simp [intOf]
    · have h0 : decide (0 ≤ (k : Int) - 1 - j) = false := by simp; omega
      obtain rfl : j = k := by omega
      go_wp2
      go_ret
      exact ⟨_, rfl, hW, hg, ha⟩
set_option maxRecDepth 100000 in
set_option maxHeartbeats 1000000 in
theorem rnum_any (v : Value) (n : Int) (k : Nat) (l : List Nat) (B : Nat) (w : World) (hk0 : 1 ≤ k) (hk : k ≤ 4) (hn1 : -9223372036854775808 ≤ n) (hn2 : n ≤ 9223372036854775807) (hl : l.length ≤ 4000000) (hB : B ≤ w.heap.size) (hO : Own w B v l) :
    Calls Try.prog 62 #[v, .int .i64 n, .int .i64 k] w (Grows B (l ++ encU n k) v w) := by
  obtain ⟨i0, hi0, hz0, hy1, hy2⟩ := info_parts info_w8
  have HI := Lib.hid hi0
  have HZ := Lib.hid hz0
  have HY1 := Lib.hid hy1
  have HY2 := Lib.hid hy2
  have HO := Lib.hid hO
  have HN1 := Lib.hid hn1
  have HN2 := Lib.hid hn2
  clear hi0 hz0 hy1 hy2 hO hn1 hn2
  have q1 : decide ((k : Int) < 1) = false := by simp; omega
  have q2 : decide (4 < (k : Int)) = false := by simp; omega
  go_enter Try.func62, Try.ntmps62
  go_wp2
  go_loopw [0, 7] (fun v' i w' => ∃ j : Nat, j ≤ k ∧ i = .int .i64 ((k : Int) - 1 - j) ∧ Own w' B v' (l ++ encT n k j) ∧ w.grownBy w' v.ownBlock ∧ At w v v') (fun _ i _ => (intOf i + 1).toNat)
  case atStart => exact ⟨0, by omega, by simp, by simpa [encT] using HO.out, World.grownBy.refl _ _, .inl rfl⟩
  case round =>
    obtain ⟨j, hj, rfl, hW, hg, ha⟩ := hrel
    by_cases hlt : j < k
    · obtain ⟨i, hi⟩ : ∃ i : Nat, (k : Int) - 1 - j = i := ⟨k - 1 - j, by omega⟩
      have hi3 : i ≤ 3 := by omega
      have h0 : 0 ≤ (i : Int) := by omega
      have hi4 : (i : Int) ≤ 3 := by omega
      have HI2 := Lib.hid hi
      rw [hi]
      clear hi
      have hlen : (l ++ encT n k j).length + 1 ≤ 4000010 := by rw [List.length_append, encT_len]; omega
      have HLen := Lib.hid hlen
      have HB := Lib.hid (Nat.le_trans hB hg.size)
      have hW' := Lib.hid hW
      have hg' := Lib.hid hg
      have ha' := Lib.hid ha
      clear hW hg ha hlen
      go_wp2_with (at_builtin; (refine wpList_append_own_at _ rfl (.tmp 21) (.tmp 28) 32 rfl B 5 i0 _ 1 1 Try.underlying32 HI.out HZ.out HY1.out HY2.out rfl (by omega) _ _ (cellsOf (l ++ encT n k j)) rfl (hW'.out.alloc _) ⟨wr.heap.size, 0, none⟩ 1 1 [.int .u8 (n / 2 ^ (8 * i) % 256)] rfl rfl (cell_one_new _ _ _) (by simp [Value.oneCell']) (by have := HLen.out; unfold maxLen; omega) (by have := HLen.out; omega) (by have := HB.out; simp; omega) ?_; intro v1 w1 hown1 hg1 _ hat1))
      go_roundw
      case rel =>
        refine ⟨j + 1, by omega, by have := HI2.out; (congr 1 <;> omega), ?_, ?_, ?_⟩
        · have hij : k - 1 - j = i := by have := HI2.out; omega
          rw [encT, hij, ← List.append_assoc]
          exact Own.snoc hown1 (byteAt_int n i)
        · exact grown_step hg'.out ha'.out ((grown_alloc wr _ _).trans hg1)
        · exact At.step hg'.out ha'.out (hat1.imp id fun e => ⟨_, e, by simp⟩)
      case measure => simp [intOf]
    · have h0 : decide (0 ≤ (k : Int) - 1 - j) = false := by simp; omega
      obtain rfl : j = k := by omega
      go_wp2
      go_ret
      exact ⟨_, rfl, hW, hg, ha⟩
set_option maxRecDepth 100000 in
theorem rnum_bad (v : Value) (n k : Int) (w : World) (hk : k < 1 ∨ 4 < k) : Calls Try.prog 62 #[v, .int .i64 n, .int .i64 k] w fun e w' => e = .returned v ∧ w = w' := by
  by_cases h : k < 1
  · clear hk
    go_enter Try.func62, Try.ntmps62
    go_wp2
    go_ret
    exact ⟨rfl, rfl⟩
  · have h1 : decide (k < 1) = false := by simp; omega
    have h2 : 4 < k := by omega
    clear hk h
    go_enter Try.func62, Try.ntmps62
    go_wp2
    go_ret
    exact ⟨rfl, rfl⟩
end
/- append of bytes that can be read (none, nil or more) to a row of one's own. -/
section
open Go.RowKit

set_option maxRecDepth 100000 in
theorem Own.more {w : World} {B : Nat} {v : Value} {l x : List Nat} {n2 : Nat} (h : w.ownsRow B 5 1 v (l.length + n2) (cellsOf l ++ cellsOf x)) (hx : x.length = n2) : Own w B v (l ++ x) := by
  subst hx
  unfold Own
  rw [cellsOf_append, List.length_append]
  exact h
set_option maxRecDepth 100000 in
theorem run_app {w : World} {B D n2 cap2 : Nat} {v : Value} {A2 : Option Addr} {l x : List Nat} (ty : TypeId) (hO : Own w B v l) (hr : ReadsL w D A2 x) (hx : x.length = n2) (hl : l.length + n2 ≤ 100000000) (hB : B ≤ w.heap.size) :
    ∃ v' w', (Builtin.append_ #[32, 32] ty #[v, .slice A2 n2 cap2]).run Try.prog w = .ok v' w' ∧ Own w' B v' (l ++ x) ∧ w.grownBy w' v.ownBlock ∧ At w v v' := by
  obtain ⟨i0, hi0, hz0, hy1, hy2⟩ := info_parts info_w8
  rcases A2 with _ | ad
  · have h0 : x = [] := hr.resolve_right (fun ⟨_, h, _⟩ => by cases h)
    subst h0
    obtain rfl : n2 = 0 := hx.symm
    refine ⟨v, w, ?_, by simpa using hO, World.grownBy.refl _ _, .inl rfl⟩
    rcases hO.2 with ⟨rfl, _⟩ | ⟨g, cap, cur, rfl, _, _, hnc, _⟩
    · simp [Builtin.append_, run_underlying Try.underlying32, sizeOf, typeInfo, hi0, Builtin.lenOf, Builtin.firstCells]
    · simp [Builtin.append_, run_underlying Try.underlying32, sizeOf, typeInfo, hi0, Builtin.lenOf, Builtin.firstCells, hnc, storeCells]
  · have hcells : ∀ j u, (cellsOf x)[j]? = some u → w.cell? (ad.add j) = some u := by
      intro j u hu
      have hj : j < x.length := by have := (List.getElem?_eq_some_iff.1 hu).1; rwa [cellsOf_len] at this
      rcases hr with h0 | ⟨o, he, hd, hc⟩
      · rw [h0] at hj; simp at hj
      · injection he with he
        subst he
        rw [cellsOf_get hj] at hu
        rw [Addr.add_mid, hc j hj, hu]
    obtain ⟨v', w', hrun, h2, h3, _, h5⟩ := run_append_own_at (P := Try.prog) w B 32 ty 5 i0 _ 1 1 Try.underlying32 hi0 hz0 hy1 hy2 rfl (by omega) v l.length (cellsOf l) hO ad n2 cap2 (cellsOf x) (by rw [cellsOf_len, hx, Nat.mul_one]) hcells (cellsOf_one x) (by unfold maxLen; omega) (by omega) hB
    exact ⟨v', w', hrun, Own.more h2 hx, h3, h5.imp id fun e => ⟨_, e, Nat.le_refl _⟩⟩
theorem wpList_app {w : World} {ops : Array Oper} {rest : List Oper} {o : Oper} {a : Act} {Q : Exit → Act → World → Prop} (hgd : o.guard = none) (s x : Operand)
    (ho : o.op = .call { callee := .builtin .append, args := #[s, x], argTypes := #[32, 32] })
    {B D n2 cap2 : Nat} {v : Value} {A2 : Option Addr} {l xs : List Nat} (hs : a.eval s = v) (hO : Own w B v l) (hx : a.eval x = .slice A2 n2 cap2) (hr : ReadsL w D A2 xs) (hxl : xs.length = n2) (hl : l.length + n2 ≤ 100000000) (hB : B ≤ w.heap.size)
    (h : ∀ v' w', Own w' B v' (l ++ xs) → w.grownBy w' v.ownBlock → At w v v' → wpList Try.prog ops Q rest (a.put o.dst v') w') : wpList Try.prog ops Q (o :: rest) a w := by
  refine wpList_plain hgd fun K hK => ?_
  obtain ⟨v', w', hrun, h2, h3, h4⟩ := run_app (cap2 := cap2) o.type hO hr hxl hl hB
  unfold Oper.wp execOp
  simp only [ho, resolve, invoke, builtin, Sem.run_bind, Sem.run_pure, Result.andThen_ok, List.map_toArray, List.map_cons, List.map_nil, hs, hx, hrun]
  exact hK _ _ (h v' w' h2 h3 h4)
theorem step_app {w : World} {ops : Array Oper} {o : Oper} {a : Act} {K : Act → World → Prop} {Q : Exit → Act → World → Prop} {E : Prop} (hgd : o.guard = none) (s x : Operand)
    (ho : o.op = .call { callee := .builtin .append, args := #[s, x], argTypes := #[32, 32] })
    {B D n2 cap2 : Nat} {v : Value} {A2 : Option Addr} {l xs : List Nat} (hs : a.eval s = v) (hO : Own w B v l) (hx : a.eval x = .slice A2 n2 cap2) (hr : ReadsL w D A2 xs) (hxl : xs.length = n2) (hl : l.length + n2 ≤ 100000000) (hB : B ≤ w.heap.size)
    (h : ∀ v' w', Own w' B v' (l ++ xs) → w.grownBy w' v.ownBlock → At w v v' → K (a.put o.dst v') w') :
    if Region.wanted o (yielded ops a.tmps) = true then Oper.wp Try.prog o a w K Q else E := by
  have hw : Region.wanted o (yielded ops a.tmps) = true := by simp [Region.wanted, hgd]
  rw [if_pos hw]
  obtain ⟨v', w', hrun, h2, h3, h4⟩ := run_app (cap2 := cap2) o.type hO hr hxl hl hB
  unfold Oper.wp execOp
  simp only [ho, resolve, invoke, builtin, Sem.run_bind, Sem.run_pure, Result.andThen_ok, List.map_toArray, List.map_cons, List.map_nil, hs, hx, hrun]
  exact h v' w' h2 h3 h4
end
/- The functions of package wire that append. -/
section
open Go.RowKit

/-- The call returns a slice that holds the bytes l, in a block of its own; nothing that there was is changed. -/
def RetS (l : List Nat) (w : World) (en : Ending) (w' : World) : Prop :=
  ∃ A n cap g, en = .returned (.slice A n cap) ∧ Hid (n = l.length) ∧ ReadsL w' g A l ∧ w.heap.size ≤ g ∧ g < w'.heap.size ∧ Below w.heap.size w w'
set_option maxRecDepth 100000 in
theorem Own.of {w : World} {B : Nat} {A : Option Addr} {n cap : Nat} {l : List Nat} (hn : n = l.length) (h : w.ownsRow B 5 1 (.slice A n cap) n (cellsOf l)) : Own w B (.slice A n cap) l := by
  subst hn
  exact h
set_option maxRecDepth 100000 in
theorem Own.retS {w w' : World} {v : Value} {l : List Nat} (h : Own w' w.heap.size v l) (hlt : w.heap.size < w'.heap.size) (hb : Below w.heap.size w w') : RetS l w (.returned v) w' := by
  rcases h.2 with ⟨rfl, h0⟩ | ⟨g, cap, cur, rfl, hg, hh, hn, hc, hsz, htake⟩
  · obtain rfl : l = [] := List.eq_nil_of_length_eq_zero h0
    exact ⟨none, 0, 0, w.heap.size, rfl, Lib.hid rfl, .inl rfl, Nat.le_refl _, hlt, hb⟩
  · have hgl : g < w'.heap.size := by
      rcases Nat.lt_or_ge g w'.heap.size with h | h
      · exact h
      · rw [Array.getElem?_eq_none h] at hh; cases hh
    refine ⟨_, _, _, g, rfl, Lib.hid rfl, .inr ⟨0, rfl, hgl, fun i hi => ?_⟩, hg, hgl, hb⟩
    rw [Nat.zero_add, World.ownsRow.cellAt h i (by omega), cellsOf_get hi]
set_option maxRecDepth 100000 in
/-- A new block, and rows of one's own above it: nothing that there was is changed. -/
theorem grown_of {w w1 w2 : World} {v : Value} (hlt : ∀ k, v.ownBlock = some k → w.heap.size ≤ k ∧ k < w1.heap.size) (hb : Below w.heap.size w w1) (hg : w1.grownBy w2 v.ownBlock) : w.grownBy w2 none :=
  (grown_of_below hb none).andThen hg fun j hj => .inl (hlt j hj).1
set_option maxRecDepth 100000 in
theorem encU_1 : encU 1 1 = [1] := by decide +kernel
set_option maxRecDepth 100000 in
theorem encU_0 : encU 0 1 = [0] := by decide +kernel

section
variable (A : Option Addr) (D n cap : Nat) (l : List Nat) (w : World)
set_option maxRecDepth 100000 in
theorem auint_any (x : Int) (k : Nat) (hk1 : 1 ≤ k) (hk : k ≤ 4) (hx1 : -9223372036854775808 ≤ x) (hx2 : x ≤ 9223372036854775807) (hr : ReadsL w D A l) (hl : l.length = n) (hn : n ≤ 1000000) :
    Calls Try.prog 81 #[.slice A n cap, .int .i64 x, .int .i64 k] w (RetS (l ++ encU x k) w) := by
  have HR := Lib.hid hr
  have HL := Lib.hid hl
  have H1 := Lib.hid hx1
  have H2 := Lib.hid hx2
  clear hr hl hx1 hx2
  go_enter Try.func81, Try.ntmps81
  go_wp2_with (first
    | (go_at_call 113; refine (isuint_yes k _ hk1 hk).mono ?_; rintro e w' ⟨rfl, rfl⟩)
    | (go_at_call 67; refine (room_any A D n cap k l _ HR.out HL.out (by omega) (by omega)).mono ?_; rintro e w1 ⟨A1, n1, cap1, g1, rfl, hn1, ho1, hb1, hg1, hr1, hc1, hm1, hm2, hq1⟩)
    | (go_at_call 114; refine (num_any (.slice A1 n1 cap1) x k l w.heap.size _ hk H1.out H2.out (by have := HL.out; omega) hb1.size (Own.of hn1.out ho1)).mono ?_; rintro e w2 ⟨v2, rfl, hO2, hg2, ha2⟩))
  go_ret
  refine hO2.retS ?_ (hb1.grown hg2 hb1.size fun j hj => ?_)
  · have := hg2.size; omega
  · exact (World.ownsRow.lt ho1 j hj).1
set_option maxRecDepth 100000 in
theorem auint_bad (x k : Int) (hk : k < 1 ∨ 4 < k) (hr : ReadsL w D A l) (hl : l.length = n) (hn : n ≤ 1000000) :
    Calls Try.prog 81 #[.slice A n cap, .int .i64 x, .int .i64 k] w (RetS l w) := by
  have HR := Lib.hid hr
  have HL := Lib.hid hl
  clear hr hl
  have key : Calls Try.prog 113 #[.int .i64 k] w fun e w' => e = .returned (.bool false) ∧ w = w' := by
    by_cases h : k < 1
    · have h1 : decide (1 ≤ k) = false := by simp; omega
      clear hk
      go_enter Try.func113, Try.ntmps113
      go_wp2
      go_ret
      exact ⟨by simp, rfl⟩
    · have h1 : 1 ≤ k := by omega
      have h2 : decide (k ≤ 4) = false := by simp; omega
      clear hk h
      go_enter Try.func113, Try.ntmps113
      go_wp2
      go_ret
      exact ⟨by simp, rfl⟩
  have HK := Lib.hid key
  clear key hk
  go_enter Try.func81, Try.ntmps81
  go_wp2_with (first
    | (go_at_call 113; refine HK.out.mono ?_; rintro e w' ⟨rfl, rfl⟩)
    | (go_at_call 67; refine (room_0 A D n cap l _ HR.out HL.out (by omega)).mono ?_; rintro e w1 ⟨A1, n1, cap1, g1, rfl, hn1, ho1, hb1, hg1, hr1, hc1, hm1, hm2, hq1⟩))
  go_ret
  exact ⟨_, _, _, g1, rfl, hn1, hr1, hg1, hq1, hb1⟩
set_option maxRecDepth 100000 in
theorem abool_any (x : Bool) (hr : ReadsL w D A l) (hl : l.length = n) (hn : n ≤ 1000000) :
    Calls Try.prog 40 #[.slice A n cap, .bool x] w (RetS (l ++ [if x = true then 1 else 0]) w) := by
  have HR := Lib.hid hr
  have HL := Lib.hid hl
  have H1 := Lib.hid (auint_any A D n cap l w 1 1 (by decide) (by decide) (by decide) (by decide) hr hl hn)
  have H0 := Lib.hid (auint_any A D n cap l w 0 1 (by decide) (by decide) (by decide) (by decide) hr hl hn)
  rw [encU_1] at H1
  rw [encU_0] at H0
  clear hr hl
  cases x
  · go_enter Try.func40, Try.ntmps40
    go_wp2_with (go_at_call 81; refine H0.out.mono ?_; rintro e w1 ⟨A1, n1, cap1, g1, rfl, h1⟩)
    go_ret
    exact ⟨_, _, _, _, rfl, h1⟩
  · go_enter Try.func40, Try.ntmps40
    go_wp2_with (go_at_call 81; refine H1.out.mono ?_; rintro e w1 ⟨A1, n1, cap1, g1, rfl, h1⟩)
    go_ret
    exact ⟨_, _, _, _, rfl, h1⟩
set_option maxRecDepth 100000 in
theorem block_any (A2 : Option Addr) (D2 n2 cap2 k : Nat) (x : List Nat) (hk1 : 1 ≤ k) (hk : k ≤ 4) (hr : ReadsL w D A l) (hl : l.length = n) (hn : n ≤ 1000000) (hr2 : ReadsL w D2 A2 x) (hl2 : x.length = n2) (hn2 : n2 ≤ 1000000) :
    Calls Try.prog 82 #[.slice A n cap, .slice A2 n2 cap2, .int .i64 k] w (RetS (l ++ encU n2 k ++ x) w) := by
  have HR := Lib.hid hr
  have HL := Lib.hid hl
  have HR2 := Lib.hid hr2
  have HL2 := Lib.hid hl2
  clear hr hl hr2 hl2
  have hrm : Calls Try.prog 67 #[.slice A n cap, .int .i64 ((k : Int) + (n2 : Int))] w (RetL l (k + n2) w) := room_any A D n cap (k + n2) l w HR.out HL.out (by omega) (by omega)
  have HRM := Lib.hid hrm
  clear hrm
  go_enter Try.func82, Try.ntmps82
  go_wp2_with (first
    | (go_at_call 67; refine HRM.out.mono ?_; rintro e w1 ⟨A1, n1, cap1, g1, rfl, hn1, ho1, hb1, hg1, hr1, hc1, hm1, hm2, hq1⟩)
    | (go_at_call 114; refine (num_any (.slice A1 n1 cap1) n2 k l w.heap.size _ hk (by omega) (by omega) (by have := HL.out; omega) hb1.size (Own.of hn1.out ho1)).mono ?_; rintro e w2 ⟨v2, rfl, hO2, hg2, ha2⟩; have hgw := grown_of (World.ownsRow.lt ho1) hb1 hg2)
    | (at_builtin; (refine wpList_app rfl (.tmp 17) (.tmp 18) rfl rfl hO2 rfl (HR2.out.kept hgw (by simp)) HL2.out (by rw [List.length_append, encU_len]; have := HL.out; omega) (Nat.le_trans hb1.size hg2.size) ?_; intro v3 w3 hO3 hg3 ha3)))
  go_ret
  refine hO3.retS ?_ ?_
  · have := hg2.size; have := hg3.size; omega
  · exact below_of_grown (hgw.andThen hg3 fun j hj => .inl (World.ownsRow.lt hO2 j hj).1)
/-- The canonical bytes of a. -/
def bl (a : Nat) : List Nat := (List.range (nb a)).map (gb a)
set_option maxRecDepth 100000 in
theorem bl_len (a : Nat) : (bl a).length = nb a := by simp [bl]
set_option maxRecDepth 100000 in
theorem bl_get (a i : Nat) (h : i < nb a) : (bl a).getD i 0 = gb a i := by
  rw [List.getD_eq_getElem?_getD, bl, List.getElem?_map, List.getElem?_range h]
  rfl
set_option maxRecDepth 100000 in
theorem bl_small (a : Nat) : Small (bl a) := fun x hx => by
  obtain ⟨i, _, rfl⟩ := List.mem_map.1 hx
  exact gb_lt a i
set_option maxRecDepth 100000 in
theorem reads_bl {w : World} {b a : Nat} (h : ReadsB w (some ⟨b, 0, none⟩) (nb a) (gb a)) : ReadsL w b (some ⟨b, 0, none⟩) (bl a) ∧ b < w.heap.size := by
  obtain ⟨b', o, he, hb, hc, _⟩ := h.resolve_left (by have := nb_pos a; omega)
  simp only [Option.some.injEq, Addr.mk.injEq, and_true] at he
  obtain ⟨rfl, rfl⟩ := he
  refine ⟨.inr ⟨0, rfl, hb, fun i hi => ?_⟩, hb⟩
  rw [bl_len] at hi
  rw [hc i hi, bl_get a i hi]
set_option maxRecDepth 100000 in
theorem avalue_any (a : Nat) (ha : a < 2 ^ 128) (hr : ReadsL w D A l) (hl : l.length = n) (hn : n ≤ 1000000) :
    Calls Try.prog 42 #[.slice A n cap, .agg #[.int .u64 (hi a), .int .u64 (lo a)]] w (RetS (l ++ encU (nb a) 1 ++ bl a) w) := by
  have HR := Lib.hid hr
  have HL := Lib.hid hl
  have HA := Lib.hid ha
  have HN := Lib.hid (nb_le a ha)
  have hD : ∀ w', Below w.heap.size w w' → ReadsL w' D A l := fun w' h => hr.kept (grown_of_below h none) (by simp)
  have HD := Lib.hid hD
  clear hr hl ha hD
  go_enter Try.func42, Try.ntmps42
  go_wp2_with (first
    | (go_at_call 83; refine (bytes_form a HA.out _).mono ?_; rintro e w1 ⟨b1, cap1, rfl, hr1, hb1⟩; obtain ⟨hr2, hb2⟩ := reads_bl hr1; have hbw : Below w.heap.size w w1 := ((Below.refl _ _).alloc (Nat.le_refl _) _).trans (hb1.mono (by simp)))
    | (go_at_call 82; refine (block_any A D n cap l _ _ b1 (nb a) cap1 1 (bl a) (by decide) (by decide) (HD.out _ hbw) HL.out (by omega) hr2 (bl_len a) (by have := HN.out; omega)).mono ?_; rintro e w2 ⟨A2, n2, cap2, g2, rfl, hn2, h2, hg2, hq2, hb3⟩))
  go_ret
  exact ⟨_, _, _, g2, rfl, hn2, h2, Nat.le_trans hbw.size hg2, hq2, hbw.trans (hb3.mono hbw.size)⟩
set_option maxRecDepth 100000 in
theorem abytes_any (A2 : Option Addr) (D2 n2 cap2 : Nat) (x : List Nat) (hr : ReadsL w D A l) (hl : l.length = n) (hn : n ≤ 1000000) (hr2 : ReadsL w D2 A2 x) (hl2 : x.length = n2) (hn2 : n2 ≤ 65535) (hc2 : n2 ≤ cap2) :
    Calls Try.prog 117 #[.slice A n cap, .slice A2 n2 cap2] w (RetS (l ++ encU n2 2 ++ x) w) := by
  have hB := Lib.hid (block_any A D n cap l w A2 D2 n2 cap2 2 x (by decide) (by decide) hr hl hn hr2 hl2 (by omega))
  have h1 : min (n2 : Int) 65535 = n2 := by omega
  have h2 : (n2 : Int) ≤ (cap2 : Int) := by omega
  clear hr hl hr2 hl2
  go_enter Try.func117, Try.ntmps117
  go_wp2_with (go_at_call 82; refine hB.out.mono ?_; rintro e w2 ⟨A2, n2, cap2, g2, rfl, h2⟩)
  go_ret
  exact ⟨_, _, _, g2, rfl, h2⟩
end
end
/- Strings turned into bytes; AppendText. -/
section
open Go.RowKit Go.Lib

set_option maxRecDepth 100000 in
theorem strN_data (ns : List Int) : ∀ (s : ByteArray), (ns.foldl (fun r n => r.push (UInt8.ofNat n.toNat)) s).data.toList = s.data.toList ++ ns.map fun n => UInt8.ofNat n.toNat := by
  induction ns with
  | nil => simp
  | cons x t ih =>
    intro s
    rw [List.foldl_cons, ih]
    simp
set_option maxRecDepth 100000 in
theorem strL_data (l : List Nat) : (strL l).data.toList = l.map fun x => UInt8.ofNat x := by
  rw [strL, strN, strN_data]
  simp only [List.map_map]
  rfl
set_option maxRecDepth 100000 in
theorem strL_size (l : List Nat) : (strL l).size = l.length := by
  rw [ByteArray.size, ← Array.length_toList, strL_data, List.length_map]
set_option maxRecDepth 100000 in
/-- '[]byte(s)' of the string of the bytes l: a new block that reads so. -/
theorem conv_str (w : World) (l : List Nat) (hs : Small l) : ∃ cap W, (convert 9 32 (.string (strL l))).run Try.prog w = .ok (.slice (some ⟨w.heap.size, 0, none⟩) l.length cap) W ∧
    ReadsL W w.heap.size (some ⟨w.heap.size, 0, none⟩) l ∧ Below w.heap.size w W ∧ w.heap.size < W.heap.size ∧ l.length ≤ cap := by
  refine ⟨grownCap w (strL l).size 0 5, bytesWorld w 5 (strL l), ?_, .inr ⟨0, rfl, ?_, fun i hi => ?_⟩, ?_, ?_, ?_⟩
  · have h := Go.Lib.run_convert_string_bytes w 9 32 5 (strL l) Try.underlying9 Try.underlying32 Try.underlying5
    rwa [strL_size] at h ⊢
  · rw [bytesWorld_size]; omega
  · rw [Nat.zero_add, bytesWorld_cell w _ _ i (by rw [strL_size]; exact hi), strL_data]
    have : (l.map fun x => UInt8.ofNat x).getD i 0 = UInt8.ofNat (l.getD i 0) := by
      rw [List.getD_eq_getElem?_getD, List.getElem?_map, List.getD_eq_getElem?_getD, List.getElem?_eq_getElem hi]
      rfl
    rw [this]
    have h := hs.getD i
    have e : (UInt8.ofNat (l.getD i 0)).toNat = l.getD i 0 := (UInt8.toNat_ofNat' ..).trans (Nat.mod_eq_of_lt h)
    rw [e]
  · exact ⟨rfl, rfl, rfl, by rw [bytesWorld_size]; omega, fun k hk => bytesWorld_at_old w _ _ k hk⟩
  · rw [bytesWorld_size]; omega
  · have := grownCap_ge w (strL l).size 0 5
    rwa [strL_size] at this ⊢

section
variable (A : Option Addr) (D n cap : Nat) (l : List Nat) (w : World)
set_option maxRecDepth 100000 in
theorem atext_any (x : List Nat) (hx : Small x) (hr : ReadsL w D A l) (hl : l.length = n) (hn : n ≤ 1000000) (hn2 : x.length ≤ 65535) :
    Calls Try.prog 85 #[.slice A n cap, .string (strL x)] w (RetS (l ++ encU x.length 2 ++ x) w) := by
  obtain ⟨cap2, W, hcv, hr2, hb, hW, hc2⟩ := conv_str w x hx
  have hB := Lib.hid (abytes_any A D n cap l W _ _ x.length cap2 x (hr.kept (grown_of_below hb none) (by simp)) hl hn hr2 rfl hn2 hc2)
  clear hr hl hr2
  go_enter Try.func85, Try.ntmps85
  go_wp2_with (go_at_call 117; refine hB.out.mono ?_; rintro e w2 ⟨A2, n2, cap2, g2, rfl, hn2, h2, hg2, hq2, hb3⟩)
  go_ret
  exact ⟨_, _, _, g2, rfl, hn2, h2, Nat.le_trans hb.size hg2, hq2, hb.trans (hb3.mono hb.size)⟩
end
end
/- The reference's functions that append. -/
section
open Go.RowKit

set_option maxRecDepth 100000 in
/-- An append of one byte, out of a block that was made for it. -/
theorem reads_one (w : World) (x : Nat) (t : TypeId) : ReadsL (w.alloc (.cells #[.int .u8 x] t)) w.heap.size (some ⟨w.heap.size, 0, none⟩) [x] :=
  .inr ⟨0, rfl, by simp, fun i hi => by
    obtain rfl : i = 0 := by simpa using hi
    rw [World.cell?_alloc_new]; rfl⟩
section
variable (v : Value) (l : List Nat) (B : Nat) (w : World)
set_option maxRecDepth 100000 in
theorem Own.alloc {w : World} {B : Nat} {v : Value} {l : List Nat} (h : Own w B v l) (o : Obj) : Own (w.alloc o) B v l := World.ownsRow.alloc h o
set_option maxRecDepth 100000 in
theorem grow_alloc {w w1 : World} {o : Obj} {v : Value} (h : (w.alloc o).grownBy w1 v.ownBlock) : w.grownBy w1 v.ownBlock := (grown_alloc w o _).trans h
set_option maxRecDepth 100000 in
theorem At.alloc {w : World} {o : Obj} {v v1 : Value} (h : At (w.alloc o) v v1) : At w v v1 := h.imp id fun ⟨g, e, hg⟩ => ⟨g, e, by simp at hg; omega⟩
set_option maxRecDepth 100000 in
theorem grown_undrew {w w1 : World} {row : Option Nat} (h : w.drew.grownBy w1 row) : w.grownBy w1 row := ⟨h.os, h.tape, h.output, h.size, h.block⟩
set_option maxRecDepth 100000 in
theorem rabool_any (x : Bool) (hO : Own w B v l) (hB : B ≤ w.heap.size) (hl : l.length ≤ 4000000) :
    Calls Try.prog 103 #[v, .bool x] w (Grows B (l ++ [if x = true then 1 else 0]) v w) := by
  have HO := Lib.hid hO
  clear hO
  cases x
  · go_enter Try.func103, Try.ntmps103
    go_wp2_with (at_builtin; (refine wpList_app rfl (.tmp 9) (.tmp 10) rfl rfl (HO.out.alloc _) rfl (reads_one w 0 _) rfl (by simp; omega) (by simp; omega) ?_; intro v1 w1 hO1 hg1 ha1))
    go_ret
    exact ⟨_, rfl, hO1, grow_alloc hg1, ha1.alloc⟩
  · go_enter Try.func103, Try.ntmps103
    go_wp2_with (at_builtin; (refine wpList_app rfl (.tmp 6) (.tmp 7) rfl rfl (HO.out.alloc _) rfl (reads_one w 1 _) rfl (by simp; omega) (by simp; omega) ?_; intro v1 w1 hO1 hg1 ha1))
    go_ret
    exact ⟨_, rfl, hO1, grow_alloc hg1, ha1.alloc⟩
set_option maxRecDepth 100000 in
theorem encU_byte (x : Nat) (hx : x < 256) : encU x 1 = [x] := by
  simp only [encU, encT, byteAt, List.nil_append]
  congr 1
  simp
  omega
set_option maxRecDepth 100000 in
theorem ravalue_any (a : Nat) (ha : a < 2 ^ 128) (hO : Own w B v l) (hB : B ≤ w.heap.size) (hl : l.length ≤ 4000000) :
    Calls Try.prog 102 #[v, .agg #[.int .u64 (hi a), .int .u64 (lo a)]] w (Grows B (l ++ encU (nb a) 1 ++ bl a) v w) := by
  have HO := Lib.hid hO
  have HA := Lib.hid ha
  have hn := nb_le a ha
  have HE := Lib.hid (encU_byte (nb a) (by omega))
  have hl2 := bl_len a
  have HL2 := Lib.hid hl2
  have w8 : IntKind.u8.wrap (nb a : Int) = (nb a : Int) := by rw [IntKind.wrap_u8]; omega
  clear hO ha hl2
  go_enter Try.func102, Try.ntmps102
  have HV := Lib.hid (World.ownsRow.lt HO.out)
  go_wp2_with (first
    | (go_at_call 120; refine (rbytesn_any a HA.out _).mono ?_; rintro e w1 ⟨b1, cap1, rfl, hr1, hb1, hnew⟩; obtain ⟨hr2, hb2⟩ := reads_bl hr1; have hbw : Below w.heap.size w w1 := ((Below.refl _ _).alloc (Nat.le_refl _) _).trans (hb1.mono (by simp)))
    | (at_builtin; (refine wpList_app rfl (.tmp 8) (.tmp 12) rfl rfl ((HO.out.below hbw).alloc _) rfl (reads_one w1 (nb a) _) rfl (by simp; omega) (by have := hbw.size; simp; omega) ?_; intro v1 w2 hO1 hg1 ha1))
    | (at_builtin; (have q1 := hO1; clear q1; (refine wpList_app rfl (.tmp 13) (.tmp 14) rfl rfl hO1 rfl (hr2.kept (grow_alloc hg1) (fun e => by have := (HV.out b1 e).2; simp at hnew; omega)) HL2.out (by rw [List.length_append]; simp; omega) (by have := hbw.size; have := hg1.size; simp at this; omega) ?_; intro v2 w3 hO2 hg2 ha2))))
  go_ret
  have g0 := grown_of_below hbw v.ownBlock
  have g1 := g0.trans (grow_alloc hg1)
  have a1 : At w v v1 := ha1.alloc.imp id fun ⟨g, e, hg⟩ => ⟨g, e, Nat.le_trans hbw.size hg⟩
  refine ⟨_, rfl, ?_, grown_step g1 a1 hg2, At.step g1 a1 ha2⟩
  rw [HE.out]
  exact hO2
set_option maxRecDepth 100000 in
theorem rabytes_any (A2 : Option Addr) (D2 n2 cap2 : Nat) (x : List Nat) (hO : Own w B v l) (hB : B ≤ w.heap.size) (hl : l.length ≤ 4000000) (hr2 : ReadsL w D2 A2 x) (hl2 : x.length = n2) (hn2 : n2 ≤ 65535) (hc2 : n2 ≤ cap2) (hd : v.ownBlock ≠ some D2) :
    Calls Try.prog 119 #[v, .slice A2 n2 cap2] w (Grows B (l ++ encU n2 2 ++ x) v w) := by
  have HO := Lib.hid hO
  have HR2 := Lib.hid hr2
  have HL2 := Lib.hid hl2
  have h1 : min (n2 : Int) 65535 = n2 := by omega
  have h2 : (n2 : Int) ≤ (cap2 : Int) := by omega
  have h3 : 0 ≤ (n2 : Int) := by omega
  have HD := Lib.hid hd
  have hU : ∀ W, Own W B v l → B ≤ W.heap.size → Calls Try.prog 62 #[v, .int .i64 n2, .int .i64 2] W (Grows B (l ++ encU n2 2) v W) := fun W h1 h2 => rnum_any v n2 2 l B W (by decide) (by decide) (by omega) (by omega) hl h2 h1
  have HU := Lib.hid hU
  clear hO hr2 hl2 hd hU
  go_enter Try.func119, Try.ntmps119
  go_wp2
  go_region_held3 (fun _ => True) (go_keep) (first
    | (go_at_call 62; refine (HU.out w.drew HO.out hB).mono ?_; rintro e w1 ⟨v1, rfl, hO1, hg0, ha1⟩; have hg1 := grown_undrew hg0)
    | (have q1 := hO1; clear q1; (refine step_app rfl (.tmp 11) (.tmp 14) (by rfl) (by rfl) hO1 (by rfl) (HR2.out.kept hg1 HD.out) HL2.out (by rw [List.length_append, encU_len]; omega) (Nat.le_trans hB hg1.size) ?_; intro v2 w2 hO2 hg2 ha2)))
  go_wp2
  go_ret
  exact ⟨_, rfl, hO2, grown_step hg1 ha1 hg2, At.step hg1 ha1 ha2⟩
set_option maxRecDepth 100000 in
theorem ratext_any (x : List Nat) (hx : Small x) (hO : Own w B v l) (hB : B ≤ w.heap.size) (hl : l.length ≤ 4000000) (hn2 : x.length ≤ 65535) :
    Calls Try.prog 101 #[v, .string (strL x)] w (Grows B (l ++ encU x.length 2 ++ x) v w) := by
  obtain ⟨cap2, W, hcv, hr2, hb, hW, hc2⟩ := conv_str w x hx
  have hC := Lib.hid (rabytes_any v l B W _ w.heap.size x.length cap2 x (hO.below hb) (Nat.le_trans hB hb.size) hl hr2 rfl hn2 hc2 (fun e => by have := (World.ownsRow.lt hO _ e).2; omega))
  clear hO hr2
  go_enter Try.func101, Try.ntmps101
  go_wp2_with (go_at_call 119; refine hC.out.mono ?_; rintro e w2 ⟨v2, rfl, hO2, hg2, ha2⟩)
  go_ret
  exact ⟨_, rfl, hO2, (grown_of_below hb _).trans hg2, ha2.imp id fun ⟨g, e, hg⟩ => ⟨g, e, Nat.le_trans hb.size hg⟩⟩
end
end
end Go.Proofs.Ytljmiickhkkceaa
