/- Decode of bytes that are all 0: the schema without anything, and what is left. -/
import Derived.Test.YtljmiickhkkceaaJSWr
import Derived.StillTailTactics
namespace Go.Proofs.Ytljmiickhkkceaa
open Go.RowKit

/-- The reader has m zeros left; the codec reads from it; the schema in block S has nothing. -/
structure ZAt (W0 : World) (C R D Y K S m : Nat) (w : World) : Prop where
  rd : ∃ A n cap, RdAt w R D (List.replicate m 0) 0 A n cap
  k0 : w.cell? ⟨K, 0, none⟩ = some (.func (Fn.func 68) #[] #[.pointer (some ⟨Y, 0, none⟩)])
  k5 : w.cell? ⟨K, 5, none⟩ = some (.func (Fn.func 77) #[] #[.pointer (some ⟨Y, 0, none⟩)])
  y : w.cell? ⟨Y, 0, none⟩ = some (.pointer (some ⟨R, 0, none⟩))
  s : ∀ i, w.cell? ⟨S, i, none⟩ = #[Value.slice none 0 0, .slice none 0 0, .slice none 0 0, .slice none 0 0, .slice none 0 0, .slice none 0 0, .slice none 0 0, .slice none 0 0, .int .i64 0, .int .i64 0][i]?
  f : ∀ i, w.frozen? ⟨S, i, none⟩ = false
  kr : K ≠ R
  yr : Y ≠ R
  sr : S ≠ R
  sd : S ≠ D
  sk : S ≠ K
  sy : S ≠ Y
  kl : K < w.heap.size
  yl : Y < w.heap.size
  sl : S < w.heap.size
  cr : C ≤ R
  cs : C ≤ S
  below : Below C W0 w
section
variable {W0 : World} {C R D Y K S m : Nat} {w : World}
theorem ZAt.meth {m' : Nat} {w' : World} (h : ZAt W0 C R D Y K S m w) (hg : w.grownBy w' (some R)) (hr : ∃ A n cap, RdAt w' R D (List.replicate m' 0) 0 A n cap) (hC : C ≤ w.heap.size) : ZAt W0 C R D Y K S m' w' :=
  ⟨hr, (cell_kept hg h.kl (fun e => h.kr (by injection e))).trans h.k0, (cell_kept hg h.kl (fun e => h.kr (by injection e))).trans h.k5, (cell_kept hg h.yl (fun e => h.yr (by injection e))).trans h.y,
    fun i => (cell_kept hg h.sl (fun e => h.sr (by injection e))).trans (h.s i), fun i => (frozen_kept hg h.sl (fun e => h.sr (by injection e))).trans (h.f i), h.kr, h.yr, h.sr, h.sd, h.sk, h.sy,
    Nat.lt_of_lt_of_le h.kl hg.size, Nat.lt_of_lt_of_le h.yl hg.size, Nat.lt_of_lt_of_le h.sl hg.size, h.cr, h.cs, h.below.grown hg hC (fun k e => by injection e with e; have := h.cr; omega)⟩
theorem ZAt.drew (h : ZAt W0 C R D Y K S m w) : ZAt W0 C R D Y K S m w.drew :=
  ⟨h.rd.imp fun A => Exists.imp fun n => Exists.imp fun cap k => k.kept (row := none) (grown_of_below (Below.refl _ _).drew none) (by simp) (by simp), h.k0, h.k5, h.y, h.s, h.f, h.kr, h.yr, h.sr, h.sd, h.sk, h.sy, h.kl, h.yl, h.sl, h.cr, h.cs, h.below.drew⟩
theorem ZAt.set (h : ZAt W0 C R D Y K S m w) (j : Nat) (hj : j = 8 ∨ j = 9) : ZAt W0 C R D Y K S m (w.setCell ⟨S, j, none⟩ (.int .i64 0)) := by
  have hg := grown_set w S j (.int .i64 0)
  have hz : (w.setCell ⟨S, j, none⟩ (.int .i64 0)).heap.size = w.heap.size := by simp [World.setCell]
  have hne : ∀ {X : Nat}, S ≠ X → some X ≠ some S := fun hx e => hx (by injection e with e; exact e.symm)
  have hc : w.cell? ⟨S, j, none⟩ = some (.int .i64 0) := by rw [h.s]; rcases hj with rfl | rfl <;> rfl
  refine ⟨h.rd.imp fun A => Exists.imp fun n => Exists.imp fun cap k => k.kept hg (fun e => h.sr (by injection e)) (fun e => h.sd (by injection e)), (cell_kept hg h.kl (hne h.sk)).trans h.k0, (cell_kept hg h.kl (hne h.sk)).trans h.k5, (cell_kept hg h.yl (hne h.sy)).trans h.y,
    fun i => ?_, fun i => (set_froz _ _ _ _ _).trans (h.f i), h.kr, h.yr, h.sr, h.sd, h.sk, h.sy, by rw [hz]; exact h.kl, by rw [hz]; exact h.yl, by rw [hz]; exact h.sl, h.cr, h.cs, h.below.setCell h.cs _⟩
  by_cases hi : j = i
  · subst hi
    rw [set_same _ hc, ← hc, h.s]
  · rw [set_other _ _ _ _ _ hi, h.s]
theorem ZAt.nil (h : ZAt W0 C R D Y K S m w) (j : Nat) (hj : j < 8) : w.cell? ⟨S, j, none⟩ = some (.slice none 0 0) := by
  rw [h.s]
  match j, hj with
  | 0, _ => rfl
  | 1, _ => rfl
  | 2, _ => rfl
  | 3, _ => rfl
  | 4, _ => rfl
  | 5, _ => rfl
  | 6, _ => rfl
  | 7, _ => rfl
theorem z_take (hm : 2 ≤ m) : (List.replicate m 0).take 2 = [0, 0] := by
  obtain ⟨k, rfl⟩ : ∃ k, m = k + 2 := ⟨m - 2, by omega⟩
  rfl
theorem z_u (hm : 2 ≤ m) : uE 2 (List.replicate m 0) = 0 ∧ uV 2 (List.replicate m 0) = 0 := by
  have h2 : ((2 : Int).toNat) = 2 := rfl
  constructor
  · unfold uE
    rw [h2, List.length_replicate, if_neg (by omega), if_neg (by omega)]
  · unfold uV
    rw [h2, z_take hm]
    rfl
theorem z_c (hm : 2 ≤ m) (most : Int) (h0 : 0 ≤ most) : cE most (List.replicate m 0) = 0 ∧ cV (List.replicate m 0) = 0 := by
  have hn : num [0, 0] = 0 := rfl
  constructor
  · unfold cE
    rw [z_take hm, hn, List.length_replicate, if_neg (by omega), if_neg (by simp; omega)]
  · unfold cV
    rw [z_take hm, hn]
    rfl
/-- The call returns nothing; two zeros were read. -/
def ZRet (W0 : World) (C R D Y K S m : Nat) (e : Ending) (w' : World) : Prop := e = .returned (.tuple #[]) ∧ ZAt W0 C R D Y K S m w' ∧ C ≤ w'.heap.size
set_option maxRecDepth 100000 in
theorem znum_any (j : Nat) (hj : j = 8 ∨ j = 9) (hm : 2 ≤ m) (hC : C ≤ w.heap.size) (h : ZAt W0 C R D Y K S m w) :
    Calls Try.prog 68 #[.pointer (some ⟨S, j, none⟩), .pointer (some ⟨Y, 0, none⟩)] w fun e w' => ZRet W0 C R D Y K S (m - 2) e w' := by
  obtain ⟨A, n, cap, hR⟩ := h.rd
  have hu := m_uint R D (List.replicate m 0) A n cap w 2 (by decide) (by decide) 0 hR
  rw [(z_u hm).1, (z_u hm).2] at hu
  have e2 : stL 0 (2 : Int).toNat (List.replicate m 0) 0 = List.replicate (m - 2) 0 := by
    unfold stL
    rw [if_pos ⟨rfl, rfl⟩]
    exact List.drop_replicate ..
  rw [e2] at hu
  have hu2 : Calls Try.prog 69 #[.pointer (some ⟨R, 0, none⟩), .int .i64 2] w (Meth R D (.int .i64 0) (List.replicate (m - 2) 0) 0 w) := hu
  have HU := Lib.hid hu2
  have HZ := Lib.hid h
  have cy := h.y
  clear h hR hu hu2 e2
  go_enter Try.func68, Try.ntmps68
  go_wp2_with (go_at_call 69; refine HU.out.mono ?_; rintro e w1 ⟨rfl, hg1, hr1⟩; have H1 := Lib.hid (HZ.out.meth hg1 hr1 hC); have HS1 := Lib.hid hg1.size; have c1 : w1.cell? ⟨S, j, none⟩ = some (.int .i64 0) := (by rw [H1.out.s]; rcases hj with rfl | rfl <;> rfl); have f1 := H1.out.f j; clear hg1 hr1)
  go_end0
  exact ⟨rfl, H1.out.set j hj, by have := HS1.out; simp [World.setCell]; omega⟩
set_option maxRecDepth 100000 in
theorem zcount_any (k : Value) (most : Int) (h0 : 0 ≤ most) (hm : 2 ≤ m) (hC : C ≤ w.heap.size) (h : ZAt W0 C R D Y K S m w) :
    Calls Try.prog 77 #[k, .int .i64 most, .pointer (some ⟨Y, 0, none⟩)] w fun e w' => e = .returned (.int .i64 0) ∧ ZAt W0 C R D Y K S (m - 2) w' ∧ C ≤ w'.heap.size := by
  obtain ⟨A, n, cap, hR⟩ := h.rd
  have hu := m_count R D (List.replicate m 0) A n cap w most 0 hR
  rw [(z_c hm most h0).1, (z_c hm most h0).2] at hu
  have e2 : stL 0 2 (List.replicate m 0) 0 = List.replicate (m - 2) 0 := by
    unfold stL
    rw [if_pos ⟨rfl, rfl⟩]
    exact List.drop_replicate ..
  rw [e2] at hu
  have hu2 : Calls Try.prog 78 #[.pointer (some ⟨R, 0, none⟩), .int .i64 most] w (Meth R D (.int .i64 0) (List.replicate (m - 2) 0) 0 w) := hu
  have HU := Lib.hid hu2
  have HZ := Lib.hid h
  have cy := h.y
  clear h hR hu hu2 e2
  go_enter Try.func77, Try.ntmps77
  go_wp2_with (go_at_call 78; refine HU.out.mono ?_; rintro e w1 ⟨rfl, hg1, hr1⟩; have H1 := Lib.hid (HZ.out.meth hg1 hr1 hC); have HS1 := Lib.hid hg1.size; clear hg1 hr1)
  go_ret
  exact ⟨rfl, H1.out, Nat.le_trans hC HS1.out⟩
set_option maxRecDepth 100000 in
theorem zfield_any (fv : Value) (hm : 2 ≤ m) (hC : C ≤ w.heap.size) (h : ZAt W0 C R D Y K S m w) :
    Calls Try.prog 46 #[.pointer (some ⟨K, 0, none⟩), .pointer (some ⟨S, 0, none⟩), .int .i64 32, fv] w fun e w' => ZRet W0 C R D Y K S (m - 2) e w' := by
  have k5 := h.k5
  have c0 := h.nil 0 (by decide)
  have HZ := Lib.hid h.drew
  clear h
  go_enter Try.func46, Try.ntmps46
  go_wp2
  go_still_tail 9, (by kernel_rfl)
  change wpList _ _ _ _ _ w.drew
  go_wp2_with fail
  refine (zcount_any _ 32 (by decide) hm (by exact hC) HZ.out).mono ?_
  rintro e w1 ⟨rfl, h1, hs1⟩
  have c1 := h1.nil 0 (by decide)
  have H1 := Lib.hid h1
  clear h1
  go_wp2_with fail
  refine wp_loop_rounds 1 ?_
  rw [rounds_succ]
  go_wp2
  go_end0
  exact ⟨rfl, H1.out, hs1⟩
set_option maxRecDepth 100000 in
theorem zheader_any (fv : Value) (hm : 2 ≤ m) (hC : C ≤ w.heap.size) (h : ZAt W0 C R D Y K S m w) :
    Calls Try.prog 48 #[.pointer (some ⟨K, 0, none⟩), .pointer (some ⟨S, 1, none⟩), .int .i64 8, fv] w fun e w' => ZRet W0 C R D Y K S (m - 2) e w' := by
  have k5 := h.k5
  have c0 := h.nil 1 (by decide)
  have HZ := Lib.hid h.drew
  clear h
  go_enter Try.func48, Try.ntmps48
  go_wp2
  go_still_tail 9, (by kernel_rfl)
  change wpList _ _ _ _ _ w.drew
  go_wp2_with fail
  refine (zcount_any _ 8 (by decide) hm (by exact hC) HZ.out).mono ?_
  rintro e w1 ⟨rfl, h1, hs1⟩
  have c1 := h1.nil 1 (by decide)
  have H1 := Lib.hid h1
  clear h1
  go_wp2_with fail
  refine wp_loop_rounds 1 ?_
  rw [rounds_succ]
  go_wp2
  go_end0
  exact ⟨rfl, H1.out, hs1⟩
set_option maxRecDepth 100000 in
theorem zstate_any (fv : Value) (hm : 2 ≤ m) (hC : C ≤ w.heap.size) (h : ZAt W0 C R D Y K S m w) :
    Calls Try.prog 50 #[.pointer (some ⟨K, 0, none⟩), .pointer (some ⟨S, 2, none⟩), .int .i64 12, fv] w fun e w' => ZRet W0 C R D Y K S (m - 2) e w' := by
  have k5 := h.k5
  have c0 := h.nil 2 (by decide)
  have HZ := Lib.hid h.drew
  clear h
  go_enter Try.func50, Try.ntmps50
  go_wp2
  go_still_tail 9, (by kernel_rfl)
  change wpList _ _ _ _ _ w.drew
  go_wp2_with fail
  refine (zcount_any _ 12 (by decide) hm (by exact hC) HZ.out).mono ?_
  rintro e w1 ⟨rfl, h1, hs1⟩
  have c1 := h1.nil 2 (by decide)
  have H1 := Lib.hid h1
  clear h1
  go_wp2_with fail
  refine wp_loop_rounds 1 ?_
  rw [rounds_succ]
  go_wp2
  go_end0
  exact ⟨rfl, H1.out, hs1⟩
set_option maxRecDepth 100000 in
theorem zaction_any (fv : Value) (hm : 2 ≤ m) (hC : C ≤ w.heap.size) (h : ZAt W0 C R D Y K S m w) :
    Calls Try.prog 52 #[.pointer (some ⟨K, 0, none⟩), .pointer (some ⟨S, 3, none⟩), .int .i64 12, fv] w fun e w' => ZRet W0 C R D Y K S (m - 2) e w' := by
  have k5 := h.k5
  have c0 := h.nil 3 (by decide)
  have HZ := Lib.hid h.drew
  clear h
  go_enter Try.func52, Try.ntmps52
  go_wp2
  go_still_tail 9, (by kernel_rfl)
  change wpList _ _ _ _ _ w.drew
  go_wp2_with fail
  refine (zcount_any _ 12 (by decide) hm (by exact hC) HZ.out).mono ?_
  rintro e w1 ⟨rfl, h1, hs1⟩
  have c1 := h1.nil 3 (by decide)
  have H1 := Lib.hid h1
  clear h1
  go_wp2_with fail
  refine wp_loop_rounds 1 ?_
  rw [rounds_succ]
  go_wp2
  go_end0
  exact ⟨rfl, H1.out, hs1⟩
set_option maxRecDepth 100000 in
theorem ztable_any (fv : Value) (hm : 2 ≤ m) (hC : C ≤ w.heap.size) (h : ZAt W0 C R D Y K S m w) :
    Calls Try.prog 54 #[.pointer (some ⟨K, 0, none⟩), .pointer (some ⟨S, 4, none⟩), .int .i64 8, fv] w fun e w' => ZRet W0 C R D Y K S (m - 2) e w' := by
  have k5 := h.k5
  have c0 := h.nil 4 (by decide)
  have HZ := Lib.hid h.drew
  clear h
  go_enter Try.func54, Try.ntmps54
  go_wp2
  go_still_tail 9, (by kernel_rfl)
  change wpList _ _ _ _ _ w.drew
  go_wp2_with fail
  refine (zcount_any _ 8 (by decide) hm (by exact hC) HZ.out).mono ?_
  rintro e w1 ⟨rfl, h1, hs1⟩
  have c1 := h1.nil 4 (by decide)
  have H1 := Lib.hid h1
  clear h1
  go_wp2_with fail
  refine wp_loop_rounds 1 ?_
  rw [rounds_succ]
  go_wp2
  go_end0
  exact ⟨rfl, H1.out, hs1⟩
set_option maxRecDepth 100000 in
theorem zstage_any (fv : Value) (hm : 2 ≤ m) (hC : C ≤ w.heap.size) (h : ZAt W0 C R D Y K S m w) :
    Calls Try.prog 56 #[.pointer (some ⟨K, 0, none⟩), .pointer (some ⟨S, 5, none⟩), .int .i64 12, fv] w fun e w' => ZRet W0 C R D Y K S (m - 2) e w' := by
  have k5 := h.k5
  have c0 := h.nil 5 (by decide)
  have HZ := Lib.hid h.drew
  clear h
  go_enter Try.func56, Try.ntmps56
  go_wp2
  go_still_tail 9, (by kernel_rfl)
  change wpList _ _ _ _ _ w.drew
  go_wp2_with fail
  refine (zcount_any _ 12 (by decide) hm (by exact hC) HZ.out).mono ?_
  rintro e w1 ⟨rfl, h1, hs1⟩
  have c1 := h1.nil 5 (by decide)
  have H1 := Lib.hid h1
  clear h1
  go_wp2_with fail
  refine wp_loop_rounds 1 ?_
  rw [rounds_succ]
  go_wp2
  go_end0
  exact ⟨rfl, H1.out, hs1⟩
set_option maxRecDepth 100000 in
theorem zrole_any (fv : Value) (hm : 2 ≤ m) (hC : C ≤ w.heap.size) (h : ZAt W0 C R D Y K S m w) :
    Calls Try.prog 58 #[.pointer (some ⟨K, 0, none⟩), .pointer (some ⟨S, 6, none⟩), .int .i64 6, fv] w fun e w' => ZRet W0 C R D Y K S (m - 2) e w' := by
  have k5 := h.k5
  have c0 := h.nil 6 (by decide)
  have HZ := Lib.hid h.drew
  clear h
  go_enter Try.func58, Try.ntmps58
  go_wp2
  go_still_tail 9, (by kernel_rfl)
  change wpList _ _ _ _ _ w.drew
  go_wp2_with fail
  refine (zcount_any _ 6 (by decide) hm (by exact hC) HZ.out).mono ?_
  rintro e w1 ⟨rfl, h1, hs1⟩
  have c1 := h1.nil 6 (by decide)
  have H1 := Lib.hid h1
  clear h1
  go_wp2_with fail
  refine wp_loop_rounds 1 ?_
  rw [rounds_succ]
  go_wp2
  go_end0
  exact ⟨rfl, H1.out, hs1⟩
set_option maxRecDepth 100000 in
theorem zref_any (fv : Value) (hm : 2 ≤ m) (hC : C ≤ w.heap.size) (h : ZAt W0 C R D Y K S m w) :
    Calls Try.prog 60 #[.pointer (some ⟨K, 0, none⟩), .pointer (some ⟨S, 7, none⟩), .int .i64 8, fv] w fun e w' => ZRet W0 C R D Y K S (m - 2) e w' := by
  have k5 := h.k5
  have c0 := h.nil 7 (by decide)
  have HZ := Lib.hid h.drew
  clear h
  go_enter Try.func60, Try.ntmps60
  go_wp2
  go_still_tail 9, (by kernel_rfl)
  change wpList _ _ _ _ _ w.drew
  go_wp2_with fail
  refine (zcount_any _ 8 (by decide) hm (by exact hC) HZ.out).mono ?_
  rintro e w1 ⟨rfl, h1, hs1⟩
  have c1 := h1.nil 7 (by decide)
  have H1 := Lib.hid h1
  clear h1
  go_wp2_with fail
  refine wp_loop_rounds 1 ?_
  rw [rounds_succ]
  go_wp2
  go_end0
  exact ⟨rfl, H1.out, hs1⟩
set_option maxRecDepth 100000 in
set_option maxHeartbeats 1000000 in
theorem zschema_any (hm : 20 ≤ m) (hC : C ≤ w.heap.size) (h : ZAt W0 C R D Y K S m w) :
    Calls Try.prog 23 #[.pointer (some ⟨K, 0, none⟩), .pointer (some ⟨S, 0, none⟩)] w fun e w' => ZRet W0 C R D Y K S (m - 20) e w' := by
  have HZ0 := Lib.hid h
  have kk := h.k0
  clear h
  go_enter Try.func23, Try.ntmps23
  go_wp2
  go_still_tail 7, (by kernel_rfl)
  change wpList _ _ _ _ _ w.drew
  clear kk
  go_wp2_with (go_at_call 68; refine (znum_any 8 (.inl rfl) (by omega) (by exact hC) HZ0.out.drew).mono ?_; rintro e w1 ⟨rfl, h1, hC1⟩; have HZ1 := Lib.hid h1; clear h1)
  have kk := HZ1.out.k0
  go_still_tail 7, (by kernel_rfl)
  change wpList _ _ _ _ _ w1.drew
  clear kk
  go_wp2_with (first
    | (go_at_call 68; refine (znum_any 9 (.inr rfl) (by omega) (by exact hC1) HZ1.out.drew).mono ?_; rintro e w2 ⟨rfl, h2, hC2⟩; have HZ2 := Lib.hid h2; clear h2)
    | (go_at_call 46; refine (zfield_any _ (by omega) hC2 HZ2.out).mono ?_; rintro e w3 ⟨rfl, h3, hC3⟩; have HZ3 := Lib.hid h3; clear h3)
    | (go_at_call 48; refine (zheader_any _ (by omega) hC3 HZ3.out).mono ?_; rintro e w4 ⟨rfl, h4, hC4⟩; have HZ4 := Lib.hid h4; clear h4)
    | (go_at_call 50; refine (zstate_any _ (by omega) hC4 HZ4.out).mono ?_; rintro e w5 ⟨rfl, h5, hC5⟩; have HZ5 := Lib.hid h5; clear h5)
    | (go_at_call 52; refine (zaction_any _ (by omega) hC5 HZ5.out).mono ?_; rintro e w6 ⟨rfl, h6, hC6⟩; have HZ6 := Lib.hid h6; clear h6)
    | (go_at_call 54; refine (ztable_any _ (by omega) hC6 HZ6.out).mono ?_; rintro e w7 ⟨rfl, h7, hC7⟩; have HZ7 := Lib.hid h7; clear h7)
    | (go_at_call 56; refine (zstage_any _ (by omega) hC7 HZ7.out).mono ?_; rintro e w8 ⟨rfl, h8, hC8⟩; have HZ8 := Lib.hid h8; clear h8)
    | (go_at_call 58; refine (zrole_any _ (by omega) hC8 HZ8.out).mono ?_; rintro e w9 ⟨rfl, h9, hC9⟩; have HZ9 := Lib.hid h9; clear h9)
    | (go_at_call 60; refine (zref_any _ (by omega) hC9 HZ9.out).mono ?_; rintro e w10 ⟨rfl, h10, hC10⟩; have HZ10 := Lib.hid h10; clear h10))
  go_end0
  exact ⟨rfl, by have := HZ10.out; simp only [Nat.sub_sub] at this; exact this, hC10⟩
set_option maxRecDepth 100000 in
theorem reading_any (X : Nat) (w : World) : Calls Try.prog 32 #[.pointer (some ⟨X, 0, none⟩)] w fun e w' => e = .returned (.pointer (some ⟨w.heap.size + 1, 0, none⟩)) ∧
    w' = (w.alloc (.cells #[.pointer (some ⟨X, 0, none⟩)] 101)).alloc (.cells #[.func (Fn.func 68) #[] #[.pointer (some ⟨w.heap.size, 0, none⟩)], .func (Fn.func 70) #[] #[.pointer (some ⟨w.heap.size, 0, none⟩)], .func (Fn.func 71) #[] #[.pointer (some ⟨w.heap.size, 0, none⟩)], .func (Fn.func 73) #[] #[.pointer (some ⟨w.heap.size, 0, none⟩)], .func (Fn.func 75) #[] #[.pointer (some ⟨w.heap.size, 0, none⟩)], .func (Fn.func 77) #[] #[.pointer (some ⟨w.heap.size, 0, none⟩)]] 129) := by
  go_enter Try.func32, Try.ntmps32
  go_wp2
  go_ret
  exact ⟨by simp, rfl⟩
end
/-- Decode returned the schema without anything, and the error c. -/
def ZDec (c : Int) (w : World) (e : Ending) (w' : World) : Prop := e = .returned (.tuple #[.agg #[.slice none 0 0, .slice none 0 0, .slice none 0 0, .slice none 0 0, .slice none 0 0, .slice none 0 0, .slice none 0 0, .slice none 0 0, .int .i64 0, .int .i64 0], .int .i64 c]) ∧ Below w.heap.size w w'
set_option maxRecDepth 100000 in
theorem zdecode_long (A : Option Addr) (n cap : Nat) (w : World) (hn : 8000 < n) (_ : n ≤ 1000000) : Calls Try.prog 14 #[.slice A n cap] w (ZDec 3 w) := by
  go_enter Try.func14, Try.ntmps14
  go_wp2
  refine bodyPost_ret (v := .tuple #[.agg #[.slice none 0 0, .slice none 0 0, .slice none 0 0, .slice none 0 0, .slice none 0 0, .slice none 0 0, .slice none 0 0, .slice none 0 0, .int .i64 0, .int .i64 0], .int .i64 3]) (by simp [results, Try.results14, go_sem]) rfl ⟨rfl, ?_⟩
  exact (Below.refl _ _).alloc (Nat.le_refl _) _
set_option maxRecDepth 100000 in
set_option maxHeartbeats 2000000 in
theorem zdecode_any (A : Option Addr) (D n cap : Nat) (w : World) (hn : n ≤ 8000) (hn2 : 21 ≤ n) (hr : ReadsL w D A (List.replicate n 0)) : Calls Try.prog 14 #[.slice A n cap] w (ZDec 2 w) := by
  obtain ⟨w1, hw1⟩ : ∃ w1, w1 = w.alloc (.cells #[.slice none 0 0, .slice none 0 0, .slice none 0 0, .slice none 0 0, .slice none 0 0, .slice none 0 0, .slice none 0 0, .slice none 0 0, .int .i64 0, .int .i64 0] 31) := ⟨_, rfl⟩
  have b1 : Below w.heap.size w w1 := by rw [hw1]; exact (Below.refl _ _).alloc (Nat.le_refl _) _
  have z1 : w1.heap.size = w.heap.size + 1 := by rw [hw1]; simp
  have hr1 := hr.kept (grown_of_below b1 none) (by simp)
  have q1 : ∀ i, w1.cell? ⟨w.heap.size, i, none⟩ = #[Value.slice none 0 0, .slice none 0 0, .slice none 0 0, .slice none 0 0, .slice none 0 0, .slice none 0 0, .slice none 0 0, .slice none 0 0, .int .i64 0, .int .i64 0][i]? := fun i => by rw [hw1, World.cell?_alloc_new]
  have g1 : ∀ i, w1.frozen? ⟨w.heap.size, i, none⟩ = false := fun i => by rw [hw1, World.frozen?_alloc_new]
  have HN := Lib.hid (new_any A D n cap (List.replicate n 0) w1 hr1 (fun x hx => by rw [List.eq_of_mem_replicate hx]; decide) (by simp) (by omega))
  have HW1 := Lib.hid hw1
  have HQ1 := Lib.hid q1
  have HG1 := Lib.hid g1
  have HB1 := Lib.hid b1
  have HZ1 := Lib.hid z1
  clear hr hr1 hw1 q1 g1 b1 z1
  go_enter Try.func14, Try.ntmps14
  go_wp2_with fail
  rw [← HW1.out]
  refine HN.out.mono ?_
  rintro e w2 ⟨R, D2, A2, n2, cap2, rfl, hR1, hD1, hRd, hb2⟩
  obtain ⟨w4, hw4⟩ : ∃ w4, w4 = ((w2.alloc (.cells #[.slice none 0 0, .slice none 0 0, .slice none 0 0, .slice none 0 0, .slice none 0 0, .slice none 0 0, .slice none 0 0, .slice none 0 0, .int .i64 0, .int .i64 0] 31)).alloc (.cells #[.pointer (some ⟨R, 0, none⟩)] 101)).alloc (.cells #[.func (Fn.func 68) #[] #[.pointer (some ⟨w2.heap.size + 1, 0, none⟩)], .func (Fn.func 70) #[] #[.pointer (some ⟨w2.heap.size + 1, 0, none⟩)], .func (Fn.func 71) #[] #[.pointer (some ⟨w2.heap.size + 1, 0, none⟩)], .func (Fn.func 73) #[] #[.pointer (some ⟨w2.heap.size + 1, 0, none⟩)], .func (Fn.func 75) #[] #[.pointer (some ⟨w2.heap.size + 1, 0, none⟩)], .func (Fn.func 77) #[] #[.pointer (some ⟨w2.heap.size + 1, 0, none⟩)]] 129) := ⟨_, rfl⟩
  have hlt := hRd.lt
  have hdlt := hRd.dlt
  have z4 : w4.heap.size = w2.heap.size + 3 := by rw [hw4]; simp
  have b4 : Below w2.heap.size w2 w4 := by rw [hw4]; exact (((Below.refl _ _).alloc (Nat.le_refl _) _).alloc (by simp) _).alloc (by simp; omega) _
  have hZ : ZAt w1 w1.heap.size R D2 (w2.heap.size + 1) (w2.heap.size + 2) w2.heap.size n w4 := by
    refine ⟨⟨A2, n2, cap2, hRd.kept (grown_of_below b4 none) (by simp) (by simp)⟩, ?_, ?_, ?_, fun i => ?_, fun i => ?_, by omega, by omega, by omega, by omega, by omega, by omega, by omega, by omega, by omega, hR1, hb2.size, hb2.trans (b4.mono hb2.size)⟩
    · rw [hw4, World.cell?_alloc_at _ _ _ _ (by simp)]; rfl
    · rw [hw4, World.cell?_alloc_at _ _ _ _ (by simp)]; rfl
    · rw [hw4, World.cell?_alloc_past _ _ _ (by simp), World.cell?_alloc_at _ _ _ _ (by simp)]; rfl
    · rw [hw4, World.cell?_alloc_past _ _ _ (by simp; omega), World.cell?_alloc_past _ _ _ (by simp), World.cell?_alloc_new]
    · rw [hw4, World.frozen?_alloc_past _ _ _ (by simp; omega), World.frozen?_alloc_past _ _ _ (by simp), World.frozen?_alloc_new]
  have HZ := Lib.hid hZ
  have HW4 := Lib.hid hw4
  have hC : w1.heap.size ≤ w4.heap.size := by have := hb2.size; omega
  clear hZ hw4 hRd hb2 b4
  go_wp2_with fail
  refine (reading_any R _).mono ?_
  rintro e w3 ⟨rfl, rfl⟩
  simp only [World.size_alloc]
  rw [← HW4.out]
  go_wp2_with fail
  refine (zschema_any (by omega) hC HZ.out).mono ?_
  rintro e w5 ⟨rfl, h5, hC5⟩
  have hq := h5.below
  obtain ⟨A5, n5, cap5, hR5⟩ := h5.rd
  have hlt1 : w.heap.size < w1.heap.size := by have := HZ1.out; omega
  have HQ : Hid (∀ i, w5.cell? ⟨w.heap.size, i, none⟩ = #[Value.slice none 0 0, .slice none 0 0, .slice none 0 0, .slice none 0 0, .slice none 0 0, .slice none 0 0, .slice none 0 0, .slice none 0 0, .int .i64 0, .int .i64 0][i]?) := Lib.hid fun i => (hq.cell (p := ⟨w.heap.size, i, none⟩) hlt1).trans (HQ1.out i)
  have HG : Hid (∀ i, w5.frozen? ⟨w.heap.size, i, none⟩ = false) := Lib.hid fun i => (hq.frozen (p := ⟨w.heap.size, i, none⟩) hlt1).trans (HG1.out i)
  have q0 : w5.cell? ⟨w.heap.size, 0, none⟩ = some (.slice none 0 0) := (HQ.out 0).trans (by rfl)
  have q1 : w5.cell? ⟨w.heap.size, 1, none⟩ = some (.slice none 0 0) := (HQ.out 1).trans (by rfl)
  have q2 : w5.cell? ⟨w.heap.size, 2, none⟩ = some (.slice none 0 0) := (HQ.out 2).trans (by rfl)
  have q3 : w5.cell? ⟨w.heap.size, 3, none⟩ = some (.slice none 0 0) := (HQ.out 3).trans (by rfl)
  have q4 : w5.cell? ⟨w.heap.size, 4, none⟩ = some (.slice none 0 0) := (HQ.out 4).trans (by rfl)
  have q5 : w5.cell? ⟨w.heap.size, 5, none⟩ = some (.slice none 0 0) := (HQ.out 5).trans (by rfl)
  have q6 : w5.cell? ⟨w.heap.size, 6, none⟩ = some (.slice none 0 0) := (HQ.out 6).trans (by rfl)
  have q7 : w5.cell? ⟨w.heap.size, 7, none⟩ = some (.slice none 0 0) := (HQ.out 7).trans (by rfl)
  have q8 : w5.cell? ⟨w.heap.size, 8, none⟩ = some (.int .i64 0) := (HQ.out 8).trans (by rfl)
  have q9 : w5.cell? ⟨w.heap.size, 9, none⟩ = some (.int .i64 0) := (HQ.out 9).trans (by rfl)
  have g5 := HG.out
  have hfe : fE (List.replicate (n - 20) 0) 0 = 2 := by
    unfold fE
    rw [if_pos ⟨rfl, by rw [List.length_replicate]; omega⟩]
  have HF := Lib.hid (finish_any R D2 (List.replicate (n - 20) 0) A5 n5 cap5 w5 0 hR5)
  have HFE := Lib.hid hfe
  have HB5 := Lib.hid hq
  clear hfe hR5 h5 hq
  go_wp2_with (go_at_call 33; refine HF.out.mono ?_; rw [HFE.out]; rintro e w6 ⟨rfl, rfl⟩)
  refine bodyPost_ret (v := .tuple #[.agg #[.slice none 0 0, .slice none 0 0, .slice none 0 0, .slice none 0 0, .slice none 0 0, .slice none 0 0, .slice none 0 0, .slice none 0 0, .int .i64 0, .int .i64 0], .int .i64 2]) (by simp [results, Try.results14, go_sem, q0, q1, q2, q3, q4, q5, q6, q7, q8, q9]) rfl ⟨rfl, ?_⟩
  have hb := HB1.out.trans (HB5.out.mono (Nat.le_of_lt hlt1))
  exact (((((((((hb.setCell (Nat.le_refl _) _).setCell (Nat.le_refl _) _).setCell (Nat.le_refl _) _).setCell (Nat.le_refl _) _).setCell (Nat.le_refl _) _).setCell (Nat.le_refl _) _).setCell (Nat.le_refl _) _).setCell (Nat.le_refl _) _).setCell (Nat.le_refl _) _).setCell (Nat.le_refl _) _
end Go.Proofs.Ytljmiickhkkceaa
