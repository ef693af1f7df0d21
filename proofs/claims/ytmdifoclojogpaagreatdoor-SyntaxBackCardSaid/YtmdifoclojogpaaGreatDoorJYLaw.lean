/- Contracts, joined: YLaw1, YBeg. -/
import Derived.Test.YtmdifoclojogpaaGreatDoorJYPar
import Derived.Test.YtmdifoclojogpaaGreatDoorJLW
import Derived.Laws.StructEq
namespace Go.Proofs.YtmdifoclojogpaaGreatDoor
/- Layer 7's laws: same, parsed. -/
section
open Go.RowKit

set_option maxRecDepth 100000 in
theorem eqv_same (d : Nat) (a b : Int) (w : World) : (Op.equalIn (d + 2) 65 (.agg #[.int .u64 a, .int .u64 b]) (.agg #[.int .u64 a, .int .u64 b])).run Tryz.prog w = .ok true w := by
  have hS : Tryz.prog.underlying 65 = some (.struct (Tryz.prog.fieldsOf 65)) := by kernel_rfl
  rw [show d + 2 = (d + 1) + 1 from rfl, run_equalIn_agg w (d + 1) 65 _ _ hS (by kernel_rfl)]
  simp only [Program.fieldsOf, Tryz.underlying65]
  go_simp
set_option maxRecDepth 100000 in
theorem eqr_node (x0 x1 x2 : Int) (x3 x4 : ByteArray) (x5 x6 : Int) (w : World) : (Op.equalIn 10000 68 (.agg #[.int .i64 x0, .int .i64 x1, .int .i64 x2, .string x3, .string x4, .int .u64 x5, .int .u64 x6]) (.agg #[.int .i64 x0, .int .i64 x1, .int .i64 x2, .string x3, .string x4, .int .u64 x5, .int .u64 x6])).run Tryz.prog w = .ok true w := by
  have hS : Tryz.prog.underlying 68 = some (.struct (Tryz.prog.fieldsOf 68)) := by kernel_rfl
  have hV : ∀ (d : Nat) (a b : Int) (w : World), (Op.equalIn (d + 2) 65 (.agg #[.int .u64 a, .int .u64 b]) (.agg #[.int .u64 a, .int .u64 b])).run Tryz.prog w = .ok true w := eqv_same
  rw [show (10000 : Nat) = (9997 + 2) + 1 from rfl, run_equalIn_agg w (9997 + 2) 68 _ _ hS (by kernel_rfl)]
  simp only [Program.fieldsOf, Tryz.underlying68]
  clear hS
  go_simp
set_option maxRecDepth 100000 in
theorem eqs_node (x0 x1 x2 : Int) (x3 x4 : ByteArray) (x5 x6 : Int) (w : World) : (Op.equalIn 10000 67 (.agg #[.int .i64 x0, .int .i64 x1, .int .i64 x2, .string x3, .string x4, .int .u64 x5, .int .u64 x6]) (.agg #[.int .i64 x0, .int .i64 x1, .int .i64 x2, .string x3, .string x4, .int .u64 x5, .int .u64 x6])).run Tryz.prog w = .ok true w := by
  have hS : Tryz.prog.underlying 67 = some (.struct (Tryz.prog.fieldsOf 67)) := by kernel_rfl
  have hV : ∀ (d : Nat) (a b : Int) (w : World), (Op.equalIn (d + 2) 65 (.agg #[.int .u64 a, .int .u64 b]) (.agg #[.int .u64 a, .int .u64 b])).run Tryz.prog w = .ok true w := eqv_same
  rw [show (10000 : Nat) = (9997 + 2) + 1 from rfl, run_equalIn_agg w (9997 + 2) 67 _ _ hS (by kernel_rfl)]
  simp only [Program.fieldsOf, Tryz.underlying67]
  clear hS
  go_simp
theorem nod_cells {w : World} {A : Option Addr} {o : List Nd} (h : NodR w A o) {k : Nat} (hk : k < o.length) : ∃ g, A = some ⟨g, 0, none⟩ ∧ g < w.heap.size ∧ w.cell? ⟨g, k * 7, none⟩ = some (.int .i64 ((o[k]'hk).op : Nat)) ∧ w.cell? ⟨g, k * 7 + 1, none⟩ = some (.int .i64 ((o[k]'hk).a : Nat)) ∧ w.cell? ⟨g, k * 7 + 2, none⟩ = some (.int .i64 ((o[k]'hk).b : Nat)) ∧ w.cell? ⟨g, k * 7 + 3, none⟩ = some (.string (o[k]'hk).name) ∧ w.cell? ⟨g, k * 7 + 4, none⟩ = some (.string (o[k]'hk).attr) ∧ w.cell? ⟨g, k * 7 + 5, none⟩ = some (.int .u64 (hi (o[k]'hk).val)) ∧ w.cell? ⟨g, k * 7 + 6, none⟩ = some (.int .u64 (lo (o[k]'hk).val)) := by
  obtain ⟨g, h1, h2, q⟩ := h.r.resolve_left (fun e => by rw [e] at hk; simp at hk)
  exact ⟨g, h1, h2, q k hk 0 (by decide), q k hk 1 (by decide), q k hk 2 (by decide), q k hk 3 (by decide), q k hk 4 (by decide), q k hk 5 (by decide), q k hk 6 (by decide)⟩
set_option maxRecDepth 100000 in
set_option maxHeartbeats 4000000 in
theorem ly_same (w : World) (o : List Nd) (n : Nat) (A1 A2 : Option Addr) (c1 c2 : Nat) (hn : o.length = n) (_hc1 : n ≤ c1) (_hc2 : n ≤ c2) (hn4 : n ≤ 100000) (h1 : NodR w A1 o) (h2 : NodR w A2 o) :
    Calls Tryz.prog 18 #[.slice A1 n c1, .slice A2 n c2] w (RetX (.bool true) w) := by
  have H1 := Lib.hid h1
  have H2 := Lib.hid h2
  have HN := Lib.hid hn
  have hG : Tryz.prog.eqGuardType Tryz.prog.depth 68 = false := by kernel_rfl
  clear h1 h2 hn
  go_enter Tryz.func18, Tryz.ntmps18
  go_wp2
  go_loopw [14] (fun j w' => ∃ k : Nat, k ≤ n ∧ j = .int .i64 k ∧ Below w.heap.size w w') (fun j _ => n - (intOf j).toNat)
  case atStart => exact ⟨0, by omega, rfl, Below.refl _ _⟩
  case round =>
    obtain ⟨k, hk, rfl, hb⟩ := hrel
    have HBB := Lib.hid hb
    have hsz := hb.size
    by_cases hlt : k < n
    · have hkI : (k : Int) < (n : Int) := by omega
      have hkl : k < o.length := by rw [HN.out]; exact hlt
      obtain ⟨g1, e1, l1, a0, a1, a2, a3, a4, a5, a6⟩ := nod_cells (H1.out.below hb) hkl
      obtain ⟨g2, e2, l2, b0, b1, b2, b3, b4, b5, b6⟩ := nod_cells (H2.out.below hb) hkl
      subst e1 e2
      generalize (o[k]'hkl) = d at a0 a1 a2 a3 a4 a5 a6 b0 b1 b2 b3 b4 b5 b6
      obtain ⟨x0, hx0⟩ : ∃ x : Nat, x = d.op := ⟨_, rfl⟩
      obtain ⟨x1, hx1⟩ : ∃ x : Nat, x = d.a := ⟨_, rfl⟩
      obtain ⟨x2, hx2⟩ : ∃ x : Nat, x = d.b := ⟨_, rfl⟩
      obtain ⟨x3, hx3⟩ : ∃ x, x = d.name := ⟨_, rfl⟩
      obtain ⟨x4, hx4⟩ : ∃ x, x = d.attr := ⟨_, rfl⟩
      obtain ⟨x5, hx5⟩ : ∃ x : Int, x = hi d.val := ⟨_, rfl⟩
      obtain ⟨x6, hx6⟩ : ∃ x : Int, x = lo d.val := ⟨_, rfl⟩
      rw [← hx0] at a0 b0
      rw [← hx1] at a1 b1
      rw [← hx2] at a2 b2
      rw [← hx3] at a3 b3
      rw [← hx4] at a4 b4
      rw [← hx5] at a5 b5
      rw [← hx6] at a6 b6
      have hq := fun W => eqr_node (x0 : Nat) (x1 : Nat) (x2 : Nat) x3 x4 x5 x6 W
      clear hx0 hx1 hx2 hx3 hx4 hx5 hx6 hb
      go_wp2
      go_quiet (fail)
      go_wp2
      go_roundw
      case rel => (go_light; exact ⟨k + 1, by omega, by simp, below_drewN (HBB.out.alloc hsz _) _⟩)
      case measure => simp [intOf]; omega
    · have hkI : ¬ (k : Int) < (n : Int) := by omega
      clear hb
      go_wp2
      go_ret
      exact ⟨rfl, HBB.out⟩
/-- an accepted text's tokens -/
theorem scan_tokOk (s : ByteArray) (h : (scan s).2.2 = 0) : TokOk (scan s).1 := by
  refine ⟨fun t ht => ?_, fun t ht hk => ?_, scan_len s⟩
  · have h1 := ((scan_plcd s h).fit t ht).1
    have h2 : s.size ≤ 400 := by
      rcases Nat.lt_or_ge 400 s.size with h4 | h4
      · unfold scan at h; rw [if_pos h4] at h; cases h
      · exact h4
    omega
  · rcases (scan_good s t ht).is with ⟨h1, h2, _⟩ | ⟨h1, _⟩
    · rw [hk] at h1
      unfold kindN at h1
      split at h1
      · cases h1
      · split at h1
        · rename_i h3; exact h3
        · cases h1
    · rw [hk] at h1; cases h1
/-- the tree of a text; none if it is no sentence -/
def pTree (s : ByteArray) : List Nd := if (scan s).2.2 = 0 then (parse (scan s).1).1 else []
def pOk (s : ByteArray) : Bool := decide ((scan s).2.2 = 0) && decide ((parse (scan s).1).2.2 = 0)
theorem ifTr (x y : List Nd) : (if True then x else y) = x := if_pos trivial
def RetPd (s : ByteArray) (w : World) (e : Ending) (w' : World) : Prop := ∃ A c A' c', e = .returned (.tuple #[.slice A (pTree s).length c, .slice A' (pTree s).length c', .bool true, .bool (pOk s)]) ∧ (pTree s).length ≤ c ∧ (pTree s).length ≤ c' ∧ NodR w' A (pTree s) ∧ NodR w' A' (pTree s) ∧ Below w.heap.size w w'
theorem parse_len (l : List Tok) : (parse l).1.length ≤ l.length := by
  unfold parse
  have := (pRun_len l).1
  split
  · exact Nat.zero_le _
  · split
    · exact Nat.zero_le _
    · exact this
set_option maxRecDepth 100000 in
set_option maxHeartbeats 4000000 in
theorem ly_parsed (s : ByteArray) (hs : s.size < 9223372036854775807) (w : World) (hy : Syms w) (hy2 : SymY w) : Calls Tryz.prog 9 #[.string s] w (RetPd s w) := by
  have K1 := lx_scan s hs w hy
  have K2 : ∀ W, Calls Tryz.prog 19 #[.string s] W (RetRScan (scan s) W) := fun W => lr_scan s hs W
  have hTok := scan_tokOk s
  have hsl := scan_len s
  unfold RetPd pTree pOk
  obtain ⟨⟨l, ri, rc⟩, hR⟩ : ∃ R, scan s = R := ⟨_, rfl⟩
  rw [hR] at K1 hTok hsl
  rw [hR] at K2
  simp only [hR]
  simp only at hTok hsl
  obtain ⟨⟨o, pi, pc⟩, hP⟩ : ∃ R, parse l = R := ⟨_, rfl⟩
  have hpl := parse_len l
  simp only [hP] at hpl ⊢
  obtain ⟨n, hn⟩ : ∃ n, n = l.length := ⟨_, rfl⟩
  obtain ⟨m, hm⟩ : ∃ m, m = o.length := ⟨_, rfl⟩
  have hn4 : n ≤ 400 := by omega
  have hm4 : m ≤ 400 := by omega
  have KK1 := Lib.hid K1
  have KK2 := Lib.hid K2
  have HP := Lib.hid hP
  have HN := Lib.hid hn
  have HM := Lib.hid hm
  have HTK := Lib.hid hTok
  have HY2 := Lib.hid hy2
  have hlt1 : 1 < w.heap.size := hy2.lt
  clear K1 K2 hR hP hTok hy hy2 hsl hpl hn hm
  obtain ⟨Post, hPost⟩ : ∃ P, P = (fun (e : Ending) (w' : World) => ∃ A c A' c', e = .returned (.tuple #[.slice A (if rc = 0 then o else []).length c, .slice A' (if rc = 0 then o else []).length c', .bool true, .bool (decide (rc = 0) && decide (pc = 0))]) ∧ (if rc = 0 then o else []).length ≤ c ∧ (if rc = 0 then o else []).length ≤ c' ∧ NodR w' A (if rc = 0 then o else []) ∧ NodR w' A' (if rc = 0 then o else []) ∧ Below w.heap.size w w') := ⟨_, rfl⟩
  change Calls _ _ _ _ (fun e w' => _)
  rw [show (fun (e : Ending) (w' : World) => ∃ A c A' c', e = .returned (.tuple #[.slice A (if rc = 0 then o else []).length c, .slice A' (if rc = 0 then o else []).length c', .bool true, .bool (decide (rc = 0) && decide (pc = 0))]) ∧ (if rc = 0 then o else []).length ≤ c ∧ (if rc = 0 then o else []).length ≤ c' ∧ NodR w' A (if rc = 0 then o else []) ∧ NodR w' A' (if rc = 0 then o else []) ∧ Below w.heap.size w w') = Post from hPost.symm]
  have HPo := Lib.hid hPost
  clear hPost
  go_enter Tryz.func9, Tryz.ntmps9
  go_wp2_with fail
  go_at_call 15
  refine KK1.out.mono ?_
  rintro e w1 ⟨A1, c1, he, hO1, hb1⟩
  have he2 : e = .returned (.tuple #[.slice A1 n c1, .int .i64 (ri : Nat), .int .i64 (rc : Nat)]) := by rw [HN.out]; exact he
  subst he2
  have hc1 : n ≤ c1 := by rw [HN.out]; exact own_le hO1
  have T1 := Lib.hid (tokR_own hO1 rfl)
  have HB1 := Lib.hid hb1
  have h1 := hb1.size
  clear he hO1 hb1 KK1
  go_wp2_with fail
  go_at_call 19
  refine (KK2.out _).mono ?_
  rintro e w2 ⟨A2, c2, he, hO2, hb2⟩
  have he2 : e = .returned (.tuple #[.slice A2 n c2, .int .i64 (ri : Nat), .int .i64 (rc : Nat)]) := by rw [HN.out]; exact he
  subst he2
  have hc2 : n ≤ c2 := by rw [HN.out]; exact own_le hO2
  have T2 := Lib.hid (tokR_own hO2 rfl)
  have T12 := Lib.hid (T1.out.below hb2)
  have HB2 := Lib.hid (HB1.out.trans (hb2.mono h1))
  have h2 := HB2.out.size
  clear he hO2 hb2 KK2 T1 HB1
  by_cases h0 : rc = 0
  · subst h0
    have HTO := Lib.hid (HTK.out rfl)
    have K3 := Lib.hid (py_Parse w2 A1 n c1 l HN.out.symm hc1 HTO.out T12.out.atB (HY2.out.below HB2.out hlt1))
    rw [HP.out] at K3
    clear HTK
    go_wp2_with fail
    go_at_call 16
    refine K3.out.mono ?_
    rintro e w3 ⟨A3, c3, he, hl3, hn3, hb3⟩
    have he2 : e = .returned (.tuple #[.slice A3 m c3, .int .i64 (pi : Nat), .int .i64 (pc : Nat)]) := by rw [HM.out]; exact he
    subst he2
    have N3 := Lib.hid hn3
    have hc3 : m ≤ c3 := by rw [HM.out]; exact hl3
    have T23 := Lib.hid (T2.out.below hb3)
    have HB3 := Lib.hid (HB2.out.trans (hb3.mono h2))
    have h3 := HB3.out.size
    have K4 := Lib.hid (rp_Parse w3 A2 n c2 l HN.out.symm hc2 HTO.out T23.out.atB)
    rw [HP.out] at K4
    clear he hn3 hb3 hl3 K3 T2 T12 HB2
    go_wp2_with fail
    go_at_call 20
    refine K4.out.mono ?_
    rintro e w4 ⟨A4, c4, he, hl4, hn4', hb4⟩
    have he2 : e = .returned (.tuple #[.slice A4 m c4, .int .i64 (pi : Nat), .int .i64 (pc : Nat)]) := by rw [HM.out]; exact he
    subst he2
    have N4 := Lib.hid hn4'
    have N34 := Lib.hid (N3.out.below hb4)
    have hc4 : m ≤ c4 := by rw [HM.out]; exact hl4
    have HB4 := Lib.hid (HB3.out.trans (hb4.mono h3))
    have h4 := HB4.out.size
    clear he hn4' hb4 hl4 K4 T23 HB3 N3
    have KS := Lib.hid (ly_same w4 o m A3 A4 c3 c4 HM.out.symm hc3 hc4 (by omega) N34.out N4.out)
    obtain ⟨ob, hob⟩ : ∃ b : Bool, b = decide (pc = 0) := ⟨_, rfl⟩
    have hobI : ((pc : Int) == 0) = ob := by
      rw [hob]
      by_cases hp0 : pc = 0
      · subst hp0; rfl
      · rw [decide_eq_false hp0, beq_eq_false_iff_ne]; omega
    have HOB := Lib.hid hob
    clear hob
    go_wp2_with fail
    go_at_call 18
    refine KS.out.mono ?_
    rintro e w5 ⟨rfl, hb5⟩
    have N35 := Lib.hid (N34.out.below hb5)
    have N45 := Lib.hid (N4.out.below hb5)
    have HB5 := Lib.hid (HB4.out.trans (hb5.mono h4))
    clear hb5 KS
    go_wp2_with fail
    refine bodyPost_ret (v := .tuple #[.slice A3 m c3, .slice A4 m c4, .bool true, .bool ob]) (by simp [results, Tryz.results9, go_sem]) rfl ?_
    rw [HPo.out]
    refine ⟨A3, c3, A4, c4, ?_, ?_, ?_, ?_, ?_, HB5.out⟩
    · rw [ifTr, HM.out, HOB.out]; rfl
    · rw [ifTr, ← HM.out]; exact hc3
    · rw [ifTr, ← HM.out]; exact hc4
    · rw [ifTr]; exact N35.out
    · rw [ifTr]; exact N45.out
  · have h0I : ((rc : Int) == 0) = false := by rw [beq_eq_false_iff_ne]; omega
    go_wp2_with fail
    refine bodyPost_ret (v := .tuple #[.slice none 0 0, .slice none 0 0, .bool true, .bool false]) (by simp [results, Tryz.results9, go_sem]) rfl ?_
    rw [HPo.out]
    refine ⟨none, 0, none, 0, ?_, ?_, ?_, ⟨.inl ?_⟩, ⟨.inl ?_⟩, HB2.out⟩
    · rw [if_neg h0, decide_eq_false h0]; rfl
    · rw [if_neg h0]; exact Nat.le_refl _
    · rw [if_neg h0]; exact Nat.le_refl _
    · rw [if_neg h0]
    · rw [if_neg h0]
end
/- Layer 7's begun: the chapter's example. -/
section
open Go.RowKit

def exY : ByteArray := ⟨#[33, 97, 32, 38, 38, 32, 98, 32, 45, 62, 32, 99]⟩
def exYT : List Tok := [⟨3, ⟨#[33]⟩, 0⟩, ⟨2, ⟨#[97]⟩, 1⟩, ⟨3, ⟨#[38, 38]⟩, 3⟩, ⟨2, ⟨#[98]⟩, 6⟩, ⟨3, ⟨#[45, 62]⟩, 8⟩, ⟨2, ⟨#[99]⟩, 11⟩]
def exYO : List Nd := [⟨3, 0, 0, ⟨#[97]⟩, ⟨#[]⟩, 0⟩, ⟨5, 0, 0, ⟨#[]⟩, ⟨#[]⟩, 0⟩, ⟨3, 0, 0, ⟨#[98]⟩, ⟨#[]⟩, 0⟩, ⟨14, 1, 2, ⟨#[]⟩, ⟨#[]⟩, 0⟩, ⟨3, 0, 0, ⟨#[99]⟩, ⟨#[]⟩, 0⟩, ⟨16, 3, 4, ⟨#[]⟩, ⟨#[]⟩, 0⟩]
set_option maxRecDepth 1000000 in
theorem exY_scan : scan exY = (exYT, 0, 0) := by kernel_rfl
set_option maxRecDepth 1000000 in
theorem exY_parse : parse exYT = (exYO, 0, 0) := by kernel_rfl
set_option maxRecDepth 100000 in
set_option maxHeartbeats 4000000 in
theorem ly_begun (w : World) (hy : Syms w) (hy2 : SymY w) : Calls Tryz.prog 10 #[] w (RetX (.bool true) w) := by
  have K1 := lx_scan exY (by decide) w hy
  have hTok := scan_tokOk exY (by rw [exY_scan])
  rw [exY_scan] at K1 hTok
  have KK1 := Lib.hid K1
  have HTO := Lib.hid hTok
  have HY2 := Lib.hid hy2
  have hlt1 : 1 < w.heap.size := hy2.lt
  have hG : Tryz.prog.eqGuardType Tryz.prog.depth 67 = false := by kernel_rfl
  have hq1 := fun W => eqs_node 14 1 2 ⟨#[]⟩ ⟨#[]⟩ 0 0 W
  have hq2 := fun W => eqs_node 16 3 4 ⟨#[]⟩ ⟨#[]⟩ 0 0 W
  clear K1 hTok hy hy2
  go_enter Tryz.func10, Tryz.ntmps10
  go_wp2_with fail
  go_at_call 15
  refine KK1.out.mono ?_
  rintro e w1 ⟨A1, c1, he, hO1, hb1⟩
  have he2 : e = .returned (.tuple #[.slice A1 6 c1, .int .i64 0, .int .i64 0]) := he
  subst he2
  have hc1 : 6 ≤ c1 := own_le hO1
  have T1 := Lib.hid (tokR_own hO1 rfl)
  have HB1 := Lib.hid hb1
  have h1 := hb1.size
  clear he hO1 hb1 KK1
  have K3 := Lib.hid (py_Parse w1 A1 6 c1 exYT rfl hc1 HTO.out T1.out.atB (HY2.out.below HB1.out hlt1))
  rw [exY_parse] at K3
  go_wp2_with fail
  go_at_call 16
  refine K3.out.mono ?_
  rintro e w3 ⟨A3, c3, he, hl3, hn3, hb3⟩
  have he2 : e = .returned (.tuple #[.slice A3 6 c3, .int .i64 0, .int .i64 0]) := he
  subst he2
  obtain ⟨g, hg, hgl, q⟩ := hn3.r.resolve_left (fun e => by cases e)
  subst hg
  have q10 : w3.cell? ⟨g, 7, none⟩ = some (.int .i64 5) := q 1 (by decide) 0 (by decide)
  have q30 : w3.cell? ⟨g, 21, none⟩ = some (.int .i64 14) := q 3 (by decide) 0 (by decide)
  have q31 : w3.cell? ⟨g, 22, none⟩ = some (.int .i64 1) := q 3 (by decide) 1 (by decide)
  have q32 : w3.cell? ⟨g, 23, none⟩ = some (.int .i64 2) := q 3 (by decide) 2 (by decide)
  have q33 : w3.cell? ⟨g, 24, none⟩ = some (.string ⟨#[]⟩) := q 3 (by decide) 3 (by decide)
  have q34 : w3.cell? ⟨g, 25, none⟩ = some (.string ⟨#[]⟩) := q 3 (by decide) 4 (by decide)
  have q35 : w3.cell? ⟨g, 26, none⟩ = some (.int .u64 0) := (q 3 (by decide) 5 (by decide)).trans (by show some (Value.int .u64 (hi 0)) = _; rw [hi_zero])
  have q36 : w3.cell? ⟨g, 27, none⟩ = some (.int .u64 0) := q 3 (by decide) 6 (by decide)
  have q50 : w3.cell? ⟨g, 35, none⟩ = some (.int .i64 16) := q 5 (by decide) 0 (by decide)
  have q51 : w3.cell? ⟨g, 36, none⟩ = some (.int .i64 3) := q 5 (by decide) 1 (by decide)
  have q52 : w3.cell? ⟨g, 37, none⟩ = some (.int .i64 4) := q 5 (by decide) 2 (by decide)
  have q53 : w3.cell? ⟨g, 38, none⟩ = some (.string ⟨#[]⟩) := q 5 (by decide) 3 (by decide)
  have q54 : w3.cell? ⟨g, 39, none⟩ = some (.string ⟨#[]⟩) := q 5 (by decide) 4 (by decide)
  have q55 : w3.cell? ⟨g, 40, none⟩ = some (.int .u64 0) := (q 5 (by decide) 5 (by decide)).trans (by show some (Value.int .u64 (hi 0)) = _; rw [hi_zero])
  have q56 : w3.cell? ⟨g, 41, none⟩ = some (.int .u64 0) := q 5 (by decide) 6 (by decide)
  have HB3 := Lib.hid (HB1.out.trans (hb3.mono h1))
  clear q hn3 hb3 he hl3 K3 T1 HB1
  go_wp2
  first | go_ret | (go_quiet (fail); go_wp2; go_ret)
  exact ⟨by first | rfl | simp, by first | exact HB3.out | exact below_drewN HB3.out _⟩
end
end Go.Proofs.YtmdifoclojogpaaGreatDoor
