/- Package number: Text. -/
import Derived.Test.YtbacclhnbecojaaNRev
import Derived.Test.YtbacclhnbecojaaNDig
import Derived.Test.YtbacclhnbecojaaJParse
import Derived.Deep.CutRange
import Derived.Deep.DeepCutAuto
namespace Go.Proofs.Ytbacclhnbecojaa
open Go.RowKit

theorem wd_zero (k : Nat) : wd 0 k = 0 := by unfold wd; rw [Int.zero_ediv]; rfl
set_option maxRecDepth 100000 in
/-- a number against zero, as a walk comes to it -/
theorem eqz_six (u : Int) (hu : Rg u) (b : Bool) (hb : decide (u = 0) = b) (w : World) : (Op.equalIn 9999 25 (.agg #[.int .u32 (wd u 0), .int .u32 (wd u 1), .int .u32 (wd u 2), .int .u32 (wd u 3), .int .u32 (wd u 4), .int .u32 (wd u 5)]) (.agg #[.int .u32 0, .int .u32 0, .int .u32 0, .int .u32 0, .int .u32 0, .int .u32 0])).run Try.prog w = .ok b w := by
  have h := six_eq u 0 hu (by unfold Rg; decide)
  rw [wd_zero, wd_zero, wd_zero, wd_zero, wd_zero, wd_zero] at h
  rw [eqc_six 9997, h, hb]
def lenV : Value → Nat
  | .slice _ n _ => n
  | _ => 0
/-- the cells of digits as bytes -/
def tcs (ys : List Nat) : List Value := (tb ys).map (Value.int .u8)
theorem tcs_snoc (ys : List Nat) (d : Nat) : tcs (ys ++ [d]) = tcs ys ++ [.int .u8 (48 + (d : Int))] := by simp [tcs, tb_snoc]
theorem tcs_len (ys : List Nat) : (tcs ys).length = ys.length := by simp [tcs, tb_len]
/-- Reverse of bytes: the row of their bytes the other way round -/
theorem nn_revL (base g cap n : Nat) (L : List Int) (hn : 0 < n) (hm : n ≤ 1000) (w : World) (h : w.ownsRow base 5 1 (.slice (some ⟨g, 0, none⟩) n cap) n (L.map (Value.int .u8))) :
    Calls Try.prog 30 #[.slice (some ⟨g, 0, none⟩) n cap] w fun e w' => e = .returned (.tuple #[]) ∧ w'.ownsRow base 5 1 (.slice (some ⟨g, 0, none⟩) n cap) n (L.reverse.map (Value.int .u8)) ∧ w.grownBy w' (some g) :=
  (nn_rev base g cap n _ hn hm (fun j hj => ⟨L[j]'(by simpa using hj), by simp at hj; simp [hj]⟩) w h).mono fun e w' ⟨h1, h2, h3⟩ => ⟨h1, by rw [← List.map_reverse] at h2; exact h2, h3⟩
structure TextAt (w : World) (z : Int) (r : Nat) (v : Value) (ys : List Nat) (w' : World) : Prop where
  below : Below w.heap.size w w'
  lt : w.heap.size + 2 ≤ w'.heap.size
  ra : RowAt w' w.heap.size 6 (wV z)
  rr : RowAt w' (w.heap.size + 1) 6 (wV r)
  own : w'.ownsRow (w.heap.size + 2) 5 1 v ys.length (tcs ys)
theorem byte_add (d : Nat) (h : d < 10) : IntKind.u8.wrap (48 + (d : Int)) = 48 + (d : Int) := by
  simp only [IntKind.wrap, IntKind.signed, IntKind.bits]
  simp; omega
theorem row6 {w : World} {b : Nat} {z : Int} {f : Nat → Value} (h : RowAt w b 6 f) : RowAt ((((((w.setCell ⟨b, 0, none⟩ (.int .u32 (wd z 0))).setCell ⟨b, 1, none⟩ (.int .u32 (wd z 1))).setCell ⟨b, 2, none⟩ (.int .u32 (wd z 2))).setCell ⟨b, 3, none⟩ (.int .u32 (wd z 3))).setCell ⟨b, 4, none⟩ (.int .u32 (wd z 4))).setCell ⟨b, 5, none⟩ (.int .u32 (wd z 5))) b 6 (wV z) :=
  RowAt.stored h.there (wV z)
theorem far6 {w : World} {b c : Nat} {f : Nat → Value} (h : RowAt w b 6 f) (hne : c ≠ b) (v0 v1 v2 v3 v4 v5 : Value) : RowAt ((((((w.setCell ⟨c, 0, none⟩ v0).setCell ⟨c, 1, none⟩ v1).setCell ⟨c, 2, none⟩ v2).setCell ⟨c, 3, none⟩ v3).setCell ⟨c, 4, none⟩ v4).setCell ⟨c, 5, none⟩ v5) b 6 f :=
  RowAt.farAll h hne 0 [v0, v1, v2, v3, v4, v5]
theorem grown6 (w : World) (c : Nat) (v0 v1 v2 v3 v4 v5 : Value) : w.grownBy ((((((w.setCell ⟨c, 0, none⟩ v0).setCell ⟨c, 1, none⟩ v1).setCell ⟨c, 2, none⟩ v2).setCell ⟨c, 3, none⟩ v3).setCell ⟨c, 4, none⟩ v4).setCell ⟨c, 5, none⟩ v5) (some c) := by
  have g : ∀ (w : World) (j : Nat) (v : Value), w.grownBy (w.setCell ⟨c, j, none⟩ v) (some c) := fun w j v => ⟨rfl, rfl, rfl, by rw [World.size_setCell]; exact Nat.le_refl _, fun k _ hk => heap_setCell_other w ⟨c, j, none⟩ k v (fun e => hk (by simp [e]))⟩
  exact grown_trans (grown_trans (grown_trans (grown_trans (grown_trans (g _ _ _) (g _ _ _)) (g _ _ _)) (g _ _ _)) (g _ _ _)) (g _ _ _)
theorem grown_of_below2 {w w' : World} (h : Below w.heap.size w w') (row : Option Nat) : w.grownBy w' row := ⟨h.os, h.tape, h.output, h.size, fun k hk _ => h.block k hk⟩
theorem own_block_ne {w : World} {B e sz n c : Nat} {v : Value} {l : List Value} (h : w.ownsRow B e sz v n l) (hc : c < B) : v.ownBlock = none ∨ v.ownBlock ≠ some c := by
  rcases h.2 with ⟨rfl, _⟩ | ⟨g, cap, cur, rfl, hb, _⟩
  · exact .inl rfl
  · refine .inr fun e => ?_
    injection e with e
    simp only at e
    omega
theorem own_below2 {w w' : World} {B e sz n : Nat} {v : Value} {l : List Value} (h : w.ownsRow B e sz v n l) (hb : Below w.heap.size w w') : w'.ownsRow B e sz v n l :=
  h.kept (grown_of_below2 hb none) (by cases v.ownBlock <;> simp)
theorem row_grown2 {w w' : World} {b n : Nat} {f : Nat → Value} {row : Option Nat} (h : RowAt w b n f) (hg : w.grownBy w' row) (hb : b < w.heap.size) (hr : some b ≠ row) : RowAt w' b n f :=
  ⟨fun i hi => by rw [World.cell?_of_block (a := ⟨b, i, none⟩) (hg.block b hb hr)]; exact h.cell i hi, fun i hi => by rw [World.frozen?_of_block (a := ⟨b, i, none⟩) (hg.block b hb hr)]; exact h.froz i hi⟩
theorem own_block_ge {w : World} {B e sz n k : Nat} {v : Value} {l : List Value} (h : w.ownsRow B e sz v n l) (hk : v.ownBlock = some k) : B ≤ k := by
  rcases h.2 with ⟨rfl, _⟩ | ⟨g, cap, cur, rfl, hb, _⟩
  · cases hk
  · injection hk with hk; simp only at hk; omega
theorem TextAt.app {w W W2 : World} {z : Int} {r d : Nat} {v v' : Value} {ys : List Nat} (h : TextAt w z r v ys W) (o : Obj)
    (hO : W2.ownsRow (w.heap.size + 2) 5 1 v' (ys.length + 1) (tcs ys ++ [.int .u8 (48 + (d : Int))])) (hg : (W.alloc o).grownBy W2 v.ownBlock) : TextAt w z r v' (ys ++ [d]) W2 := by
  have hl := h.lt
  have hne : ∀ c, c < w.heap.size + 2 → some c ≠ v.ownBlock := fun c hc e => by
    have := own_block_ge h.own e.symm
    omega
  have hb := h.below.alloc h.below.size o
  refine ⟨hb.grown hg hb.size (fun k hk => by have := own_block_ge h.own hk; omega), ?_, ?_, ?_, ?_⟩
  · have := hg.size; simp at this; omega
  · exact row_grown2 (h.ra.past (by omega) o) hg (by simp; omega) (hne _ (by omega))
  · exact row_grown2 (h.rr.past (by omega) o) hg (by simp; omega) (hne _ (by omega))
  · rw [tcs_snoc, List.length_append]; exact hO
theorem own_form2 {w : World} {B e sz n : Nat} {v : Value} {l : List Value} (h : w.ownsRow B e sz v n l) : ∃ A cap, v = .slice A n cap := by
  rcases h.2 with ⟨rfl, rfl⟩ | ⟨g, cap, cur, rfl, _⟩
  · exact ⟨_, _, rfl⟩
  · exact ⟨_, _, rfl⟩
theorem six_there {w : World} {b : Nat} {z : Int} (h : RowAt w b 6 (wV z)) :
    (w.cell? ⟨b, 0, none⟩ = some (.int .u32 (wd z 0)) ∧ w.cell? ⟨b, 1, none⟩ = some (.int .u32 (wd z 1)) ∧ w.cell? ⟨b, 2, none⟩ = some (.int .u32 (wd z 2)) ∧ w.cell? ⟨b, 3, none⟩ = some (.int .u32 (wd z 3)) ∧ w.cell? ⟨b, 4, none⟩ = some (.int .u32 (wd z 4)) ∧ w.cell? ⟨b, 5, none⟩ = some (.int .u32 (wd z 5))) ∧
    (w.frozen? ⟨b, 0, none⟩ = false ∧ w.frozen? ⟨b, 1, none⟩ = false ∧ w.frozen? ⟨b, 2, none⟩ = false ∧ w.frozen? ⟨b, 3, none⟩ = false ∧ w.frozen? ⟨b, 4, none⟩ = false ∧ w.frozen? ⟨b, 5, none⟩ = false) :=
  ⟨⟨h.cell 0 (by decide), h.cell 1 (by decide), h.cell 2 (by decide), h.cell 3 (by decide), h.cell 4 (by decide), h.cell 5 (by decide)⟩, h.froz 0 (by decide), h.froz 1 (by decide), h.froz 2 (by decide), h.froz 3 (by decide), h.froz 4 (by decide), h.froz 5 (by decide)⟩
set_option maxRecDepth 100000 in
set_option maxHeartbeats 4000000 in
theorem nn_text (z : Int) (hz0 : -(10 ^ 57) < z) (hz1 : z < 10 ^ 57) (w : World) : Calls Try.prog 9 #[nV z] w (RetX (.string (strN (tl z))) w) := by
  have hR : Rg z := by unfold Rg; omega
  have HN := Lib.hid (show z.natAbs < 10 ^ 60 by omega)
  have HM := Lib.hid (show z.natAbs < 10 ^ 57 by omega)
  clear hz0 hz1
  obtain ⟨i0, hi0⟩ : ∃ i, Try.prog.info? 5 = some i := Option.isSome_iff_exists.1 (by kernel_rfl)
  have hz0 : i0.zero = some (.int .u8 0) := by
    have : (Try.prog.info? 5).map (·.zero) = some (some (.int .u8 0)) := by kernel_rfl
    rw [hi0] at this; simpa using this
  have hy1 : i0.size = 1 := by
    have : (Try.prog.info? 5).map (·.size) = some 1 := by kernel_rfl
    rw [hi0] at this; simpa using this
  have hy2 : i0.bytes = 1 := by
    have : (Try.prog.info? 5).map (·.bytes) = some 1 := by kernel_rfl
    rw [hi0] at this; simpa using this
  have HI := Lib.hid hi0
  have HZ := Lib.hid hz0
  have HY1 := Lib.hid hy1
  have HY2 := Lib.hid hy2
  clear hi0 hz0 hy1 hy2
  rw [nV_lit]
  go_enter Try.func9, Try.ntmps9
  go_upto_if 8 with (go_at_call 28; refine (nn_negative z hR _).mono ?_; rintro e w1 ⟨rfl, hb⟩)
  obtain ⟨hc, hf, hz⟩ := after (w.heap.size + 2) hb (by simp) (by simp)
  have ha := (RowAt.new w 6 (wV z) 27).past (by simp) (.cells #[.int .u32 (wd z 0), .int .u32 (wd z 1), .int .u32 (wd z 2), .int .u32 (wd z 3), .int .u32 (wd z 4), .int .u32 (wd z 5)] 27)
  have ha1 : RowAt w1 w.heap.size 6 (wV z) := ha.below hb (by simp; omega)
  have hr := RowAt.new (w.alloc (.cells #[.int .u32 (wd z 0), .int .u32 (wd z 1), .int .u32 (wd z 2), .int .u32 (wd z 3), .int .u32 (wd z 4), .int .u32 (wd z 5)] 27)) 6 (wV z) 27
  simp only [World.size_alloc] at hr
  have hr1 : RowAt w1 (w.heap.size + 1) 6 (wV z) := hr.below hb (by simp)
  have hB1 : Below w.heap.size w w1 := (((Below.refl _ _).alloc (by simp) _).alloc (by simp) _).trans (hb.mono (by simp; omega))
  have hs1 : w.heap.size + 2 ≤ w1.heap.size := by have := hb.size; simpa using this
  clear hc hf hz ha hr hb
  go_cut [] from 8 to 10 (fun wx => TextAt w z z.natAbs (.slice none 0 0) [] wx)
  case first =>
    by_cases hneg : z < 0
    · have hn2 : Hid (-z = (z.natAbs : Int)) := Lib.hid (by omega)
      have hdec : decide (z < 0) = true := by simpa using hneg
      rw [hdec]
      clear hneg hdec
      obtain ⟨⟨a0, a1, a2, a3, a4, a5⟩, g0, g1, g2, g3, g4, g5⟩ := six_there ha1
      go_wp2_with (go_at_call 11; refine (nn_neg z _).mono ?_; rintro e w2 ⟨rfl, hb2⟩; rw [hn2.out]; have hr2 := RowAt.below hr1 hb2 hs1; obtain ⟨⟨b0, b1, b2, b3, b4, b5⟩, f0, f1, f2, f3, f4, f5⟩ := six_there hr2)
      go_meet
      exact ⟨store6 (hB1.trans (hb2.mono hB1.size)) (by omega) _ _ _ _ _ _, by simp [World.size_setCell]; have := hb2.size; omega, far6 (RowAt.below ha1 hb2 (by omega)) (by omega) _ _ _ _ _ _, row6 hr2, World.ownsRow_nil _ _ _ _⟩
    · have hn2 : z = (z.natAbs : Int) := by omega
      have hdec : decide (z < 0) = false := by simpa using hneg
      rw [hdec]
      have HN2 := Lib.hid hn2
      clear hneg hn2 hdec
      go_wp2
      go_meet
      exact ⟨hB1, hs1, ha1, HN2.out ▸ hr1, World.ownsRow_nil _ _ _ _⟩
  case rest =>
    have hT0 := hcut
    clear hr1 ha1 hB1 hs1
    go_wp2
    go_loopw [4] (fun v w' => ∃ (r : Nat) (ys : List Nat), r ≤ z.natAbs ∧ Hid (ys ++ dg r = dg z.natAbs) ∧ TextAt w z r v ys w') (fun v _ => 60 - lenV v)
    case atStart => exact ⟨_, [], Nat.le_refl _, Lib.hid rfl, hT0⟩
    case round =>
      obtain ⟨r, ys, hr, HD, hT⟩ := hrel
      clear hT0
      have hlen : ys.length < 60 := len_dg HD.out HN.out
      have hr57 : r < 10 ^ 57 := Nat.lt_of_le_of_lt hr HM.out
      have HR6 := Lib.hid (show (r : Int) < pw 6 by rw [pw6]; omega)
      obtain ⟨q, hq⟩ : ∃ q, q = r / 10 := ⟨_, rfl⟩
      obtain ⟨d, hd⟩ : ∃ d, d = r % 10 := ⟨_, rfl⟩
      have E1 : Hid ((r : Int) / 10 = (q : Int)) := Lib.hid (by omega)
      have E2 : Hid ((r : Int) % 10 = (d : Int)) := Lib.hid (by omega)
      have hd0 : d < 10 := by omega
      have hby := byte_add d hd0
      have hcv : IntKind.u8.wrap (d : Int) = (d : Int) := IntWalk.u8_in _ (by omega)
      have HR := Lib.hid hr
      have hR2 : Rg (q : Int) := by unfold Rg; omega
      have HT := Lib.hid hT
      have hs := hT.lt
      obtain ⟨⟨b0, b1, b2, b3, b4, b5⟩, f0, f1, f2, f3, f4, f5⟩ := six_there hT.rr
      have HQ := Lib.hid hq
      have HDD := Lib.hid hd
      clear hr hT hr57 hq hd
      obtain ⟨A, cap, hv⟩ := own_form2 HT.out.own
      rw [hv]
      have HV := Lib.hid hv
      clear hv
      go_wp2_with fail
      go_at_call 29
      refine (nn_div (r : Int) (by omega) HR6.out _).mono ?_
      rintro e w2 ⟨rfl, hb2⟩
      rw [E1.out, E2.out]
      have hr2 := RowAt.below HT.out.rr hb2 (by omega)
      have HR2 := Lib.hid hr2
      obtain ⟨⟨c0, c1, c2, c3, c4, c5⟩, h0, h1, h2, h3, h4, h5⟩ := six_there hr2
      have HB2 := Lib.hid hb2
      have hs2 := hb2.size
      clear hr2 hb2
      have HO2 : Hid (World.ownsRow w2 (w.heap.size + 2) 5 1 (.slice A ys.length cap) ys.length (tcs ys)) := Lib.hid (own_below2 (HV.out ▸ HT.out.own) HB2.out)
      go_upto_region 7 with fail
      have hT3 : TextAt w z q (.slice A ys.length cap) ys ((((((w2.setCell ⟨w.heap.size + 1, 0, none⟩ (.int .u32 (wd q 0))).setCell ⟨w.heap.size + 1, 1, none⟩ (.int .u32 (wd q 1))).setCell ⟨w.heap.size + 1, 2, none⟩ (.int .u32 (wd q 2))).setCell ⟨w.heap.size + 1, 3, none⟩ (.int .u32 (wd q 3))).setCell ⟨w.heap.size + 1, 4, none⟩ (.int .u32 (wd q 4))).setCell ⟨w.heap.size + 1, 5, none⟩ (.int .u32 (wd q 5))) :=
        ⟨store6 (HT.out.below.trans (HB2.out.mono HT.out.below.size)) (by omega) _ _ _ _ _ _, by simp [World.size_setCell]; omega, far6 (RowAt.below HT.out.ra HB2.out (by omega)) (by omega) _ _ _ _ _ _, row6 HR2.out, World.ownsRow.kept HO2.out (grown6 w2 (w.heap.size + 1) _ _ _ _ _ _) (own_block_ne HO2.out (by omega))⟩
      clear HT HB2 HO2 HR2 b0 b1 b2 b3 b4 b5 f0 f1 f2 f3 f4 f5 c0 c1 c2 c3 c4 c5 h0 h1 h2 h3 h4 h5 hs hs2
      generalize hW3 : ((((((w2.setCell ⟨w.heap.size + 1, 0, none⟩ (.int .u32 (wd q 0))).setCell ⟨w.heap.size + 1, 1, none⟩ (.int .u32 (wd q 1))).setCell ⟨w.heap.size + 1, 2, none⟩ (.int .u32 (wd q 2))).setCell ⟨w.heap.size + 1, 3, none⟩ (.int .u32 (wd q 3))).setCell ⟨w.heap.size + 1, 4, none⟩ (.int .u32 (wd q 4))).setCell ⟨w.heap.size + 1, 5, none⟩ (.int .u32 (wd q 5))) = W3 at hT3 ⊢
      clear hW3
      have HT3 := Lib.hid hT3
      have hl3 := hT3.lt
      clear hT3
      go_upto_region 8 with (at_builtin; (refine wpList_append_own _ rfl (.tmp 16) (.tmp 20) 56 rfl (w.heap.size + 2) 5 i0 _ 1 1 Try.underlying56 HI.out HZ.out HY1.out HY2.out rfl (by decide) _ ys.length _ rfl (World.ownsRow.alloc HT3.out.own _) ⟨W3.heap.size, 0, none⟩ 1 1 [.int .u8 (48 + (d : Int))] rfl rfl (cell_one_new _ _ _) (by simp [Value.oneCell']) (by unfold maxLen; omega) (by omega) (by simp; omega) ?_; intro v4 w4 hO4 hg4 hi4; clear hi4; obtain ⟨A4, cap4, rfl⟩ := own_form2 hO4; have hT4 := HT3.out.app _ hO4 hg4; have HT4 := Lib.hid hT4; obtain ⟨⟨b0, b1, b2, b3, b4, b5⟩, f0, f1, f2, f3, f4, f5⟩ := six_there hT4.rr; clear hT4 hO4 hg4))
      by_cases hq0 : q = 0
      · have HQ0 := Lib.hid hq0
        have hE := eqz_six (q : Int) hR2 true (by simp [hq0])
        have hg : Try.prog.eqGuardType Try.prog.depth 27 = false := by kernel_rfl
        clear hq0
        go_upto_region 9 with fail
        clear hE hg b0 b1 b2 b3 b4 b5 f0 f1 f2 f3 f4 f5
        have hd10 : r < 10 := by have := HQ.out; have := HQ0.out; omega
        have e3 := last_dg HD.out hd10
        rw [← HDD.out] at e3
        obtain ⟨g, cg, hv, hge, hgl⟩ := HT4.out.own.form (by simp)
        injection hv with hv1 hv2 hv3
        subst hv1
        have HO4 : Hid (w4.ownsRow (w.heap.size + 2) 5 1 (.slice (some ⟨g, 0, none⟩) (ys.length + 1) cap4) (ys.length + 1) ((tb (dg z.natAbs)).map (Value.int .u8))) := Lib.hid (by have h := HT4.out.own; rw [show (ys ++ [d]).length = ys.length + 1 by simp, e3] at h; exact h)
        clear hv2 hv3 e3 hd10
        by_cases hneg : z < 0
        · have hdec : decide (z < 0) = true := by simpa using hneg
          have HT : Hid ((tb (dg z.natAbs) ++ [45]).reverse = tl z) := Lib.hid (by rw [tl_eq, if_pos hneg])
          clear hneg
          obtain ⟨⟨a0, a1, a2, a3, a4, a5⟩, g0, g1, g2, g3, g4, g5⟩ := six_there HT4.out.ra
          go_wp2_with fail
          go_at_call 28
          refine (nn_negative z hR _).mono ?_
          rintro e w5 ⟨rfl, hb5⟩
          rw [hdec]
          have HO5 := Lib.hid (own_below2 HO4.out hb5)
          have HB5 := Lib.hid (HT4.out.below.trans (hb5.mono HT4.out.below.size))
          have hs5 := hb5.size
          have hl4 := HT4.out.lt
          clear hb5 hdec HT4 HO4 a0 a1 a2 a3 a4 a5 g0 g1 g2 g3 g4 g5
          go_wp2_with (first
            | (at_builtin; (refine wpList_append_own _ rfl (.tmp 27) (.tmp 28) 56 rfl (w.heap.size + 2) 5 i0 _ 1 1 Try.underlying56 HI.out HZ.out HY1.out HY2.out rfl (by decide) _ (ys.length + 1) _ rfl (World.ownsRow.alloc HO5.out _) ⟨w5.heap.size, 0, none⟩ 1 1 [.int .u8 45] rfl rfl (cell_one_new _ _ _) (by simp [Value.oneCell']) (by unfold maxLen; omega) (by omega) (by simp; omega) ?_; intro v6 w6 hO6 hg6 hi6; clear hi6; obtain ⟨G, cG, rfl, hGe, hGl⟩ := hO6.form (by omega); have HO6 : Hid (w6.ownsRow (w.heap.size + 2) 5 1 (.slice (some ⟨G, 0, none⟩) (ys.length + 1 + 1) cG) (ys.length + 1 + 1) ((tb (dg z.natAbs) ++ [45]).map (Value.int .u8))) := Lib.hid (by rw [List.map_append]; exact hO6); have HB6 := Lib.hid ((HB5.out.alloc HB5.out.size _).grown hg6 (Nat.le_trans HB5.out.size (by simp)) (fun k hk => by injection hk with hk; simp only at hk; omega)); clear hO6 hg6))
            | (go_at_call 30; refine (nn_revL _ _ _ _ _ (by omega) (by omega) _ HO6.out).mono ?_; rintro e w7 ⟨rfl, hO7, hg7⟩; have kc := fun w => conv_row (w := w) (base := w.heap.size) (n := 0) (v := .slice none 0 0) [] (World.ownsRow_nil _ _ _ _); have HB7 := Lib.hid (HB6.out.grown hg7 HB6.out.size (fun k hk => by injection hk with hk; omega)); rw [HT.out] at hO7; have hcv7 := conv_row (tl z) hO7 (by omega); clear hO7 hg7 kc))
          go_ret
          exact ⟨rfl, HB7.out⟩
        · have hdec : decide (z < 0) = false := by simpa using hneg
          have HT : Hid ((tb (dg z.natAbs)).reverse = tl z) := Lib.hid (by rw [tl_eq, if_neg hneg, List.append_nil])
          clear hneg
          obtain ⟨⟨a0, a1, a2, a3, a4, a5⟩, g0, g1, g2, g3, g4, g5⟩ := six_there HT4.out.ra
          go_wp2_with fail
          go_at_call 28
          refine (nn_negative z hR _).mono ?_
          rintro e w5 ⟨rfl, hb5⟩
          rw [hdec]
          have HO5 := Lib.hid (own_below2 HO4.out hb5)
          have HB5 := Lib.hid (HT4.out.below.trans (hb5.mono HT4.out.below.size))
          have hs5 := hb5.size
          have hl4 := HT4.out.lt
          clear hb5 hdec HT4 HO4 a0 a1 a2 a3 a4 a5 g0 g1 g2 g3 g4 g5
          go_wp2_with (go_at_call 30; refine (nn_revL _ _ _ _ _ (by omega) (by omega) _ HO5.out).mono ?_; rintro e w7 ⟨rfl, hO7, hg7⟩; have HB7 := Lib.hid (HB5.out.grown hg7 HB5.out.size (fun k hk => by injection hk with hk; omega)); rw [HT.out] at hO7; have hcv7 := conv_row (tl z) hO7 (by omega); clear hO7 hg7)
          go_ret
          exact ⟨rfl, HB7.out⟩
      · have HQ0 := Lib.hid hq0
        have hE := eqz_six (q : Int) hR2 false (by simp [hq0])
        have hg : Try.prog.eqGuardType Try.prog.depth 27 = false := by kernel_rfl
        clear hq0
        go_wp2
        go_roundw
        case rel =>
          go_light
          have h10 : ¬ r < 10 := by have := HQ.out; have := HQ0.out; omega
          refine ⟨q, ys ++ [d], by have := HQ.out; have := HR.out; omega, Lib.hid ?_, HT4.out⟩
          have := step_dg HD.out h10
          rw [HQ.out, HDD.out]
          exact this
        case measure => simp [lenV]; omega
end Go.Proofs.Ytbacclhnbecojaa
