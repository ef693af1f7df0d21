/- LexerPlaces, its walk. -/
import Derived.Test.YtoiofbpmgihkfaaDoorLPlc
import Derived.Lib.LazyBuf
import Derived.Deep.RegionLaw
import Derived.Deep.OwnRows
namespace Go.Proofs.YtoiofbpmgihkfaaDoor
open Go.RowKit

def spA (k j : Nat) : Int := if j < k then 32 else 0
theorem bl_get (t : ByteArray) (i : Nat) (h : i < t.size) : ((t.data.toList.map fun x => Value.int .u8 (x.toNat : Int))[i]?).getD default = .int .u8 (bt t i : Nat) := by
  rw [List.getElem?_map, pr_get t i h, Option.map_some, Option.getD_some, bt_at t i h]
theorem fill_step {s : ByteArray} {tl : List Tok} {z : Nat} (h : Plcd s tl z) (k : Nat) (hk : k < tl.length) (j : Nat) :
    (if (tl[k]'hk).at_ ≤ j ∧ j < (tl[k]'hk).at_ + (((tl[k]'hk).text.data.toList.map fun x => Value.int .u8 (x.toNat : Int))).length then (((tl[k]'hk).text.data.toList.map fun x => Value.int .u8 (x.toNat : Int))[j - (tl[k]'hk).at_]?).getD default else .int .u8 (fillB s (tl.take k) j : Nat)) = Value.int .u8 (fillB s (tl.take (k + 1)) j : Nat) := by
  have hl : ((tl[k]'hk).text.data.toList.map fun x => Value.int .u8 (x.toNat : Int)).length = (tl[k]'hk).text.size := by rw [List.length_map, Array.length_toList]; rfl
  have hf := h.fit _ (List.getElem_mem hk)
  have hcv : cov (tl.take (k + 1)) j = (cov (tl.take k) j || (decide ((tl[k]'hk).at_ ≤ j) && decide (j < (tl[k]'hk).at_ + (tl[k]'hk).text.size))) := by
    rw [List.take_succ_eq_append_getElem hk, cov_snoc]
  rw [hl]
  generalize (tl[k]'hk) = t at hf hcv ⊢
  by_cases hc : t.at_ ≤ j ∧ j < t.at_ + t.text.size
  · rw [if_pos hc, bl_get t.text _ (by omega), hf.2 _ (by omega)]
    have e : fillB s (tl.take (k + 1)) j = bt s j := by
      unfold fillB
      rw [hcv, decide_eq_true hc.1, decide_eq_true hc.2, Bool.and_self, Bool.or_true, if_pos rfl]
    rw [e, show t.at_ + (j - t.at_) = j by omega]
  · rw [if_neg hc]
    have e : cov (tl.take (k + 1)) j = cov (tl.take k) j := by
      rw [hcv]
      by_cases h1 : t.at_ ≤ j
      · rw [decide_eq_false (fun h2 => hc ⟨h1, h2⟩), Bool.and_false, Bool.or_false]
      · rw [decide_eq_false h1, Bool.false_and, Bool.or_false]
    unfold fillB
    rw [e]
set_option maxRecDepth 100000 in
set_option maxHeartbeats 8000000 in
theorem lplc_any (w : World) (A : Option Addr) (D n cap : Nat) (l : List Nat) (hr : ReadsL w D A l) (hD : l ≠ [] → D < w.heap.size) (hl : l.length = n) (hn : n ≤ cap) (hcap : cap ≤ maxLen) (hs : Small l) (hy : Syms w) :
    Calls Tryd.prog 4 #[.slice A n cap] w (RetX (.bool true) w) := by
  have KN := Lib.hid (conew_lim 60 (by decide) A D n cap l w hr hD hl hn hcap hs)
  have HY := Lib.hid hy
  clear hr hD hl hn hcap hs hy
  go_enter Tryd.func4, Tryd.ntmps4
  go_wp2_with fail
  go_at_call 11
  refine KN.out.mono ?_
  rintro e w1 ⟨rfl, hb1, hlt1, hc1⟩
  have HB1 := Lib.hid hb1
  have HC1 := Lib.hid hc1
  clear hb1 hc1 KN
  go_wp2_with fail
  go_at_call 12
  refine (cs_pieces w1 w.heap.size (Nat.le_refl _) HC1.out).mono ?_
  rintro e w2 ⟨p, hp, rfl, hb2⟩
  have HB2 := Lib.hid (HB1.out.trans hb2)
  have HP := Lib.hid hp
  clear hb2 hp HC1 HB1 hlt1
  have hts : p.size < 9223372036854775807 := by have := HP.out; omega
  obtain ⟨R, hR⟩ : ∃ R, scan p = R := ⟨_, rfl⟩
  obtain ⟨⟨tl, ri, rc⟩, hRR⟩ : ∃ x : List Tok × Nat × Nat, R = x := ⟨_, rfl⟩
  subst hRR
  have hyr := HY.out.below HB2.out HY.out.lt
  have K1 := lx_scan p hts w2 hyr
  rw [hR] at K1
  have KK1 := Lib.hid K1
  obtain ⟨nn, hnn⟩ : ∃ nn, tl.length = nn := ⟨_, rfl⟩
  have HNN := Lib.hid hnn
  have hnn4 : nn ≤ 400 := by have := scan_len p; rw [hR] at this; rw [← hnn]; exact this
  have HR := Lib.hid hR
  have h2 := HB2.out.size
  clear K1 hR hyr hts
  go_wp2_with fail
  go_at_call 14
  refine KK1.out.mono ?_
  rintro e w6 ⟨A6, c6, he, hO6, hb6⟩
  have he2 : e = .returned (.tuple #[.slice A6 nn c6, .int .i64 (ri : Nat), .int .i64 (rc : Nat)]) := by rw [← hnn]; exact he
  subst he2
  have T6 := Lib.hid (tokR_own hO6 rfl)
  have HB6 := Lib.hid (HB2.out.trans (hb6.mono h2))
  have hyr := HY.out.below HB6.out HY.out.lt
  have HY6 := Lib.hid hyr
  have h6 := HB6.out.size
  clear he hO6 hb6 KK1 hyr HY
  by_cases h0 : rc = 0
  · subst h0
    have HPL : Hid (Plcd p tl p.size) := Lib.hid (by have h := scan_plcd p (by rw [HR.out]); rw [HR.out] at h; exact h)
    have hpos0 : Hid (∀ t ∈ tl, 1 ≤ t.text.size) := Lib.hid fun t ht => by
      have h := scan_pos p t
      rw [HR.out] at h
      exact h ht
    obtain ⟨x, hx⟩ : ∃ x, x = p.size := ⟨_, rfl⟩
    have hx320 : x ≤ 320 := by rw [hx]; exact HP.out
    have hmk : ∀ W : World, (Instr.makeSlice 22 (.int .i64 (p.size : Int)) (.int .i64 (p.size : Int))).run Tryd.prog W = .ok (.slice (some ⟨W.heap.size, 0, none⟩) x x) (W.alloc (.cells (madeCells #[.int .u8 0] x) 5)) := fun W => by
      rw [← hx]
      exact run_make_row' (P := Tryd.prog) 22 5 (.int .u8 0) 1 Tryd.underlying22 (by kernel_rfl) rfl .i64 .i64 x (by omega) (by omega) W
    have hRow : (w6.alloc (.cells (madeCells #[.int .u8 0] x) 5)).rowIs w6.heap.size 5 x (fun _ => .int .u8 0) := World.rowIs_made w6 (.int .u8 0) x 5
    have hRow0 : (w6.alloc (.cells (madeCells #[.int .u8 0] x) 5)).rowIs w6.heap.size 5 x (fun j => .int .u8 (spA 0 j)) := hRow.congr fun j _ => by unfold spA; rw [if_neg (by omega)]
    have HRW := Lib.hid hRow0
    have HX := Lib.hid hx
    clear hRow hRow0
    obtain ⟨Mk, hMk⟩ : ∃ M, M = madeCells #[.int .u8 0] x := ⟨_, rfl⟩
    rw [← hMk] at HRW
    rw [← hMk] at hmk
    clear hMk
    rw [← hx] at HPL
    clear hx
    go_upto_region 6 with (fail)
    have HB7 : Hid (Below w6.heap.size w6 (w6.alloc (.cells Mk 5))) := Lib.hid ((Below.refl _ _).alloc (Nat.le_refl _) _)
    have hb7 : w6.heap.size < (w6.alloc (.cells Mk 5)).heap.size := by simp
    clear hmk
    obtain ⟨b, hb⟩ : ∃ b, b = w6.heap.size := ⟨_, rfl⟩
    rw [← hb] at HRW HB7 hb7 ⊢
    generalize w6.alloc (.cells Mk 5) = W7 at HRW HB7 hb7 ⊢
    have HBB := Lib.hid hb
    clear hb
    go_wp2
    go_loopw [33] (fun i w' => ∃ k : Nat, k ≤ x ∧ i = .int .i64 k ∧ Below b w6 w' ∧ b < w'.heap.size ∧ w'.rowIs b 5 x (fun j => .int .u8 (spA k j))) (fun i _ => x - (intOf i).toNat)
    case atStart => exact ⟨0, by omega, rfl, HB7.out, hb7, HRW.out⟩
    case round =>
      clear HRW HB7 hb7
      obtain ⟨k, hk, rfl, hB, hbs, hrow⟩ := hrel
      by_cases hkx : k < x
      · have hkI : (k : Int) < (x : Int) := by omega
        have hcell := hrow.cell hkx
        have hfr := hrow.frozen k
        have HB := Lib.hid hB
        have HROW := Lib.hid hrow
        clear hB hrow
        go_wp2
        go_roundw
        case rel => (go_light; exact ⟨k + 1, by omega, by simp, HB.out.setCell (p := ⟨b, k, none⟩) (Nat.le_refl _) _, by rw [World.size_setCell]; exact hbs, (HROW.out.set k (.int .u8 32)).congr fun j _ => by
          unfold spA
          by_cases e : j = k
          · rw [if_pos e, if_pos (by omega)]
          · rw [if_neg e]
            by_cases e2 : j < k
            · rw [if_pos e2, if_pos (by omega)]
            · rw [if_neg e2, if_neg (by omega)]⟩)
        case measure => simp [intOf]; omega
      · have hkI : ¬ (k : Int) < (x : Int) := by omega
        have hrow0 : wr.rowIs b 5 x (fun j => .int .u8 (fillB p (tl.take 0) j : Nat)) := hrow.congr fun j hj => by
          unfold spA fillB cov
          rw [if_pos (by omega)]
          rfl
        have HB := Lib.hid hB
        have HROW := Lib.hid hrow0
        clear hB hrow hrow0
        go_wp2
        go_loopw [42] (fun i w' => ∃ k : Nat, k ≤ nn ∧ i = .int .i64 k ∧ Below b w6 w' ∧ b < w'.heap.size ∧ w'.rowIs b 5 x (fun j => .int .u8 (fillB p (tl.take k) j : Nat))) (fun i _ => nn - (intOf i).toNat)
        case atStart => exact ⟨0, by omega, rfl, HB.out, hbs, HROW.out⟩
        case round =>
          clear HB HROW hbs hkI hk hkx
          obtain ⟨k, hk, rfl, hB, hbs, hrow⟩ := hrel
          have HB := Lib.hid hB
          have HROW := Lib.hid hrow
          clear hB hrow
          by_cases hkn : k < nn
          · have hkI : (k : Int) < (nn : Int) := by omega
            have hkl : k < tl.length := by rw [HNN.out]; exact hkn
            have r1 := T6.out.below (by rw [← HBB.out]; exact HB.out)
            obtain ⟨g1, e1, l1, q1⟩ := r1.r.resolve_left (fun e => by rw [e] at hkl; simp at hkl)
            subst e1
            obtain ⟨a0, a1, a2⟩ := q1 k hkl
            have hf := HPL.out.fit _ (List.getElem_mem hkl)
            have hpos : 1 ≤ (tl[k]'hkl).text.size := (hpos0.out _ (List.getElem_mem hkl))
            have hst := fun j => fill_step HPL.out k hkl j
            have hls : ((tl[k]'hkl).text.data.toList.map fun x => Value.int .u8 (x.toNat : Int)).length = (tl[k]'hkl).text.size := by rw [List.length_map, Array.length_toList]; rfl
            generalize (tl[k]'hkl) = tk at a0 a1 a2 hf hst hpos hls
            obtain ⟨kd, hkd⟩ : ∃ x : Nat, x = tk.kind := ⟨_, rfl⟩
            obtain ⟨tx, htx⟩ : ∃ x : ByteArray, x = tk.text := ⟨_, rfl⟩
            obtain ⟨ta, hta⟩ : ∃ x : Nat, x = tk.at_ := ⟨_, rfl⟩
            rw [← hkd] at a0
            rw [← htx] at a1 hf hst hpos hls
            rw [← hta] at a2 hf hst
            have HST := Lib.hid hst
            have HLS := Lib.hid hls
            have hfit := hf.1
            clear hf hst hls htx hta hkd q1 r1
            have hneg : ¬ (ta : Int) < 0 := by omega
            have hsum : ¬ ((ta : Int) + (tx.size : Int)) > (p.size : Int) := by rw [← HX.out]; omega
            have hwr : IntKind.i64.wrap ((ta : Int) + (tx.size : Int)) = (ta : Int) + (tx.size : Int) := IntWalk.i64_in _ (by omega)
            have hgt : ¬ ((ta : Int) + (tx.size : Int) > (x : Int)) := by omega
            go_wp2
            have q1 : (wr.alloc (.cells #[.int .i64 (kd : Int), .string tx, .int .i64 (ta : Int)] 39)).cell? ⟨wr.heap.size, 1, none⟩ = some (.string tx) := by rw [World.cell?_alloc_new]; rfl
            have q2 : (wr.alloc (.cells #[.int .i64 (kd : Int), .string tx, .int .i64 (ta : Int)] 39)).cell? ⟨wr.heap.size, 2, none⟩ = some (.int .i64 (ta : Int)) := by rw [World.cell?_alloc_new]; rfl
            have HROW2 := Lib.hid (HROW.out.alloc (.cells #[.int .i64 (kd : Int), .string tx, .int .i64 (ta : Int)] 39))
            have HB2 := Lib.hid (HB.out.alloc (by omega) (.cells #[.int .i64 (kd : Int), .string tx, .int .i64 (ta : Int)] 39))
            have hbs2 : b < (wr.alloc (.cells #[.int .i64 (kd : Int), .string tx, .int .i64 (ta : Int)] 39)).heap.size := by simp; omega
            generalize wr.alloc (.cells #[.int .i64 (kd : Int), .string tx, .int .i64 (ta : Int)] 39) = WB at q1 q2 HROW2 HB2 hbs2 ⊢
            generalize wr.heap.size = bx at q1 q2 ⊢
            have hx1 : ¬ ta = x := by omega
            have hx1I : (ta : Int) ≤ (x : Int) := by omega
            have HCC : Hid (∀ W : World, W = WB.drew → (∀ j, j < tx.size → (W.cell? ⟨b, ta + j, none⟩).isSome = true) ∧ ∀ j, j < tx.size → W.frozen? ⟨b, ta + j, none⟩ = false) := Lib.hid fun W hW => by
              subst hW
              exact ⟨fun j hj => by rw [World.cell?_drew, HROW2.out.cell (i := ta + j) (by omega)]; rfl, fun j _ => HROW2.out.frozen _⟩
            go_region_law (refine Go.step_copy_string rfl (.tmp 63) (.tmp 65) 22 9 rfl 5 Tryd.underlying22 (by intro w; kernel_rfl) b ta (x - ta) (x - ta) (by simp [Act.eval, Act.put]; omega) tx (by simp [Act.eval, Act.put]) (by omega) (HCC.out _ rfl).1 (HCC.out _ rfl).2 ?_)
            all_goals
              have HF : Hid ((WB.drew.setCells b ta (List.map (fun x => Value.int IntKind.u8 (x.toNat : Int)) tx.data.toList)).rowIs b 5 x (fun j => .int .u8 (fillB p (tl.take (k + 1)) j : Nat))) := Lib.hid ((Go.rowIs_setCells _ ta _ _ HROW2.out.drew).congr fun j _ => HST.out j)
              have HG : Hid (Below b w6 (WB.drew.setCells b ta (List.map (fun x => Value.int IntKind.u8 (x.toNat : Int)) tx.data.toList))) := Lib.hid (Go.below_setCells (Nat.le_refl _) _ _ _ HB2.out.drew)
              have hgs : b < (WB.drew.setCells b ta (List.map (fun x => Value.int IntKind.u8 (x.toNat : Int)) tx.data.toList)).heap.size := HF.out.lt
              clear HCC HROW2 HB2
              generalize WB.drew.setCells b ta (List.map (fun x => Value.int IntKind.u8 (x.toNat : Int)) tx.data.toList) = WC at HF HG hgs ⊢
              go_wp2
              go_roundw
              case rel => (go_light; exact ⟨k + 1, by omega, by simp, HG.out, hgs, HF.out⟩)
              case measure => simp [intOf]; omega
          · have hkI : ¬ (k : Int) < (nn : Int) := by omega
            have hkn2 : tl.take k = tl := List.take_of_length_le (by rw [HNN.out]; omega)
            have r5 : ReadsB wr (some ⟨b, 0, none⟩) x (fillB p tl) := by
              refine .inr ⟨b, 0, rfl, hbs, fun i hi2 => ?_, fun i _ => ?_⟩
              · rw [Nat.zero_add, HROW.out.cell hi2, hkn2]
              · unfold fillB
                split
                · exact bt_lt _ _
                · decide
            have hstr : strG x (fillB p tl) = p := by
              have h1 := HPL.out
              have h2 := HX.out
              rw [h2] at h1
              rw [h2]
              exact fill_done h1
            have kc : (convert 22 9 (.slice (some ⟨b, 0, none⟩) x x)).run Tryd.prog wr = .ok (.string p) wr := by
              by_cases hx1 : 1 ≤ x
              · have h := conv_reads (cap := x) r5 hx1
                rw [hstr] at h
                exact h
              · obtain rfl : x = 0 := by omega
                have h := cv_zero wr b 0
                have e : strN [] = p := by rw [← hstr]; rfl
                rw [e] at h
                exact h
            have HBF := Lib.hid (HB6.out.trans (HB.out.mono (by rw [HBB.out]; exact h6)))
            have hyr := HY6.out.below HB.out (by rw [HBB.out]; exact HY6.out.lt)
            have HYR := Lib.hid hyr
            clear hyr r5 hstr
            go_wp2_with (go_at_call 17; refine (lx_begun _ HYR.out).mono ?_; rintro e w8 ⟨rfl, hb8⟩; have HB8 := Lib.hid (HBF.out.trans (hb8.mono HBF.out.size)); clear hb8)
            go_ret
            exact ⟨by first | rfl | simp, HB8.out⟩
  · have h0I : ((rc : Int) == 0) = false := by rw [beq_eq_false_iff_ne]; omega
    have htl : tl = [] := by have h := scan_fail p (by rw [HR.out]; exact h0); rw [HR.out] at h; exact h
    obtain rfl : nn = 0 := by rw [← HNN.out, htl]; rfl
    clear htl
    go_wp2_with (go_at_call 17; refine (lx_begun _ HY6.out).mono ?_; rintro e w8 ⟨rfl, hb8⟩; have HB8 := Lib.hid (HB6.out.trans (hb8.mono h6)); clear hb8)
    go_ret
    exact ⟨by first | rfl | simp, HB8.out⟩
end Go.Proofs.YtoiofbpmgihkfaaDoor
