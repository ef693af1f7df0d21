/- Layer 11: All: the points of an index, ascending. -/
import Derived.Test.YtjdecoiciecfpaaQRow
import Derived.Deep.AppendLies
import Derived.Laws.MakeOwn
namespace Go.Proofs.Ytjdecoiciecfpaa
open Go.RowKit Go.Maps Go.Sort
def RetAll (pts : List Pt) (f : Pt → Int) (w : World) (e : Ending) (w' : World) : Prop := ∃ A cap, e = .returned (.slice A pts.length cap) ∧ w'.ownsRow w.heap.size 84 9 (.slice A pts.length cap) pts.length (rowP f pts) ∧ Below w.heap.size w w'
set_option maxRecDepth 100000 in
theorem info_pair : (Try.prog.info? 84).map (fun i => (i.zero, i.size, i.bytes)) = some (some (.agg #[.int .u64 0, .int .u64 0, .int .u64 0, .int .u64 0, .int .u64 0, .int .u64 0, .int .u64 0, .int .u64 0, .int .i64 0]), 9, 72) := by kernel_rfl
theorem info_partsQ {P : Program} {t : TypeId} {z : Option Value} {a b : Nat} (h : (P.info? t).map (fun i => (i.zero, i.size, i.bytes)) = some (z, a, b)) : ∃ i, P.info? t = some i ∧ i.zero = z ∧ i.size = a ∧ i.bytes = b := by
  obtain ⟨i, h1, h2⟩ := Option.map_eq_some_iff.1 h
  simp only [Prod.mk.injEq] at h2
  exact ⟨i, h1, h2.1, h2.2.1, h2.2.2⟩
theorem PMap.size_le {w : World} {b n : Nat} {pts : List Pt} {f : Pt → Int} (h : PMap w b n pts f) : pts.length ≤ n := by
  obtain ⟨D, h1, h2, h3, h4⟩ := h
  rw [← h4]
  exact h1.size_le
theorem nodup_len : ∀ (l m : List Pt), l.Nodup → (∀ x ∈ l, x ∈ m) → l.length ≤ m.length
  | [], _, _, _ => Nat.zero_le _
  | x :: r, m, h, hs => by
    have hx := hs x List.mem_cons_self
    have hn := List.nodup_cons.1 h
    have ih := nodup_len r (m.erase x) hn.2 fun y hy => (List.mem_erase_of_ne fun e => hn.1 (by rw [← e]; exact hy)).2 (hs y (List.mem_cons_of_mem _ hy))
    rw [List.length_erase_of_mem hx] at ih
    have := List.length_pos_of_mem hx
    simp only [List.length_cons]
    omega
theorem own_shapeQ {w : World} {base : Nat} {e : TypeId} {sz : Nat} {v : Value} {n : Nat} {xs : List Value} (h : w.ownsRow base e sz v n xs) : ∃ A c, v = .slice A n c := by
  rcases h.2 with ⟨rfl, rfl⟩ | ⟨g, cap, cur, rfl, _⟩
  · exact ⟨none, 0, rfl⟩
  · exact ⟨_, _, rfl⟩
set_option maxRecDepth 100000 in
set_option maxHeartbeats 1000000 in
theorem qx_sortA {w : World} {base : Nat} {A : Option Addr} {cap : Nat} {f : Pt → Int} {l m : List Pt} (h : w.ownsRow base 84 9 (.slice A l.length cap) l.length (rowP f l)) (hlen : l.length ≤ 100000) (hd : l.Nodup) (ha : Asc m) (hm : ∀ q, q ∈ l ↔ q ∈ m) (hbase : base ≤ w.heap.size) :
    Calls Try.prog 76 #[.slice A l.length cap, .func (.func 77) #[] #[]] w fun e w' => e = .returned (.tuple #[]) ∧ w'.ownsRow base 84 9 (.slice A l.length cap) l.length (rowP f m) ∧ Below base w w' := by
  rcases Nat.eq_zero_or_pos l.length with h0 | h0
  · have e1 : l = [] := List.length_eq_zero_iff.1 h0
    subst e1
    have e2 : m = [] := by
      cases m with
      | nil => rfl
      | cons x r => have := (hm x).2 List.mem_cons_self; cases this
    subst e2
    have hcon := AnyF.slices_SortFunc_none (P := Try.prog) (ρ := sortPair_ren) { sortPair with } A cap (.func (.func 77) #[] #[]) w
    refine hcon.mono ?_
    rintro e w' ⟨rfl, rfl⟩
    exact ⟨rfl, h, Below.refl _ _⟩
  · obtain ⟨g, c2, e1, _⟩ := World.ownsRow.form h h0
    injection e1 with e1 _ _
    subst e1
    exact qx_sort h hlen hd ha hm hbase
set_option maxRecDepth 100000 in
set_option maxHeartbeats 1000000 in
theorem qx_AllNil (w : World) : Calls Try.prog 39 #[.pointer none] w fun e w' => e = .returned (.slice none 0 0) ∧ w' = w := by
  go_enter Try.func39, Try.ntmps39
  go_wp2
  go_ret
  exact ⟨rfl, rfl⟩
set_option maxRecDepth 100000 in
set_option maxHeartbeats 4000000 in
theorem qx_All {w : World} {X k : Nat} {m : Option Nat} {pts : List Pt} {f : Pt → Int} (h : IdxAt w X m k pts f) (hk : k ≤ 100000) : Calls Try.prog 39 #[.pointer (some ⟨X, 0, none⟩)] w (RetAll pts f w) := by
  obtain ⟨i0, hi0, hz0, hy1, hy2⟩ := info_partsQ info_pair
  have hc := h.c
  have hlen : ∀ ty, (Builtin.len_ #[141] ty #[.map m]).run Try.prog w = .ok (.int .i64 pts.length) w := by
    intro ty
    cases m with
    | none => rw [h.no rfl]; exact Maps.len_nil Try.underlying141 ty
    | some b => exact (h.yes b rfl).2.len ty
  have hn : pts.length ≤ 100000 := by
    cases m with
    | none => rw [h.no rfl]; exact Nat.zero_le _
    | some b => exact Nat.le_trans (h.yes b rfl).2.size_le hk
  obtain ⟨w1, hmk, how1, hg1⟩ := run_make_own (P := Try.prog) w w.heap.size 80 84 i0 _ 9 Try.underlying80 hi0 hz0 hy1 .i64 .i64 pts.length (by rw [hy2]; omega) (by unfold maxLen; omega) (Nat.le_refl _)
  have hb1 : Below w.heap.size w w1 := ⟨hg1.os, hg1.tape, hg1.output, hg1.size, fun j hj => hg1.block j hj (by simp)⟩
  have h1 := h.below hb1
  have hc1 := h1.c
  have HO1 := Lib.hid how1
  have HB1 := Lib.hid hb1
  have H1 := Lib.hid h1
  have HI := Lib.hid hi0
  have HZ := Lib.hid hz0
  have HY1 := Lib.hid hy1
  have HY2 := Lib.hid hy2
  have HL := Lib.hid h.lt
  clear how1 hg1 hb1 h1 hi0 hz0 hy1 hy2
  cases m with
  | none =>
    have e0 := h.no rfl
    subst e0
    clear h
    have hrg := run_range_nilMap (P := Try.prog) w1 141 _ _ Try.underlying141
    have hnx : ∀ ty, (Instr.next (.pointer (some ⟨w1.heap.size, 0, none⟩)) false ty).run Try.prog (w1.alloc (.mapIter none 0 #[] 0)) = _ := fun ty => run_next_nilMap _ ty 0 0 #[]
    have hb2 := (Below.refl _ w1).alloc (Nat.le_refl _) (.mapIter none 0 #[] 0)
    have how2 := World.ownsRow.alloc HO1.out (.mapIter none 0 #[] 0)
    have hsort := qx_sortA (f := f) (l := []) (m := []) how2 (by simp) List.nodup_nil List.Pairwise.nil (fun q => Iff.rfl) (by have := HB1.out.size; simp; omega)
    have hsort2 : Calls Try.prog 76 #[.slice (some ⟨w.heap.size, 0, none⟩) 0 0, .func (.func 77) #[] #[]] (w1.alloc (.mapIter none 0 #[] 0)) _ := hsort
    have HB2 := Lib.hid (HB1.out.trans (hb2.mono HB1.out.size))
    clear hsort
    have hmk2 : (Instr.makeSlice 80 (.int .i64 0) (.int .i64 0)).run Try.prog w = .ok (.slice (some ⟨w.heap.size, 0, none⟩) 0 0) w1 := hmk
    clear hb2 how2 hmk
    go_enter Try.func39, Try.ntmps39
    go_wp2
    refine wp_loop_rounds 1 ?_
    rw [rounds_succ]
    go_wp2_with ((with_reducible refine hsort2.mono ?_); rintro e w4 ⟨rfl, ho4, hb4⟩)
    go_ret
    exact ⟨_, _, rfl, ho4, HB2.out.trans hb4⟩
  | some b =>
    obtain ⟨D, hown, hD1, hD2, hD3⟩ := (H1.out.yes b rfl).2
    have hbX := (h.yes b rfl).1
    have hblt := (h.yes b rfl).2.lt
    clear h
    go_enter Try.func39, Try.ntmps39
    go_wp2_with (first
      | (at_range; refine wpList_range_own _ rfl _ 141 rfl 29 3 lawPt Try.underlying141 _ b k D rfl hown ?_; intro w2 hrg0 hg0 hs0)
      | go_in)
    go_frame
    have HR0 := Lib.hid hrg0
    have HG0 := Lib.hid hg0
    have hb2 := (Below.refl _ w1).grown hg0 (Nat.le_refl _) (fun j hj => by cases hj)
    have HB2 := Lib.hid (HB1.out.trans (hb2.mono HB1.out.size))
    have HO2 := Lib.hid (World.ownsRow.kept HO1.out hg0 (.inr (fun e => (by cases e))))
    have hsz1 := HB1.out.size
    have hgr : w.heap.size ≠ w1.heap.size := by have := (World.ownsRow.lt HO1.out w.heap.size rfl).2; omega
    have HDS := Lib.hid hD1
    have HDA := Lib.hid hD2
    clear hrg0 hg0 hb2 hc hmk hlen hc1 hown hD1 hD2 hD3
    go_loopw [3] (fun s3 wr => ∃ (seen : List Pt) (left : Lit → Bool) (cnt : Nat) (A : Option Addr) (cap : Nat), s3 = .slice A seen.length cap ∧ wr.ranges Try.prog 29 (plainElem Try.prog 3) b w1.heap.size k D left cnt ∧ wr.ownsRow w.heap.size 84 9 (.slice A seen.length cap) seen.length (rowP f seen) ∧ (Value.slice A seen.length cap).ownBlock ≠ some w1.heap.size ∧ Below w.heap.size w wr ∧ seen.Nodup ∧ (∀ p ∈ seen, p ∈ pts) ∧ ∀ p, left (kl p) = (decide (p ∈ pts) && !decide (p ∈ seen)))
      (fun _ wr => wr.rangeLeft b w1.heap.size)
    case atStart => exact ⟨[], _, _, _, _, rfl, HR0.out, HO2.out, fun e => hgr (by injection e), HB2.out, List.nodup_nil, fun p hp => (by cases hp), fun p => by rw [HDS.out p]; simp⟩
    case round =>
      obtain ⟨seen, left, cnt, A, cap, rfl, hrg, how, hne, hbw, hnd, hin, hlf⟩ := hrel
      have HOW := Lib.hid how
      have HNE := Lib.hid hne
      have HBW := Lib.hid hbw
      have HND := Lib.hid hnd
      have HIN := Lib.hid hin
      have HLF := Lib.hid hlf
      have HRG := Lib.hid hrg
      clear how hne hbw hnd hin hlf HR0 HO2 HB2
      go_wp2_with (first
        | (at_next; refine wpList_next_ranges _ rfl _ rfl 29 lawPt (plainElem Try.prog 3) ptV (fun a => Value.int .i64 a) (fun key l hkey => (key_inv hkey).imp fun p hp => hp.1) (fun v y hv => (plainElem_int_inv Try.underlying3 hv).imp fun a ha => ha.1) b w1.heap.size k _ _ _ rfl hrg ?_ ?_)
        | go_in)
      · intro _ hl0
        clear hrg
        have hmem : ∀ q, q ∈ seen ↔ q ∈ pts := fun q => ⟨HIN.out q, fun hq => by
          have e1 := HLF.out q
          rw [hl0 (kl q), decide_eq_true hq] at e1
          by_cases hs : q ∈ seen
          · exact hs
          · rw [decide_eq_false hs] at e1; cases e1⟩
        have hle : seen.length = pts.length := ((List.perm_ext_iff_of_nodup HND.out H1.out.asc.nodup).2 hmem).length_eq
        have hsort := qx_sortA HOW.out (by omega) HND.out H1.out.asc hmem HBW.out.size
        rw [hle] at hsort ⊢
        clear hmem hl0
        go_wp2_with ((with_reducible refine hsort.mono ?_); rintro e w4 ⟨rfl, ho4, hb4⟩)
        go_ret
        exact ⟨A, cap, rfl, ho4, HBW.out.trans hb4⟩
      · intro p a l0 yd yp w3 cnt3 hkey hlx hv hat hrg3 hlt hg3 hs3 hen
        clear hrg
        obtain ⟨p', e1, e2⟩ := key_inv hkey
        have e3 : p' = p := Pt.cells_inj (by unfold ptV at e1; simpa [Pt.cells] using e1.symm)
        subst e3
        subst e2
        rw [HLF.out p', Bool.and_eq_true, decide_eq_true_iff] at hlx
        have hp2 : p' ∉ seen := by have := hlx.2; simpa using this
        obtain ⟨a', e4, e5, -⟩ := plainElem_int_inv Try.underlying3 hv
        injection e4 with _ e4
        subst e4
        have e6 := (hat yd).symm.trans (HDA.out p' yd hlx.1)
        rw [(Prod.mk.inj e5).1] at e6
        injection e6 with e6
        injection e6 with _ e6
        subst e6
        have hw3 := HBW.out.grown hg3 HBW.out.size (fun j hj => by injection hj with hj; omega)
        have HBW3 := Lib.hid hw3
        have HRG3 := Lib.hid hrg3
        have HG3 := Lib.hid hg3
        have HOW3 := Lib.hid (World.ownsRow.kept HOW.out hg3 (.inr HNE.out))
        have HLT := Lib.hid hlt
        have HLX := Lib.hid hlx
        have HP2 := Lib.hid hp2
        clear hw3 hrg3 hg3 hkey hv hat e5 e1 hlt hlx hp2
        have HS3 := Lib.hid hs3
        have hnb : ((w3.alloc (.cells #[.int .u64 (hi p'.a), .int .u64 (lo p'.a), .int .u64 (hi p'.b), .int .u64 (lo p'.b), .int .u64 (hi p'.c), .int .u64 (lo p'.c), .int .u64 (hi p'.d), .int .u64 (lo p'.d)] 29)).alloc (.cells #[.int .u64 (hi p'.a), .int .u64 (lo p'.a), .int .u64 (hi p'.b), .int .u64 (lo p'.b), .int .u64 (hi p'.c), .int .u64 (lo p'.c), .int .u64 (hi p'.d), .int .u64 (lo p'.d), .int .i64 (f p')] 84)).heap[w3.heap.size + 1]? = some (.cells #[.int .u64 (hi p'.a), .int .u64 (lo p'.a), .int .u64 (hi p'.b), .int .u64 (lo p'.b), .int .u64 (hi p'.c), .int .u64 (lo p'.c), .int .u64 (hi p'.d), .int .u64 (lo p'.d), .int .i64 (f p')] 84) := by
          have := heap_alloc_new (w3.alloc (.cells #[.int .u64 (hi p'.a), .int .u64 (lo p'.a), .int .u64 (hi p'.b), .int .u64 (lo p'.b), .int .u64 (hi p'.c), .int .u64 (lo p'.c), .int .u64 (hi p'.d), .int .u64 (lo p'.d)] 29)) (.cells #[.int .u64 (hi p'.a), .int .u64 (lo p'.a), .int .u64 (hi p'.b), .int .u64 (lo p'.b), .int .u64 (hi p'.c), .int .u64 (lo p'.c), .int .u64 (hi p'.d), .int .u64 (lo p'.d), .int .i64 (f p')] 84)
          simpa using this
        have HNB := Lib.hid hnb
        have HSL : Hid (seen.length ≤ pts.length) := Lib.hid (nodup_len seen pts HND.out HIN.out)
        clear hs3 hnb
        unfold ptV at hen ⊢
        go_wp2_with (at_builtin; (refine wpList_append_own_at _ rfl (.tmp 24) (.tmp 28) 80 rfl w.heap.size 84 i0 _ 9 72 Try.underlying80 HI.out HZ.out HY1.out HY2.out rfl (by decide) _ seen.length _ rfl (World.ownsRow.alloc (World.ownsRow.alloc HOW3.out _) _) ⟨w3.heap.size + 1, 0, none⟩ 1 1 (encP f p') rfl rfl (World.news_of_block HNB.out) (encP_one f p') (by have := HSL.out; unfold maxLen; omega) (by have := HSL.out; omega) (by have := HBW3.out.size; simp; omega) ?_; intro v4 w4 hO4 hg4 hi4 hn4; clear hi4; obtain ⟨A4, c4, rfl⟩ := own_shapeQ hO4; have HO4 := Lib.hid hO4; have HG4 := Lib.hid hg4; have HN4 := Lib.hid hn4; clear hO4 hg4 hn4))
        have hbig : ((w3.alloc (.cells #[.int .u64 (hi p'.a), .int .u64 (lo p'.a), .int .u64 (hi p'.b), .int .u64 (lo p'.b), .int .u64 (hi p'.c), .int .u64 (lo p'.c), .int .u64 (hi p'.d), .int .u64 (lo p'.d)] 29)).alloc (.cells #[.int .u64 (hi p'.a), .int .u64 (lo p'.a), .int .u64 (hi p'.b), .int .u64 (lo p'.b), .int .u64 (hi p'.c), .int .u64 (lo p'.c), .int .u64 (hi p'.d), .int .u64 (lo p'.d), .int .i64 (f p')] 84)).heap.size = w3.heap.size + 2 := by simp
        have hr3 := ((HRG3.out.alloc (.cells #[.int .u64 (hi p'.a), .int .u64 (lo p'.a), .int .u64 (hi p'.b), .int .u64 (lo p'.b), .int .u64 (hi p'.c), .int .u64 (lo p'.c), .int .u64 (hi p'.d), .int .u64 (lo p'.d)] 29)).alloc (.cells #[.int .u64 (hi p'.a), .int .u64 (lo p'.a), .int .u64 (hi p'.b), .int .u64 (lo p'.b), .int .u64 (hi p'.c), .int .u64 (lo p'.c), .int .u64 (hi p'.d), .int .u64 (lo p'.d), .int .i64 (f p')] 84))
        have hAb : (some b : Option Nat) ≠ (Value.slice A seen.length cap).ownBlock := fun e => by
          have := (World.ownsRow.lt HOW3.out b e.symm).1; omega
        have hr4 := hr3.kept HG4.out hAb (Ne.symm HNE.out)
        have hrlt := HRG3.out.lt
        have HBIG := Lib.hid hbig
        have HR4 := Lib.hid hr4
        have HRLT := Lib.hid hrlt
        clear hbig hr3 hr4 hrlt
        go_roundw
        case rel =>
          have hln : (seen ++ [p']).length = seen.length + 1 := by simp
          refine ⟨seen ++ [p'], _, cnt3, A4, c4, by rw [hln], HR4.out, ?_, ?_, ?_, ?_, ?_, fun q => ?_⟩
          · rw [hln, rowP_snoc]; exact HO4.out
          · rw [hln]
            intro e
            rcases HN4.out with h5 | h5
            · exact HNE.out (h5.symm.trans e)
            · rw [e, HBIG.out] at h5
              injection h5 with h5
              have := HRLT.out
              omega
          · exact ((HBW3.out.alloc HBW3.out.size _).alloc (by have := HBW3.out.size; simp; omega) _).grown HG4.out (by have := HBW3.out.size; have := HBIG.out; omega) (fun j hj => (World.ownsRow.lt HOW3.out j hj).1)
          · exact List.nodup_append.2 ⟨HND.out, by simp, fun a ha b hb e => HP2.out (by simp at hb; rw [← hb, ← e]; exact ha)⟩
          · intro q hq
            rcases List.mem_append.1 hq with h5 | h5
            · exact HIN.out q h5
            · simp at h5; rw [h5]; exact HLX.out.1
          · show (left (kl q) && !(kl q).sameKey (kl p')) = _
            rw [HLF.out q]
            by_cases e : q = p'
            · subst e
              rw [WideAt.sameKey_self (lawPt.key (keyPt q)), decide_eq_true (show q ∈ seen ++ [q] by simp)]
              simp
            · rw [sameKey_ne fun e2 => e (kl_inj e2)]
              by_cases hq : q ∈ seen
              · rw [decide_eq_true hq, decide_eq_true (List.mem_append_left _ hq)]; simp
              · rw [decide_eq_false hq, decide_eq_false (show q ∉ seen ++ [p'] by simp [hq, e])]; simp
        case measure => rw [HR4.out.left_eq, HRG.out.left_eq]; exact HLT.out
end Go.Proofs.Ytjdecoiciecfpaa
