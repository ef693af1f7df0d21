/- Copies of rows of elements: clone.Each. -/
import Derived.Test.YtldgjahpmlafgaaGreatKOne
import Derived.Laws.MakeOwn
import Derived.Laws.OwnMore
import Derived.Laws.IdiomCopy
namespace Go.Proofs.YtldgjahpmlafgaaGreat
open Go.RowKit
def setsL (ys : List Value) : Nat → List Value → List Value
  | _, [] => ys
  | o, v :: r => setsL (ys.set o v) (o + 1) r
theorem setsL_len : ∀ (vs : List Value) (o : Nat) (ys : List Value), (setsL ys o vs).length = ys.length
  | [], _, _ => rfl
  | v :: r, o, ys => by rw [setsL, setsL_len r]; simp
theorem setsL_out : ∀ (vs : List Value) (o : Nat) (ys : List Value) (i : Nat), i < o ∨ o + vs.length ≤ i → (setsL ys o vs)[i]? = ys[i]?
  | [], _, _, _, _ => rfl
  | v :: r, o, ys, i, h => by
    simp only [List.length_cons] at h
    rw [setsL, setsL_out r (o + 1) _ i (by omega), List.getElem?_set_ne (by omega)]
theorem setsL_in : ∀ (vs : List Value) (o : Nat) (ys : List Value) (j : Nat) (u : Value), o + vs.length ≤ ys.length → vs[j]? = some u → (setsL ys o vs)[o + j]? = some u
  | [], _, _, _, _, _, h => by simp at h
  | v :: r, o, ys, 0, u, hl, h => by
    simp only [List.length_cons] at hl
    simp at h
    subst h
    rw [setsL, setsL_out r (o + 1) _ _ (.inl (by omega)), Nat.add_zero, List.getElem?_set_self (by omega)]
  | v :: r, o, ys, j + 1, u, hl, h => by
    simp only [List.length_cons] at hl
    simp only [List.getElem?_cons_succ] at h
    rw [setsL, show o + (j + 1) = o + 1 + j by omega]
    exact setsL_in r (o + 1) _ j u (by simp; omega) h
theorem own_setCells {base n g c : Nat} {e : TypeId} {sz : Nat} : ∀ (vs : List Value) (o : Nat) (W : World) (ys : List Value), W.ownsRow base e sz (.slice (some ⟨g, 0, none⟩) n c) n ys → (W.setCells g o vs).ownsRow base e sz (.slice (some ⟨g, 0, none⟩) n c) n (setsL ys o vs) ∧ W.grownBy (W.setCells g o vs) (some g)
  | [], _, W, ys, h => ⟨h, rfl, rfl, rfl, Nat.le_refl _, fun _ _ _ => rfl⟩
  | v :: r, o, W, ys, h => by
    obtain ⟨h1, g1⟩ := World.ownsRow.stored h o v
    obtain ⟨h2, g2⟩ := own_setCells r (o + 1) _ _ h1
    exact ⟨h2, g1.trans g2⟩
/-- a datum that is kept by whatever leaves its blocks -/
theorem ElH.stay {α : Type} {a b a2 b2 : Nat} {P : CellP α} {W W' : World} {l : List Value} {x : α} (h : ElH P a b W l x) {row : Option Nat} (hg : W.grownBy W' row) (hb : b ≤ W.heap.size) (hr : ∀ k, row = some k → k < a ∨ b ≤ k) (ha : a2 ≤ a) (hb2 : b ≤ b2) : ElH P a2 b2 W' l x := fun w3 B hs hB => h w3 B ((SameB.of_grown hg hb hr).trans (hs.narrow ha hb2)) (Nat.le_trans hb2 hB)
structure EacI {α : Type} (sz : Nat) (P : CellP α) (T : TypeId) (w W : World) (xs : List α) (n k : Nat) (cl : List (List Value)) (ys : List Value) : Prop where
  own : W.ownsRow w.heap.size T sz (.slice (some ⟨w.heap.size, 0, none⟩) n n) n ys
  cln : cl.length = k
  len : ∀ l ∈ cl, l.length = sz
  cel : ∀ (i : Nat) (l : List Value) (j : Nat) (u : Value), cl[i]? = some l → l[j]? = some u → ys[i * sz + j]? = some u
  el : ∀ (i : Nat) (l : List Value) (x : α), cl[i]? = some l → xs[i]? = some x → ElH P (w.heap.size + 1) W.heap.size W l x
  bl : Below w.heap.size w W
theorem EacI.step {α : Type} {sz : Nat} {P : CellP α} {T : TypeId} {w W u : World} {xs : List α} {n k : Nat} {cl : List (List Value)} {ys : List Value} (h : EacI sz P T w W xs n k cl ys) (hk : k < n) {x : α} (hx : xs[k]? = some x) (hb : Below W.heap.size W u) {cs : List Value} {a : Nat} (ha : W.heap.size ≤ a) (hl : cs.length = sz) (he : ElH P a u.heap.size u cs x) : EacI sz P T w (u.setCells w.heap.size (k * sz) cs) xs n (k + 1) (cl ++ [cs]) (setsL ys (k * sz) cs) := by
  have hgW := (World.ownsRow.lt h.own w.heap.size rfl).2
  have ho := World.ownsRow.kept h.own (grown_of_below hb none) (.inr (by simp [Value.ownBlock]))
  obtain ⟨ho2, hg2⟩ := own_setCells cs (k * sz) u ys ho
  have hyl : ys.length = n * sz := h.own.1
  have hks : k * sz + sz ≤ n * sz := by
    have := Nat.mul_le_mul_right sz (show k + 1 ≤ n from hk)
    rwa [Nat.add_mul, Nat.one_mul] at this
  have hs := hb.size
  have hs2 := hg2.size
  refine ⟨ho2, by rw [List.length_append, h.cln]; rfl, fun l hm => ?_, fun i l j v h1 h2 => ?_, fun i l y h1 h2 => ?_, ?_⟩
  · rcases List.mem_append.1 hm with hm | hm
    · exact h.len l hm
    · rw [List.mem_singleton.1 hm]; exact hl
  · rcases Nat.lt_or_ge i k with hi | hi
    · rw [List.getElem?_append_left (by rw [h.cln]; exact hi)] at h1
      have hj := (List.getElem?_eq_some_iff.1 h2).1
      rw [h.len l (List.mem_of_getElem? h1)] at hj
      have : i * sz + sz ≤ k * sz := by
        have := Nat.mul_le_mul_right sz (show i + 1 ≤ k from hi)
        rwa [Nat.add_mul, Nat.one_mul] at this
      rw [setsL_out _ _ _ _ (.inl (by omega))]
      exact h.cel i l j v h1 h2
    · rw [List.getElem?_append_right (by rw [h.cln]; exact hi), h.cln] at h1
      have hik : i = k := by
        have := (List.getElem?_eq_some_iff.1 h1).1
        simp at this; omega
      subst hik
      simp at h1
      subst h1
      exact setsL_in cs (i * sz) ys j v (by rw [hl, hyl]; exact hks) h2
  · rcases Nat.lt_or_ge i k with hi | hi
    · rw [List.getElem?_append_left (by rw [h.cln]; exact hi)] at h1
      exact ((h.el i l y h1 h2).stay (a2 := w.heap.size + 1) (b2 := u.heap.size) (grown_of_below hb none) (Nat.le_refl _) (fun k e => by cases e) (Nat.le_refl _) hs).stay hg2 (Nat.le_refl _) (fun k e => by injection e with e; omega) (Nat.le_refl _) hs2
    · rw [List.getElem?_append_right (by rw [h.cln]; exact hi), h.cln] at h1
      have hik : i = k := by
        have := (List.getElem?_eq_some_iff.1 h1).1
        simp at this; omega
      subst hik
      simp at h1
      subst h1
      rw [hx] at h2
      injection h2 with h2
      subst h2
      exact he.stay hg2 (Nat.le_refl _) (fun k e => by injection e with e; omega) (by omega) hs2
  · exact ⟨hg2.os.trans (hb.os.trans h.bl.os), hg2.tape.trans (hb.tape.trans h.bl.tape), hg2.output.trans (hb.output.trans h.bl.output), Nat.le_trans h.bl.size (Nat.le_trans hs hs2), fun j hj => (hg2.block j (by omega) (fun e => by injection e with e; omega)).trans ((hb.block j (by omega)).trans (h.bl.block j hj))⟩
theorem EacI.done {α : Type} {sz : Nat} {P : CellP α} {T : TypeId} {w W : World} {xs : List α} {n : Nat} {cl : List (List Value)} {ys : List Value} (h : EacI sz P T w W xs n n cl ys) (hn : n = xs.length) (hm : n ≤ maxLen) (h0 : 0 < sz) : RetClo sz P w xs (.returned (.slice (some ⟨w.heap.size, 0, none⟩) n n)) W := by
  have hcl := h.cln
  have hz : (cl.zip xs).length = n := by rw [List.length_zip, hcl, ← hn, Nat.min_self]
  have hps : ∀ q ∈ cl.zip xs, q.1.length = sz := fun q hq => h.len q.1 (List.of_mem_zip hq).1
  have hmap : (cl.zip xs).map Prod.snd = xs := by rw [List.map_snd_zip]; omega
  have hgW := (World.ownsRow.lt h.own w.heap.size rfl).2
  have hll : ∀ (ps : List (List Value × α)), (∀ q ∈ ps, q.1.length = sz) → (ps.flatMap Prod.fst).length = ps.length * sz := by
    intro ps
    induction ps with
    | nil => intro _; simp
    | cons q r ih =>
      intro hq
      simp only [List.flatMap_cons, List.length_append, List.length_cons]
      rw [ih (fun y hy => hq y (List.mem_cons_of_mem _ hy)), hq q (List.mem_cons_self ..), Nat.add_mul]
      omega
  have hr := rowH_lit (P := P) (sz := sz) (a := w.heap.size) (b := W.heap.size) (w := W) (R := w.heap.size) (n := n) (cap := n) (cl.zip xs) hps (Nat.le_refl _) hgW hz.symm (Nat.le_refl _) hm (fun j hj => by
    have hj2 := hj
    rw [hll _ hps, hz] at hj2
    rw [World.ownsRow.cellAt h.own j hj2]
    have hd : j / sz < n := (Nat.div_lt_iff_lt_mul h0).2 hj2
    have hrm := Nat.mod_lt j h0
    have ej : j / sz * sz + j % sz = j := by rw [Nat.mul_comm]; exact Nat.div_add_mod j sz
    have hq : (cl.zip xs)[j / sz]? = some ((cl.zip xs)[j / sz]'(by omega)) := List.getElem?_eq_getElem _
    have hg := flatM_get _ hps (j / sz) (j % sz) _ hq hrm
    rw [ej, List.getElem?_eq_getElem hj] at hg
    have hc : cl[j / sz]? = some ((cl.zip xs)[j / sz]'(by omega)).1 := by
      rw [List.getElem_zip]
      exact List.getElem?_eq_getElem _
    have := h.cel _ _ _ _ hc hg.symm
    rw [ej] at this
    exact this) (fun q hq => by
    obtain ⟨i, hi, rfl⟩ := List.getElem_of_mem hq
    have hi2 : i < n := by omega
    have hc : cl[i]? = some ((cl.zip xs)[i]'hi).1 := by rw [List.getElem_zip]; exact List.getElem?_eq_getElem _
    have hx : xs[i]? = some ((cl.zip xs)[i]'hi).2 := by rw [List.getElem_zip]; exact List.getElem?_eq_getElem _
    exact (h.el i _ _ hc hx).stay (grown_of_below (Below.refl W.heap.size W) none) (Nat.le_refl _) (fun k e => by cases e) (by omega) (Nat.le_refl _))
  rw [hmap] at hr
  exact ⟨_, _, _, rfl, hr, h.bl⟩
theorem infoK_header : (Tryz.prog.info? 114).map (fun i => (i.zero.map (fun z => z.cells.size), i.size, i.bytes)) = some (some 3, 3, 48) := by kernel_rfl
set_option maxRecDepth 100000 in
set_option maxHeartbeats 8000000 in
theorem ea_header {w : World} {B : Nat} {v : Value} {xs : List HeaderD} (h : RowV 3 HeaderV B w v xs) (hB : B ≤ w.heap.size) (hn : xs.length ≤ 1000000) (hs0 : ∀ x ∈ xs, x.fields.length ≤ 1000000) : Calls Tryz.prog 110 #[v, .func (.func 111) #[] #[]] w (RetClo 3 HeaderV w xs) := by
  obtain ⟨i0, z0, hi, hz, hy1, hy2, hzs⟩ := infoK_parts infoK_header
  obtain ⟨A, n, c, rfl, hnx, hnc, hcm⟩ := h.parts
  have hn2 : n ≤ 1000000 := by have := hnx.out; omega
  have hmk : ∀ u : World, (Instr.makeSlice 28 (.int .i64 (n : Int)) (.int .i64 (n : Int))).run Tryz.prog u = .ok (.slice (some ⟨u.heap.size, 0, none⟩) n n) (u.alloc (.cells (madeCells z0.cells (n * 3)) 114)) := fun u => by
    have h := run_make (P := Tryz.prog) u 28 114 i0 z0 Tryz.underlying28 hi hz .i64 .i64 (n : Int) (n : Int) (by omega) (Int.le_refl _) (by rw [hy2]; omega) (by omega)
    simpa [hy1] using h
  have I0 : Hid (EacI 3 HeaderV 114 w (w.alloc (.cells (madeCells z0.cells (n * 3)) 114)) xs n 0 [] (madeCells z0.cells (n * 3)).toList) := Lib.hid
    ⟨⟨by simp [madeCells], .inr ⟨w.heap.size, n, _, rfl, Nat.le_refl _, heap_alloc_new w _, Nat.le_refl _, by unfold maxLen; omega, by simp [madeCells], by rw [List.take_of_length_le (by simp [madeCells])]⟩⟩, rfl, fun l hl => (by cases hl), fun i l j u h1 _ => (by simp at h1), fun i l x h1 _ => (by simp at h1), (Below.refl w.heap.size w).alloc (Nat.le_refl _) _⟩
  have H := Lib.hid h
  have HNX := hnx
  obtain ⟨ZZ, hZZ⟩ : ∃ ZZ, ZZ = madeCells z0.cells (n * 3) := ⟨_, rfl⟩
  rw [← hZZ] at hmk I0
  clear hZZ
  have HS0 := Lib.hid hs0
  clear hi hz hy1 hy2 hzs h hs0 hnx
  go_enter Tryz.func110, Tryz.ntmps110
  go_wp2_with fail
  go_loopw [13] (fun i W => ∃ (k : Nat) (cl : List (List Value)) (ys : List Value), k ≤ n ∧ i = .int .i64 (k : Int) ∧ EacI 3 HeaderV 114 w W xs n k cl ys) (fun i _ => n - (intOf i).toNat)
  case atStart => exact ⟨0, [], _, Nat.zero_le _, rfl, I0.out⟩
  case round =>
    obtain ⟨k, cl, ys, hk, rfl, hI⟩ := hrel
    have HI := Lib.hid hI
    clear hI hmk I0
    by_cases hlt : k < n
    · have j1 : (k : Int) < (n : Int) := by omega
      have j2 : (k : Int) < (c : Int) := by omega
      have j3 : (0 : Int) ≤ (k : Int) := by omega
      have hx : xs[k]? = some (xs[k]'(by have := HNX.out; omega)) := List.getElem?_eq_getElem _
      obtain ⟨x, hxe⟩ : ∃ x, x = xs[k]'(by have := HNX.out; omega) := ⟨_, rfl⟩
      rw [← hxe] at hx
      clear hxe
      have HX := Lib.hid hx
      obtain ⟨_, _, _, eA, _, _, _, hrow⟩ := H.out
      injection eA with eA1 eA2 eA3
      subst eA1 eA2 eA3
      obtain ⟨b, o, hAe, hrow2⟩ := hrow.resolve_left (fun e => by rw [e] at hx; simp at hx)
      subst hAe
      obtain ⟨hbB, cs, hcs, hP⟩ := hrow2 k x hx
      have hPw := hP
      obtain ⟨v0, rfl, h1, h2, r0⟩ := hP
      obtain ⟨oA0, on0, oc0, rfl, _⟩ := r0.parts
      have l0 : wr.cell? ⟨b, o + k * 3, none⟩ = some (.int .i64 x.id) := (World.cell?_of_block (HI.out.bl.block b (by omega))).trans (hcs 0 (by simp))
      have l1 : wr.cell? ⟨b, o + k * 3 + 1, none⟩ = some (.string (strL x.name)) := (World.cell?_of_block (HI.out.bl.block b (by omega))).trans (hcs 1 (by simp))
      have l2 : wr.cell? ⟨b, o + k * 3 + 2, none⟩ = some (.slice oA0 on0 oc0) := (World.cell?_of_block (HI.out.bl.block b (by omega))).trans (hcs 2 (by simp))
      have HPW := Lib.hid hPw
      obtain ⟨V, hV⟩ : ∃ zz, zz = wr.alloc (.cells #[.int .i64 x.id, .string (strL x.name), .slice oA0 on0 oc0] 114) := ⟨_, rfl⟩
      have hbV : Below wr.heap.size wr V := by rw [hV]; exact (Below.refl _ _).alloc (Nat.le_refl _) _
      have hVb : V.heap[wr.heap.size]? = some (.cells #[.int .i64 x.id, .string (strL x.name), .slice oA0 on0 oc0] 114 (0, 0)) := by rw [hV]; exact heap_alloc_new _ _
      have HV := Lib.hid hV
      have KE : Hid (Calls Tryz.prog 111 #[.agg #[.int .i64 x.id, .string (strL x.name), .slice oA0 on0 oc0]] V (RetEl 3 HeaderV V x)) := Lib.hid (ke_header (kept_header _ _ _ _ _ ((HI.out.bl.trans (hbV.mono HI.out.bl.size)).mono hB) HPW.out) (Nat.le_trans hB (Nat.le_trans HI.out.bl.size hbV.size)) (HS0.out x (List.mem_of_getElem? HX.out)))
      have m0 : V.cell? ⟨wr.heap.size, 0, none⟩ = some (.int .i64 x.id) := blk_cell hVb 0 _ rfl
      have m1 : V.cell? ⟨wr.heap.size, 1, none⟩ = some (.string (strL x.name)) := blk_cell hVb 1 _ rfl
      have m2 : V.cell? ⟨wr.heap.size, 2, none⟩ = some (.slice oA0 on0 oc0) := blk_cell hVb 2 _ rfl
      have HBV := Lib.hid hbV
      clear hPw hcs hrow hrow2 hV hx h1 h2 r0
      go_upto_region 5 with fail
      rw [← HV.out]
      clear l0 l1 l2
      go_upto_region 6 with (go_at_call 111; go_loud ((with_reducible refine KE.out.mono ?_); rintro en u ⟨cs', rfl, hcl, hel, hbu⟩; have hq := hel u u.heap.size (.refl (Nat.le_refl _)) (Nat.le_refl _); obtain ⟨v0, rfl, h1, h2, r0⟩ := hq; obtain ⟨nA0, nn0, nc0, rfl, _⟩ := r0.parts; have HEL := Lib.hid hel; have HBU := Lib.hid hbu; have hou := World.ownsRow.kept (World.ownsRow.kept HI.out.own (grown_of_below HBV.out none) (.inr (by simp [Value.ownBlock]))) (grown_of_below hbu none) (.inr (by simp [Value.ownBlock])); obtain ⟨y0, p0⟩ : ∃ yy, u.cell? ⟨w.heap.size, k * 3, none⟩ = some yy := ⟨_, (World.ownsRow.cellAt hou (k * 3) (by omega)).trans (List.getElem?_eq_getElem (by rw [hou.1]; omega))⟩; have pf0 := World.ownsRow.frozenAt hou (k * 3); obtain ⟨y1, p1⟩ : ∃ yy, u.cell? ⟨w.heap.size, k * 3 + 1, none⟩ = some yy := ⟨_, (World.ownsRow.cellAt hou (k * 3 + 1) (by omega)).trans (List.getElem?_eq_getElem (by rw [hou.1]; omega))⟩; have pf1 := World.ownsRow.frozenAt hou (k * 3 + 1); obtain ⟨y2, p2⟩ : ∃ yy, u.cell? ⟨w.heap.size, k * 3 + 2, none⟩ = some yy := ⟨_, (World.ownsRow.cellAt hou (k * 3 + 2) (by omega)).trans (List.getElem?_eq_getElem (by rw [hou.1]; omega))⟩; have pf2 := World.ownsRow.frozenAt hou (k * 3 + 2); clear hel hbu hou h1 h2 r0))
      have hst := HI.out.step hlt HX.out (HBV.out.trans (HBU.out.mono HBV.out.size)) (a := V.heap.size) HBV.out.size hcl HEL.out
      go_wp2_with fail
      go_roundw
      case rel => exact ⟨k + 1, _, _, by omega, by simp, hst⟩
      case measure => (first | (simp; omega) | (simp [intOf]; omega) | omega)
    · obtain rfl : k = n := by omega
      have j1 : ¬ (k : Int) < (k : Int) := by omega
      go_wp2_with fail
      go_ret
      exact HI.out.done HNX.out (by unfold maxLen; omega) (by decide)
theorem infoK_state : (Tryz.prog.info? 172).map (fun i => (i.zero.map (fun z => z.cells.size), i.size, i.bytes)) = some (some 5, 5, 56) := by kernel_rfl
set_option maxRecDepth 100000 in
set_option maxHeartbeats 8000000 in
theorem ea_state {w : World} {B : Nat} {v : Value} {xs : List StateD} (h : RowV 5 StateV B w v xs) (hB : B ≤ w.heap.size) (hn : xs.length ≤ 1000000) (hs0 : ∀ x ∈ xs, x.cases.length ≤ 1000000) : Calls Tryz.prog 112 #[v, .func (.func 113) #[] #[]] w (RetClo 5 StateV w xs) := by
  obtain ⟨i0, z0, hi, hz, hy1, hy2, hzs⟩ := infoK_parts infoK_state
  obtain ⟨A, n, c, rfl, hnx, hnc, hcm⟩ := h.parts
  have hn2 : n ≤ 1000000 := by have := hnx.out; omega
  have hmk : ∀ u : World, (Instr.makeSlice 29 (.int .i64 (n : Int)) (.int .i64 (n : Int))).run Tryz.prog u = .ok (.slice (some ⟨u.heap.size, 0, none⟩) n n) (u.alloc (.cells (madeCells z0.cells (n * 5)) 172)) := fun u => by
    have h := run_make (P := Tryz.prog) u 29 172 i0 z0 Tryz.underlying29 hi hz .i64 .i64 (n : Int) (n : Int) (by omega) (Int.le_refl _) (by rw [hy2]; omega) (by omega)
    simpa [hy1] using h
  have I0 : Hid (EacI 5 StateV 172 w (w.alloc (.cells (madeCells z0.cells (n * 5)) 172)) xs n 0 [] (madeCells z0.cells (n * 5)).toList) := Lib.hid
    ⟨⟨by simp [madeCells], .inr ⟨w.heap.size, n, _, rfl, Nat.le_refl _, heap_alloc_new w _, Nat.le_refl _, by unfold maxLen; omega, by simp [madeCells], by rw [List.take_of_length_le (by simp [madeCells])]⟩⟩, rfl, fun l hl => (by cases hl), fun i l j u h1 _ => (by simp at h1), fun i l x h1 _ => (by simp at h1), (Below.refl w.heap.size w).alloc (Nat.le_refl _) _⟩
  have H := Lib.hid h
  have HNX := hnx
  obtain ⟨ZZ, hZZ⟩ : ∃ ZZ, ZZ = madeCells z0.cells (n * 5) := ⟨_, rfl⟩
  rw [← hZZ] at hmk I0
  clear hZZ
  have HS0 := Lib.hid hs0
  clear hi hz hy1 hy2 hzs h hs0 hnx
  go_enter Tryz.func112, Tryz.ntmps112
  go_wp2_with fail
  go_loopw [13] (fun i W => ∃ (k : Nat) (cl : List (List Value)) (ys : List Value), k ≤ n ∧ i = .int .i64 (k : Int) ∧ EacI 5 StateV 172 w W xs n k cl ys) (fun i _ => n - (intOf i).toNat)
  case atStart => exact ⟨0, [], _, Nat.zero_le _, rfl, I0.out⟩
  case round =>
    obtain ⟨k, cl, ys, hk, rfl, hI⟩ := hrel
    have HI := Lib.hid hI
    clear hI hmk I0
    by_cases hlt : k < n
    · have j1 : (k : Int) < (n : Int) := by omega
      have j2 : (k : Int) < (c : Int) := by omega
      have j3 : (0 : Int) ≤ (k : Int) := by omega
      have hx : xs[k]? = some (xs[k]'(by have := HNX.out; omega)) := List.getElem?_eq_getElem _
      obtain ⟨x, hxe⟩ : ∃ x, x = xs[k]'(by have := HNX.out; omega) := ⟨_, rfl⟩
      rw [← hxe] at hx
      clear hxe
      have HX := Lib.hid hx
      obtain ⟨_, _, _, eA, _, _, _, hrow⟩ := H.out
      injection eA with eA1 eA2 eA3
      subst eA1 eA2 eA3
      obtain ⟨b, o, hAe, hrow2⟩ := hrow.resolve_left (fun e => by rw [e] at hx; simp at hx)
      subst hAe
      obtain ⟨hbB, cs, hcs, hP⟩ := hrow2 k x hx
      have hPw := hP
      obtain ⟨v0, rfl, h1, h2, h3, r0, h4⟩ := hP
      obtain ⟨oA0, on0, oc0, rfl, _⟩ := r0.parts
      have l0 : wr.cell? ⟨b, o + k * 5, none⟩ = some (.int .i64 x.id) := (World.cell?_of_block (HI.out.bl.block b (by omega))).trans (hcs 0 (by simp))
      have l1 : wr.cell? ⟨b, o + k * 5 + 1, none⟩ = some (.int .i64 x.header) := (World.cell?_of_block (HI.out.bl.block b (by omega))).trans (hcs 1 (by simp))
      have l2 : wr.cell? ⟨b, o + k * 5 + 2, none⟩ = some (.int .i64 x.select) := (World.cell?_of_block (HI.out.bl.block b (by omega))).trans (hcs 2 (by simp))
      have l3 : wr.cell? ⟨b, o + k * 5 + 3, none⟩ = some (.slice oA0 on0 oc0) := (World.cell?_of_block (HI.out.bl.block b (by omega))).trans (hcs 3 (by simp))
      have l4 : wr.cell? ⟨b, o + k * 5 + 4, none⟩ = some (.int .i64 x.dflt) := (World.cell?_of_block (HI.out.bl.block b (by omega))).trans (hcs 4 (by simp))
      have HPW := Lib.hid hPw
      obtain ⟨V, hV⟩ : ∃ zz, zz = wr.alloc (.cells #[.int .i64 x.id, .int .i64 x.header, .int .i64 x.select, .slice oA0 on0 oc0, .int .i64 x.dflt] 172) := ⟨_, rfl⟩
      have hbV : Below wr.heap.size wr V := by rw [hV]; exact (Below.refl _ _).alloc (Nat.le_refl _) _
      have hVb : V.heap[wr.heap.size]? = some (.cells #[.int .i64 x.id, .int .i64 x.header, .int .i64 x.select, .slice oA0 on0 oc0, .int .i64 x.dflt] 172 (0, 0)) := by rw [hV]; exact heap_alloc_new _ _
      have HV := Lib.hid hV
      have KE : Hid (Calls Tryz.prog 113 #[.agg #[.int .i64 x.id, .int .i64 x.header, .int .i64 x.select, .slice oA0 on0 oc0, .int .i64 x.dflt]] V (RetEl 5 StateV V x)) := Lib.hid (ke_state (kept_state _ _ _ _ _ ((HI.out.bl.trans (hbV.mono HI.out.bl.size)).mono hB) HPW.out) (Nat.le_trans hB (Nat.le_trans HI.out.bl.size hbV.size)) (HS0.out x (List.mem_of_getElem? HX.out)))
      have m0 : V.cell? ⟨wr.heap.size, 0, none⟩ = some (.int .i64 x.id) := blk_cell hVb 0 _ rfl
      have m1 : V.cell? ⟨wr.heap.size, 1, none⟩ = some (.int .i64 x.header) := blk_cell hVb 1 _ rfl
      have m2 : V.cell? ⟨wr.heap.size, 2, none⟩ = some (.int .i64 x.select) := blk_cell hVb 2 _ rfl
      have m3 : V.cell? ⟨wr.heap.size, 3, none⟩ = some (.slice oA0 on0 oc0) := blk_cell hVb 3 _ rfl
      have m4 : V.cell? ⟨wr.heap.size, 4, none⟩ = some (.int .i64 x.dflt) := blk_cell hVb 4 _ rfl
      have HBV := Lib.hid hbV
      clear hPw hcs hrow hrow2 hV hx h1 h2 h3 r0 h4
      go_upto_region 5 with fail
      rw [← HV.out]
      clear l0 l1 l2 l3 l4
      go_upto_region 6 with (go_at_call 113; go_loud ((with_reducible refine KE.out.mono ?_); rintro en u ⟨cs', rfl, hcl, hel, hbu⟩; have hq := hel u u.heap.size (.refl (Nat.le_refl _)) (Nat.le_refl _); obtain ⟨v0, rfl, h1, h2, h3, r0, h4⟩ := hq; obtain ⟨nA0, nn0, nc0, rfl, _⟩ := r0.parts; have HEL := Lib.hid hel; have HBU := Lib.hid hbu; have hou := World.ownsRow.kept (World.ownsRow.kept HI.out.own (grown_of_below HBV.out none) (.inr (by simp [Value.ownBlock]))) (grown_of_below hbu none) (.inr (by simp [Value.ownBlock])); obtain ⟨y0, p0⟩ : ∃ yy, u.cell? ⟨w.heap.size, k * 5, none⟩ = some yy := ⟨_, (World.ownsRow.cellAt hou (k * 5) (by omega)).trans (List.getElem?_eq_getElem (by rw [hou.1]; omega))⟩; have pf0 := World.ownsRow.frozenAt hou (k * 5); obtain ⟨y1, p1⟩ : ∃ yy, u.cell? ⟨w.heap.size, k * 5 + 1, none⟩ = some yy := ⟨_, (World.ownsRow.cellAt hou (k * 5 + 1) (by omega)).trans (List.getElem?_eq_getElem (by rw [hou.1]; omega))⟩; have pf1 := World.ownsRow.frozenAt hou (k * 5 + 1); obtain ⟨y2, p2⟩ : ∃ yy, u.cell? ⟨w.heap.size, k * 5 + 2, none⟩ = some yy := ⟨_, (World.ownsRow.cellAt hou (k * 5 + 2) (by omega)).trans (List.getElem?_eq_getElem (by rw [hou.1]; omega))⟩; have pf2 := World.ownsRow.frozenAt hou (k * 5 + 2); obtain ⟨y3, p3⟩ : ∃ yy, u.cell? ⟨w.heap.size, k * 5 + 3, none⟩ = some yy := ⟨_, (World.ownsRow.cellAt hou (k * 5 + 3) (by omega)).trans (List.getElem?_eq_getElem (by rw [hou.1]; omega))⟩; have pf3 := World.ownsRow.frozenAt hou (k * 5 + 3); obtain ⟨y4, p4⟩ : ∃ yy, u.cell? ⟨w.heap.size, k * 5 + 4, none⟩ = some yy := ⟨_, (World.ownsRow.cellAt hou (k * 5 + 4) (by omega)).trans (List.getElem?_eq_getElem (by rw [hou.1]; omega))⟩; have pf4 := World.ownsRow.frozenAt hou (k * 5 + 4); clear hel hbu hou h1 h2 h3 r0 h4))
      have hst := HI.out.step hlt HX.out (HBV.out.trans (HBU.out.mono HBV.out.size)) (a := V.heap.size) HBV.out.size hcl HEL.out
      go_wp2_with fail
      go_roundw
      case rel => exact ⟨k + 1, _, _, by omega, by simp, hst⟩
      case measure => (first | (simp; omega) | (simp [intOf]; omega) | omega)
    · obtain rfl : k = n := by omega
      have j1 : ¬ (k : Int) < (k : Int) := by omega
      go_wp2_with fail
      go_ret
      exact HI.out.done HNX.out (by unfold maxLen; omega) (by decide)
theorem infoK_action : (Tryz.prog.info? 142).map (fun i => (i.zero.map (fun z => z.cells.size), i.size, i.bytes)) = some (some 5, 5, 88) := by kernel_rfl
set_option maxRecDepth 100000 in
set_option maxHeartbeats 8000000 in
theorem ea_action {w : World} {B : Nat} {v : Value} {xs : List ActionD} (h : RowV 5 ActionV B w v xs) (hB : B ≤ w.heap.size) (hn : xs.length ≤ 1000000) (hs0 : ∀ x ∈ xs, x.params.length ≤ 1000000) (hs1 : ∀ x ∈ xs, x.body.length ≤ 1000000) : Calls Tryz.prog 114 #[v, .func (.func 115) #[] #[]] w (RetClo 5 ActionV w xs) := by
  obtain ⟨i0, z0, hi, hz, hy1, hy2, hzs⟩ := infoK_parts infoK_action
  obtain ⟨A, n, c, rfl, hnx, hnc, hcm⟩ := h.parts
  have hn2 : n ≤ 1000000 := by have := hnx.out; omega
  have hmk : ∀ u : World, (Instr.makeSlice 30 (.int .i64 (n : Int)) (.int .i64 (n : Int))).run Tryz.prog u = .ok (.slice (some ⟨u.heap.size, 0, none⟩) n n) (u.alloc (.cells (madeCells z0.cells (n * 5)) 142)) := fun u => by
    have h := run_make (P := Tryz.prog) u 30 142 i0 z0 Tryz.underlying30 hi hz .i64 .i64 (n : Int) (n : Int) (by omega) (Int.le_refl _) (by rw [hy2]; omega) (by omega)
    simpa [hy1] using h
  have I0 : Hid (EacI 5 ActionV 142 w (w.alloc (.cells (madeCells z0.cells (n * 5)) 142)) xs n 0 [] (madeCells z0.cells (n * 5)).toList) := Lib.hid
    ⟨⟨by simp [madeCells], .inr ⟨w.heap.size, n, _, rfl, Nat.le_refl _, heap_alloc_new w _, Nat.le_refl _, by unfold maxLen; omega, by simp [madeCells], by rw [List.take_of_length_le (by simp [madeCells])]⟩⟩, rfl, fun l hl => (by cases hl), fun i l j u h1 _ => (by simp at h1), fun i l x h1 _ => (by simp at h1), (Below.refl w.heap.size w).alloc (Nat.le_refl _) _⟩
  have H := Lib.hid h
  have HNX := hnx
  obtain ⟨ZZ, hZZ⟩ : ∃ ZZ, ZZ = madeCells z0.cells (n * 5) := ⟨_, rfl⟩
  rw [← hZZ] at hmk I0
  clear hZZ
  have HS0 := Lib.hid hs0
  have HS1 := Lib.hid hs1
  clear hi hz hy1 hy2 hzs h hs0 hs1 hnx
  go_enter Tryz.func114, Tryz.ntmps114
  go_wp2_with fail
  go_loopw [13] (fun i W => ∃ (k : Nat) (cl : List (List Value)) (ys : List Value), k ≤ n ∧ i = .int .i64 (k : Int) ∧ EacI 5 ActionV 142 w W xs n k cl ys) (fun i _ => n - (intOf i).toNat)
  case atStart => exact ⟨0, [], _, Nat.zero_le _, rfl, I0.out⟩
  case round =>
    obtain ⟨k, cl, ys, hk, rfl, hI⟩ := hrel
    have HI := Lib.hid hI
    clear hI hmk I0
    by_cases hlt : k < n
    · have j1 : (k : Int) < (n : Int) := by omega
      have j2 : (k : Int) < (c : Int) := by omega
      have j3 : (0 : Int) ≤ (k : Int) := by omega
      have hx : xs[k]? = some (xs[k]'(by have := HNX.out; omega)) := List.getElem?_eq_getElem _
      obtain ⟨x, hxe⟩ : ∃ x, x = xs[k]'(by have := HNX.out; omega) := ⟨_, rfl⟩
      rw [← hxe] at hx
      clear hxe
      have HX := Lib.hid hx
      obtain ⟨_, _, _, eA, _, _, _, hrow⟩ := H.out
      injection eA with eA1 eA2 eA3
      subst eA1 eA2 eA3
      obtain ⟨b, o, hAe, hrow2⟩ := hrow.resolve_left (fun e => by rw [e] at hx; simp at hx)
      subst hAe
      obtain ⟨hbB, cs, hcs, hP⟩ := hrow2 k x hx
      have hPw := hP
      obtain ⟨v0, v1, rfl, h1, h2, r0, r1, h3⟩ := hP
      obtain ⟨oA0, on0, oc0, rfl, _⟩ := r0.parts
      obtain ⟨oA1, on1, oc1, rfl, _⟩ := r1.parts
      have l0 : wr.cell? ⟨b, o + k * 5, none⟩ = some (.int .i64 x.id) := (World.cell?_of_block (HI.out.bl.block b (by omega))).trans (hcs 0 (by simp))
      have l1 : wr.cell? ⟨b, o + k * 5 + 1, none⟩ = some (.string (strL x.name)) := (World.cell?_of_block (HI.out.bl.block b (by omega))).trans (hcs 1 (by simp))
      have l2 : wr.cell? ⟨b, o + k * 5 + 2, none⟩ = some (.slice oA0 on0 oc0) := (World.cell?_of_block (HI.out.bl.block b (by omega))).trans (hcs 2 (by simp))
      have l3 : wr.cell? ⟨b, o + k * 5 + 3, none⟩ = some (.slice oA1 on1 oc1) := (World.cell?_of_block (HI.out.bl.block b (by omega))).trans (hcs 3 (by simp))
      have l4 : wr.cell? ⟨b, o + k * 5 + 4, none⟩ = some (.string (strL x.restr)) := (World.cell?_of_block (HI.out.bl.block b (by omega))).trans (hcs 4 (by simp))
      have HPW := Lib.hid hPw
      obtain ⟨V, hV⟩ : ∃ zz, zz = wr.alloc (.cells #[.int .i64 x.id, .string (strL x.name), .slice oA0 on0 oc0, .slice oA1 on1 oc1, .string (strL x.restr)] 142) := ⟨_, rfl⟩
      have hbV : Below wr.heap.size wr V := by rw [hV]; exact (Below.refl _ _).alloc (Nat.le_refl _) _
      have hVb : V.heap[wr.heap.size]? = some (.cells #[.int .i64 x.id, .string (strL x.name), .slice oA0 on0 oc0, .slice oA1 on1 oc1, .string (strL x.restr)] 142 (0, 0)) := by rw [hV]; exact heap_alloc_new _ _
      have HV := Lib.hid hV
      have KE : Hid (Calls Tryz.prog 115 #[.agg #[.int .i64 x.id, .string (strL x.name), .slice oA0 on0 oc0, .slice oA1 on1 oc1, .string (strL x.restr)]] V (RetEl 5 ActionV V x)) := Lib.hid (ke_action (kept_action _ _ _ _ _ ((HI.out.bl.trans (hbV.mono HI.out.bl.size)).mono hB) HPW.out) (Nat.le_trans hB (Nat.le_trans HI.out.bl.size hbV.size)) (HS0.out x (List.mem_of_getElem? HX.out)) (HS1.out x (List.mem_of_getElem? HX.out)))
      have m0 : V.cell? ⟨wr.heap.size, 0, none⟩ = some (.int .i64 x.id) := blk_cell hVb 0 _ rfl
      have m1 : V.cell? ⟨wr.heap.size, 1, none⟩ = some (.string (strL x.name)) := blk_cell hVb 1 _ rfl
      have m2 : V.cell? ⟨wr.heap.size, 2, none⟩ = some (.slice oA0 on0 oc0) := blk_cell hVb 2 _ rfl
      have m3 : V.cell? ⟨wr.heap.size, 3, none⟩ = some (.slice oA1 on1 oc1) := blk_cell hVb 3 _ rfl
      have m4 : V.cell? ⟨wr.heap.size, 4, none⟩ = some (.string (strL x.restr)) := blk_cell hVb 4 _ rfl
      have HBV := Lib.hid hbV
      clear hPw hcs hrow hrow2 hV hx h1 h2 r0 r1 h3
      go_upto_region 5 with fail
      rw [← HV.out]
      clear l0 l1 l2 l3 l4
      go_upto_region 6 with (go_at_call 115; go_loud ((with_reducible refine KE.out.mono ?_); rintro en u ⟨cs', rfl, hcl, hel, hbu⟩; have hq := hel u u.heap.size (.refl (Nat.le_refl _)) (Nat.le_refl _); obtain ⟨v0, v1, rfl, h1, h2, r0, r1, h3⟩ := hq; obtain ⟨nA0, nn0, nc0, rfl, _⟩ := r0.parts; obtain ⟨nA1, nn1, nc1, rfl, _⟩ := r1.parts; have HEL := Lib.hid hel; have HBU := Lib.hid hbu; have hou := World.ownsRow.kept (World.ownsRow.kept HI.out.own (grown_of_below HBV.out none) (.inr (by simp [Value.ownBlock]))) (grown_of_below hbu none) (.inr (by simp [Value.ownBlock])); obtain ⟨y0, p0⟩ : ∃ yy, u.cell? ⟨w.heap.size, k * 5, none⟩ = some yy := ⟨_, (World.ownsRow.cellAt hou (k * 5) (by omega)).trans (List.getElem?_eq_getElem (by rw [hou.1]; omega))⟩; have pf0 := World.ownsRow.frozenAt hou (k * 5); obtain ⟨y1, p1⟩ : ∃ yy, u.cell? ⟨w.heap.size, k * 5 + 1, none⟩ = some yy := ⟨_, (World.ownsRow.cellAt hou (k * 5 + 1) (by omega)).trans (List.getElem?_eq_getElem (by rw [hou.1]; omega))⟩; have pf1 := World.ownsRow.frozenAt hou (k * 5 + 1); obtain ⟨y2, p2⟩ : ∃ yy, u.cell? ⟨w.heap.size, k * 5 + 2, none⟩ = some yy := ⟨_, (World.ownsRow.cellAt hou (k * 5 + 2) (by omega)).trans (List.getElem?_eq_getElem (by rw [hou.1]; omega))⟩; have pf2 := World.ownsRow.frozenAt hou (k * 5 + 2); obtain ⟨y3, p3⟩ : ∃ yy, u.cell? ⟨w.heap.size, k * 5 + 3, none⟩ = some yy := ⟨_, (World.ownsRow.cellAt hou (k * 5 + 3) (by omega)).trans (List.getElem?_eq_getElem (by rw [hou.1]; omega))⟩; have pf3 := World.ownsRow.frozenAt hou (k * 5 + 3); obtain ⟨y4, p4⟩ : ∃ yy, u.cell? ⟨w.heap.size, k * 5 + 4, none⟩ = some yy := ⟨_, (World.ownsRow.cellAt hou (k * 5 + 4) (by omega)).trans (List.getElem?_eq_getElem (by rw [hou.1]; omega))⟩; have pf4 := World.ownsRow.frozenAt hou (k * 5 + 4); clear hel hbu hou h1 h2 r0 r1 h3))
      have hst := HI.out.step hlt HX.out (HBV.out.trans (HBU.out.mono HBV.out.size)) (a := V.heap.size) HBV.out.size hcl HEL.out
      go_wp2_with fail
      go_roundw
      case rel => exact ⟨k + 1, _, _, by omega, by simp, hst⟩
      case measure => (first | (simp; omega) | (simp [intOf]; omega) | omega)
    · obtain rfl : k = n := by omega
      have j1 : ¬ (k : Int) < (k : Int) := by omega
      go_wp2_with fail
      go_ret
      exact HI.out.done HNX.out (by unfold maxLen; omega) (by decide)
theorem infoK_table : (Tryz.prog.info? 59).map (fun i => (i.zero.map (fun z => z.cells.size), i.size, i.bytes)) = some (some 8, 8, 128) := by kernel_rfl
set_option maxRecDepth 100000 in
set_option maxHeartbeats 8000000 in
theorem ea_table {w : World} {B : Nat} {v : Value} {xs : List TableD} (h : RowV 8 TableV B w v xs) (hB : B ≤ w.heap.size) (hn : xs.length ≤ 1000000) (hs0 : ∀ x ∈ xs, x.keys.length ≤ 1000000) (hs1 : ∀ x ∈ xs, x.actions.length ≤ 1000000) (hs2 : ∀ x ∈ xs, x.args.length ≤ 1000000) : Calls Tryz.prog 116 #[v, .func (.func 117) #[] #[]] w (RetClo 8 TableV w xs) := by
  obtain ⟨i0, z0, hi, hz, hy1, hy2, hzs⟩ := infoK_parts infoK_table
  obtain ⟨A, n, c, rfl, hnx, hnc, hcm⟩ := h.parts
  have hn2 : n ≤ 1000000 := by have := hnx.out; omega
  have hmk : ∀ u : World, (Instr.makeSlice 31 (.int .i64 (n : Int)) (.int .i64 (n : Int))).run Tryz.prog u = .ok (.slice (some ⟨u.heap.size, 0, none⟩) n n) (u.alloc (.cells (madeCells z0.cells (n * 8)) 59)) := fun u => by
    have h := run_make (P := Tryz.prog) u 31 59 i0 z0 Tryz.underlying31 hi hz .i64 .i64 (n : Int) (n : Int) (by omega) (Int.le_refl _) (by rw [hy2]; omega) (by omega)
    simpa [hy1] using h
  have I0 : Hid (EacI 8 TableV 59 w (w.alloc (.cells (madeCells z0.cells (n * 8)) 59)) xs n 0 [] (madeCells z0.cells (n * 8)).toList) := Lib.hid
    ⟨⟨by simp [madeCells], .inr ⟨w.heap.size, n, _, rfl, Nat.le_refl _, heap_alloc_new w _, Nat.le_refl _, by unfold maxLen; omega, by simp [madeCells], by rw [List.take_of_length_le (by simp [madeCells])]⟩⟩, rfl, fun l hl => (by cases hl), fun i l j u h1 _ => (by simp at h1), fun i l x h1 _ => (by simp at h1), (Below.refl w.heap.size w).alloc (Nat.le_refl _) _⟩
  have H := Lib.hid h
  have HNX := hnx
  obtain ⟨ZZ, hZZ⟩ : ∃ ZZ, ZZ = madeCells z0.cells (n * 8) := ⟨_, rfl⟩
  rw [← hZZ] at hmk I0
  clear hZZ
  have HS0 := Lib.hid hs0
  have HS1 := Lib.hid hs1
  have HS2 := Lib.hid hs2
  clear hi hz hy1 hy2 hzs h hs0 hs1 hs2 hnx
  go_enter Tryz.func116, Tryz.ntmps116
  go_wp2_with fail
  go_loopw [13] (fun i W => ∃ (k : Nat) (cl : List (List Value)) (ys : List Value), k ≤ n ∧ i = .int .i64 (k : Int) ∧ EacI 8 TableV 59 w W xs n k cl ys) (fun i _ => n - (intOf i).toNat)
  case atStart => exact ⟨0, [], _, Nat.zero_le _, rfl, I0.out⟩
  case round =>
    obtain ⟨k, cl, ys, hk, rfl, hI⟩ := hrel
    have HI := Lib.hid hI
    clear hI hmk I0
    by_cases hlt : k < n
    · have j1 : (k : Int) < (n : Int) := by omega
      have j2 : (k : Int) < (c : Int) := by omega
      have j3 : (0 : Int) ≤ (k : Int) := by omega
      have hx : xs[k]? = some (xs[k]'(by have := HNX.out; omega)) := List.getElem?_eq_getElem _
      obtain ⟨x, hxe⟩ : ∃ x, x = xs[k]'(by have := HNX.out; omega) := ⟨_, rfl⟩
      rw [← hxe] at hx
      clear hxe
      have HX := Lib.hid hx
      obtain ⟨_, _, _, eA, _, _, _, hrow⟩ := H.out
      injection eA with eA1 eA2 eA3
      subst eA1 eA2 eA3
      obtain ⟨b, o, hAe, hrow2⟩ := hrow.resolve_left (fun e => by rw [e] at hx; simp at hx)
      subst hAe
      obtain ⟨hbB, cs, hcs, hP⟩ := hrow2 k x hx
      have hPw := hP
      obtain ⟨v0, v1, v2, rfl, h1, h2, r0, r1, h3, r2, h4, h5⟩ := hP
      obtain ⟨oA0, on0, oc0, rfl, _⟩ := r0.parts
      obtain ⟨oA1, on1, oc1, rfl, _⟩ := r1.parts
      obtain ⟨oA2, on2, oc2, rfl, _⟩ := r2.parts
      have l0 : wr.cell? ⟨b, o + k * 8, none⟩ = some (.int .i64 x.id) := (World.cell?_of_block (HI.out.bl.block b (by omega))).trans (hcs 0 (by simp))
      have l1 : wr.cell? ⟨b, o + k * 8 + 1, none⟩ = some (.string (strL x.name)) := (World.cell?_of_block (HI.out.bl.block b (by omega))).trans (hcs 1 (by simp))
      have l2 : wr.cell? ⟨b, o + k * 8 + 2, none⟩ = some (.slice oA0 on0 oc0) := (World.cell?_of_block (HI.out.bl.block b (by omega))).trans (hcs 2 (by simp))
      have l3 : wr.cell? ⟨b, o + k * 8 + 3, none⟩ = some (.slice oA1 on1 oc1) := (World.cell?_of_block (HI.out.bl.block b (by omega))).trans (hcs 3 (by simp))
      have l4 : wr.cell? ⟨b, o + k * 8 + 4, none⟩ = some (.int .i64 x.dflt) := (World.cell?_of_block (HI.out.bl.block b (by omega))).trans (hcs 4 (by simp))
      have l5 : wr.cell? ⟨b, o + k * 8 + 5, none⟩ = some (.slice oA2 on2 oc2) := (World.cell?_of_block (HI.out.bl.block b (by omega))).trans (hcs 5 (by simp))
      have l6 : wr.cell? ⟨b, o + k * 8 + 6, none⟩ = some (.int .i64 x.size) := (World.cell?_of_block (HI.out.bl.block b (by omega))).trans (hcs 6 (by simp))
      have l7 : wr.cell? ⟨b, o + k * 8 + 7, none⟩ = some (.string (strL x.restr)) := (World.cell?_of_block (HI.out.bl.block b (by omega))).trans (hcs 7 (by simp))
      have HPW := Lib.hid hPw
      obtain ⟨V, hV⟩ : ∃ zz, zz = wr.alloc (.cells #[.int .i64 x.id, .string (strL x.name), .slice oA0 on0 oc0, .slice oA1 on1 oc1, .int .i64 x.dflt, .slice oA2 on2 oc2, .int .i64 x.size, .string (strL x.restr)] 59) := ⟨_, rfl⟩
      have hbV : Below wr.heap.size wr V := by rw [hV]; exact (Below.refl _ _).alloc (Nat.le_refl _) _
      have hVb : V.heap[wr.heap.size]? = some (.cells #[.int .i64 x.id, .string (strL x.name), .slice oA0 on0 oc0, .slice oA1 on1 oc1, .int .i64 x.dflt, .slice oA2 on2 oc2, .int .i64 x.size, .string (strL x.restr)] 59 (0, 0)) := by rw [hV]; exact heap_alloc_new _ _
      have HV := Lib.hid hV
      have KE : Hid (Calls Tryz.prog 117 #[.agg #[.int .i64 x.id, .string (strL x.name), .slice oA0 on0 oc0, .slice oA1 on1 oc1, .int .i64 x.dflt, .slice oA2 on2 oc2, .int .i64 x.size, .string (strL x.restr)]] V (RetEl 8 TableV V x)) := Lib.hid (ke_table (kept_table _ _ _ _ _ ((HI.out.bl.trans (hbV.mono HI.out.bl.size)).mono hB) HPW.out) (Nat.le_trans hB (Nat.le_trans HI.out.bl.size hbV.size)) (HS0.out x (List.mem_of_getElem? HX.out)) (HS1.out x (List.mem_of_getElem? HX.out)) (HS2.out x (List.mem_of_getElem? HX.out)))
      have m0 : V.cell? ⟨wr.heap.size, 0, none⟩ = some (.int .i64 x.id) := blk_cell hVb 0 _ rfl
      have m1 : V.cell? ⟨wr.heap.size, 1, none⟩ = some (.string (strL x.name)) := blk_cell hVb 1 _ rfl
      have m2 : V.cell? ⟨wr.heap.size, 2, none⟩ = some (.slice oA0 on0 oc0) := blk_cell hVb 2 _ rfl
      have m3 : V.cell? ⟨wr.heap.size, 3, none⟩ = some (.slice oA1 on1 oc1) := blk_cell hVb 3 _ rfl
      have m4 : V.cell? ⟨wr.heap.size, 4, none⟩ = some (.int .i64 x.dflt) := blk_cell hVb 4 _ rfl
      have m5 : V.cell? ⟨wr.heap.size, 5, none⟩ = some (.slice oA2 on2 oc2) := blk_cell hVb 5 _ rfl
      have m6 : V.cell? ⟨wr.heap.size, 6, none⟩ = some (.int .i64 x.size) := blk_cell hVb 6 _ rfl
      have m7 : V.cell? ⟨wr.heap.size, 7, none⟩ = some (.string (strL x.restr)) := blk_cell hVb 7 _ rfl
      have HBV := Lib.hid hbV
      clear hPw hcs hrow hrow2 hV hx h1 h2 r0 r1 h3 r2 h4 h5
      go_upto_region 5 with fail
      rw [← HV.out]
      clear l0 l1 l2 l3 l4 l5 l6 l7
      go_upto_region 6 with (go_at_call 117; go_loud ((with_reducible refine KE.out.mono ?_); rintro en u ⟨cs', rfl, hcl, hel, hbu⟩; have hq := hel u u.heap.size (.refl (Nat.le_refl _)) (Nat.le_refl _); obtain ⟨v0, v1, v2, rfl, h1, h2, r0, r1, h3, r2, h4, h5⟩ := hq; obtain ⟨nA0, nn0, nc0, rfl, _⟩ := r0.parts; obtain ⟨nA1, nn1, nc1, rfl, _⟩ := r1.parts; obtain ⟨nA2, nn2, nc2, rfl, _⟩ := r2.parts; have HEL := Lib.hid hel; have HBU := Lib.hid hbu; have hou := World.ownsRow.kept (World.ownsRow.kept HI.out.own (grown_of_below HBV.out none) (.inr (by simp [Value.ownBlock]))) (grown_of_below hbu none) (.inr (by simp [Value.ownBlock])); obtain ⟨y0, p0⟩ : ∃ yy, u.cell? ⟨w.heap.size, k * 8, none⟩ = some yy := ⟨_, (World.ownsRow.cellAt hou (k * 8) (by omega)).trans (List.getElem?_eq_getElem (by rw [hou.1]; omega))⟩; have pf0 := World.ownsRow.frozenAt hou (k * 8); obtain ⟨y1, p1⟩ : ∃ yy, u.cell? ⟨w.heap.size, k * 8 + 1, none⟩ = some yy := ⟨_, (World.ownsRow.cellAt hou (k * 8 + 1) (by omega)).trans (List.getElem?_eq_getElem (by rw [hou.1]; omega))⟩; have pf1 := World.ownsRow.frozenAt hou (k * 8 + 1); obtain ⟨y2, p2⟩ : ∃ yy, u.cell? ⟨w.heap.size, k * 8 + 2, none⟩ = some yy := ⟨_, (World.ownsRow.cellAt hou (k * 8 + 2) (by omega)).trans (List.getElem?_eq_getElem (by rw [hou.1]; omega))⟩; have pf2 := World.ownsRow.frozenAt hou (k * 8 + 2); obtain ⟨y3, p3⟩ : ∃ yy, u.cell? ⟨w.heap.size, k * 8 + 3, none⟩ = some yy := ⟨_, (World.ownsRow.cellAt hou (k * 8 + 3) (by omega)).trans (List.getElem?_eq_getElem (by rw [hou.1]; omega))⟩; have pf3 := World.ownsRow.frozenAt hou (k * 8 + 3); obtain ⟨y4, p4⟩ : ∃ yy, u.cell? ⟨w.heap.size, k * 8 + 4, none⟩ = some yy := ⟨_, (World.ownsRow.cellAt hou (k * 8 + 4) (by omega)).trans (List.getElem?_eq_getElem (by rw [hou.1]; omega))⟩; have pf4 := World.ownsRow.frozenAt hou (k * 8 + 4); obtain ⟨y5, p5⟩ : ∃ yy, u.cell? ⟨w.heap.size, k * 8 + 5, none⟩ = some yy := ⟨_, (World.ownsRow.cellAt hou (k * 8 + 5) (by omega)).trans (List.getElem?_eq_getElem (by rw [hou.1]; omega))⟩; have pf5 := World.ownsRow.frozenAt hou (k * 8 + 5); obtain ⟨y6, p6⟩ : ∃ yy, u.cell? ⟨w.heap.size, k * 8 + 6, none⟩ = some yy := ⟨_, (World.ownsRow.cellAt hou (k * 8 + 6) (by omega)).trans (List.getElem?_eq_getElem (by rw [hou.1]; omega))⟩; have pf6 := World.ownsRow.frozenAt hou (k * 8 + 6); obtain ⟨y7, p7⟩ : ∃ yy, u.cell? ⟨w.heap.size, k * 8 + 7, none⟩ = some yy := ⟨_, (World.ownsRow.cellAt hou (k * 8 + 7) (by omega)).trans (List.getElem?_eq_getElem (by rw [hou.1]; omega))⟩; have pf7 := World.ownsRow.frozenAt hou (k * 8 + 7); clear hel hbu hou h1 h2 r0 r1 h3 r2 h4 h5))
      have hst := HI.out.step hlt HX.out (HBV.out.trans (HBU.out.mono HBV.out.size)) (a := V.heap.size) HBV.out.size hcl HEL.out
      go_wp2_with fail
      go_roundw
      case rel => exact ⟨k + 1, _, _, by omega, by simp, hst⟩
      case measure => (first | (simp; omega) | (simp [intOf]; omega) | omega)
    · obtain rfl : k = n := by omega
      have j1 : ¬ (k : Int) < (k : Int) := by omega
      go_wp2_with fail
      go_ret
      exact HI.out.done HNX.out (by unfold maxLen; omega) (by decide)
theorem infoK_grant : (Tryz.prog.info? 185).map (fun i => (i.zero.map (fun z => z.cells.size), i.size, i.bytes)) = some (some 4, 4, 40) := by kernel_rfl
set_option maxRecDepth 100000 in
set_option maxHeartbeats 8000000 in
theorem ea_grant {w : World} {B : Nat} {v : Value} {xs : List GrantD} (h : RowV 4 GrantV B w v xs) (hB : B ≤ w.heap.size) (hn : xs.length ≤ 1000000) (hs0 : ∀ x ∈ xs, x.keys.length ≤ 1000000) : Calls Tryz.prog 164 #[v, .func (.func 165) #[] #[]] w (RetClo 4 GrantV w xs) := by
  obtain ⟨i0, z0, hi, hz, hy1, hy2, hzs⟩ := infoK_parts infoK_grant
  obtain ⟨A, n, c, rfl, hnx, hnc, hcm⟩ := h.parts
  have hn2 : n ≤ 1000000 := by have := hnx.out; omega
  have hmk : ∀ u : World, (Instr.makeSlice 181 (.int .i64 (n : Int)) (.int .i64 (n : Int))).run Tryz.prog u = .ok (.slice (some ⟨u.heap.size, 0, none⟩) n n) (u.alloc (.cells (madeCells z0.cells (n * 4)) 185)) := fun u => by
    have h := run_make (P := Tryz.prog) u 181 185 i0 z0 Tryz.underlying181 hi hz .i64 .i64 (n : Int) (n : Int) (by omega) (Int.le_refl _) (by rw [hy2]; omega) (by omega)
    simpa [hy1] using h
  have I0 : Hid (EacI 4 GrantV 185 w (w.alloc (.cells (madeCells z0.cells (n * 4)) 185)) xs n 0 [] (madeCells z0.cells (n * 4)).toList) := Lib.hid
    ⟨⟨by simp [madeCells], .inr ⟨w.heap.size, n, _, rfl, Nat.le_refl _, heap_alloc_new w _, Nat.le_refl _, by unfold maxLen; omega, by simp [madeCells], by rw [List.take_of_length_le (by simp [madeCells])]⟩⟩, rfl, fun l hl => (by cases hl), fun i l j u h1 _ => (by simp at h1), fun i l x h1 _ => (by simp at h1), (Below.refl w.heap.size w).alloc (Nat.le_refl _) _⟩
  have H := Lib.hid h
  have HNX := hnx
  obtain ⟨ZZ, hZZ⟩ : ∃ ZZ, ZZ = madeCells z0.cells (n * 4) := ⟨_, rfl⟩
  rw [← hZZ] at hmk I0
  clear hZZ
  have HS0 := Lib.hid hs0
  clear hi hz hy1 hy2 hzs h hs0 hnx
  go_enter Tryz.func164, Tryz.ntmps164
  go_wp2_with fail
  go_loopw [13] (fun i W => ∃ (k : Nat) (cl : List (List Value)) (ys : List Value), k ≤ n ∧ i = .int .i64 (k : Int) ∧ EacI 4 GrantV 185 w W xs n k cl ys) (fun i _ => n - (intOf i).toNat)
  case atStart => exact ⟨0, [], _, Nat.zero_le _, rfl, I0.out⟩
  case round =>
    obtain ⟨k, cl, ys, hk, rfl, hI⟩ := hrel
    have HI := Lib.hid hI
    clear hI hmk I0
    by_cases hlt : k < n
    · have j1 : (k : Int) < (n : Int) := by omega
      have j2 : (k : Int) < (c : Int) := by omega
      have j3 : (0 : Int) ≤ (k : Int) := by omega
      have hx : xs[k]? = some (xs[k]'(by have := HNX.out; omega)) := List.getElem?_eq_getElem _
      obtain ⟨x, hxe⟩ : ∃ x, x = xs[k]'(by have := HNX.out; omega) := ⟨_, rfl⟩
      rw [← hxe] at hx
      clear hxe
      have HX := Lib.hid hx
      obtain ⟨_, _, _, eA, _, _, _, hrow⟩ := H.out
      injection eA with eA1 eA2 eA3
      subst eA1 eA2 eA3
      obtain ⟨b, o, hAe, hrow2⟩ := hrow.resolve_left (fun e => by rw [e] at hx; simp at hx)
      subst hAe
      obtain ⟨hbB, cs, hcs, hP⟩ := hrow2 k x hx
      have hPw := hP
      obtain ⟨v0, rfl, h1, r0⟩ := hP
      obtain ⟨oA0, on0, oc0, rfl, _⟩ := r0.parts
      have l0 : wr.cell? ⟨b, o + k * 4, none⟩ = some (.int .i64 x.table) := (World.cell?_of_block (HI.out.bl.block b (by omega))).trans (hcs 0 (by simp))
      have l1 : wr.cell? ⟨b, o + k * 4 + 1, none⟩ = some (.bool x.read) := (World.cell?_of_block (HI.out.bl.block b (by omega))).trans (hcs 1 (by simp))
      have l2 : wr.cell? ⟨b, o + k * 4 + 2, none⟩ = some (.bool x.write) := (World.cell?_of_block (HI.out.bl.block b (by omega))).trans (hcs 2 (by simp))
      have l3 : wr.cell? ⟨b, o + k * 4 + 3, none⟩ = some (.slice oA0 on0 oc0) := (World.cell?_of_block (HI.out.bl.block b (by omega))).trans (hcs 3 (by simp))
      have HPW := Lib.hid hPw
      obtain ⟨V, hV⟩ : ∃ zz, zz = wr.alloc (.cells #[.int .i64 x.table, .bool x.read, .bool x.write, .slice oA0 on0 oc0] 185) := ⟨_, rfl⟩
      have hbV : Below wr.heap.size wr V := by rw [hV]; exact (Below.refl _ _).alloc (Nat.le_refl _) _
      have hVb : V.heap[wr.heap.size]? = some (.cells #[.int .i64 x.table, .bool x.read, .bool x.write, .slice oA0 on0 oc0] 185 (0, 0)) := by rw [hV]; exact heap_alloc_new _ _
      have HV := Lib.hid hV
      have KE : Hid (Calls Tryz.prog 165 #[.agg #[.int .i64 x.table, .bool x.read, .bool x.write, .slice oA0 on0 oc0]] V (RetEl 4 GrantV V x)) := Lib.hid (ke_grant (kept_grant _ _ _ _ _ ((HI.out.bl.trans (hbV.mono HI.out.bl.size)).mono hB) HPW.out) (Nat.le_trans hB (Nat.le_trans HI.out.bl.size hbV.size)) (HS0.out x (List.mem_of_getElem? HX.out)))
      have m0 : V.cell? ⟨wr.heap.size, 0, none⟩ = some (.int .i64 x.table) := blk_cell hVb 0 _ rfl
      have m1 : V.cell? ⟨wr.heap.size, 1, none⟩ = some (.bool x.read) := blk_cell hVb 1 _ rfl
      have m2 : V.cell? ⟨wr.heap.size, 2, none⟩ = some (.bool x.write) := blk_cell hVb 2 _ rfl
      have m3 : V.cell? ⟨wr.heap.size, 3, none⟩ = some (.slice oA0 on0 oc0) := blk_cell hVb 3 _ rfl
      have HBV := Lib.hid hbV
      clear hPw hcs hrow hrow2 hV hx h1 r0
      go_upto_region 5 with fail
      rw [← HV.out]
      clear l0 l1 l2 l3
      go_upto_region 6 with (go_at_call 165; go_loud ((with_reducible refine KE.out.mono ?_); rintro en u ⟨cs', rfl, hcl, hel, hbu⟩; have hq := hel u u.heap.size (.refl (Nat.le_refl _)) (Nat.le_refl _); obtain ⟨v0, rfl, h1, r0⟩ := hq; obtain ⟨nA0, nn0, nc0, rfl, _⟩ := r0.parts; have HEL := Lib.hid hel; have HBU := Lib.hid hbu; have hou := World.ownsRow.kept (World.ownsRow.kept HI.out.own (grown_of_below HBV.out none) (.inr (by simp [Value.ownBlock]))) (grown_of_below hbu none) (.inr (by simp [Value.ownBlock])); obtain ⟨y0, p0⟩ : ∃ yy, u.cell? ⟨w.heap.size, k * 4, none⟩ = some yy := ⟨_, (World.ownsRow.cellAt hou (k * 4) (by omega)).trans (List.getElem?_eq_getElem (by rw [hou.1]; omega))⟩; have pf0 := World.ownsRow.frozenAt hou (k * 4); obtain ⟨y1, p1⟩ : ∃ yy, u.cell? ⟨w.heap.size, k * 4 + 1, none⟩ = some yy := ⟨_, (World.ownsRow.cellAt hou (k * 4 + 1) (by omega)).trans (List.getElem?_eq_getElem (by rw [hou.1]; omega))⟩; have pf1 := World.ownsRow.frozenAt hou (k * 4 + 1); obtain ⟨y2, p2⟩ : ∃ yy, u.cell? ⟨w.heap.size, k * 4 + 2, none⟩ = some yy := ⟨_, (World.ownsRow.cellAt hou (k * 4 + 2) (by omega)).trans (List.getElem?_eq_getElem (by rw [hou.1]; omega))⟩; have pf2 := World.ownsRow.frozenAt hou (k * 4 + 2); obtain ⟨y3, p3⟩ : ∃ yy, u.cell? ⟨w.heap.size, k * 4 + 3, none⟩ = some yy := ⟨_, (World.ownsRow.cellAt hou (k * 4 + 3) (by omega)).trans (List.getElem?_eq_getElem (by rw [hou.1]; omega))⟩; have pf3 := World.ownsRow.frozenAt hou (k * 4 + 3); clear hel hbu hou h1 r0))
      have hst := HI.out.step hlt HX.out (HBV.out.trans (HBU.out.mono HBV.out.size)) (a := V.heap.size) HBV.out.size hcl HEL.out
      go_wp2_with fail
      go_roundw
      case rel => exact ⟨k + 1, _, _, by omega, by simp, hst⟩
      case measure => (first | (simp; omega) | (simp [intOf]; omega) | omega)
    · obtain rfl : k = n := by omega
      have j1 : ¬ (k : Int) < (k : Int) := by omega
      go_wp2_with fail
      go_ret
      exact HI.out.done HNX.out (by unfold maxLen; omega) (by decide)
end Go.Proofs.YtldgjahpmlafgaaGreat
