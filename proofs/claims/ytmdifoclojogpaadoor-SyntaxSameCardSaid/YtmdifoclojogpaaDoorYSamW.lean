/- SyntaxSame, its walk. -/
import Derived.Test.YtmdifoclojogpaaDoorYSam
import Derived.Test.YtmdifoclojogpaaDoorYSen
import Derived.Test.YtmdifoclojogpaaDoorYNew
import Derived.Deep.AppendSrc
namespace Go.Proofs.YtmdifoclojogpaaDoor
open Go.RowKit

def ccells (l : List NC) : List Value := l.flatMap NC.cells
theorem ccells_len (l : List NC) : (ccells l).length = l.length * 7 := by
  induction l with
  | nil => rfl
  | cons t r ih =>
    show ((t.cells) ++ ccells r).length = _
    rw [List.length_append, ih, List.length_cons]
    show 7 + _ = _
    omega
theorem ccells_at (l : List NC) : ∀ (k j : Nat) (hk : k < l.length), j < 7 → (ccells l)[k * 7 + j]? = ((l[k]'hk).cells)[j]? := by
  induction l with
  | nil => intro k j hk; simp at hk
  | cons t r ih =>
    intro k j hk hj
    show (t.cells ++ ccells r)[k * 7 + j]? = _
    cases k with
    | zero =>
      rw [Nat.zero_mul, Nat.zero_add, List.getElem?_append_left (by show j < 7; exact hj)]
      rfl
    | succ k =>
      rw [List.getElem?_append_right (by show 7 ≤ _; omega)]
      have := ih k j (by simp at hk; omega) hj
      rw [show (k + 1) * 7 + j - (t.cells).length = k * 7 + j by show _ - 7 = _; omega, this]
      rfl
theorem ccells_one (l : List NC) : ∀ u ∈ ccells l, u.oneCell' = true := by
  intro u hu
  unfold ccells at hu
  obtain ⟨t, _, ht⟩ := List.mem_flatMap.1 hu
  simp only [NC.cells, List.mem_cons, List.not_mem_nil, or_false] at ht
  rcases ht with rfl | rfl | rfl | rfl | rfl | rfl | rfl <;> rfl
theorem ncr_flat {w : World} {A : Option Addr} {o : List NC} (h : NCR w A o) (hp : 0 < o.length) : ∃ g, A = some ⟨g, 0, none⟩ ∧ g < w.heap.size ∧ ∀ j u, (ccells o)[j]? = some u → w.cell? ⟨g, j, none⟩ = some u := by
  obtain ⟨g, h1, h2, q⟩ := h.r.resolve_left (fun e => by rw [e] at hp; simp at hp)
  refine ⟨g, h1, h2, fun j u hj => ?_⟩
  have hl := (List.getElem?_eq_some_iff.1 hj).1
  rw [ccells_len] at hl
  have e1 := ccells_at o (j / 7) (j % 7) (by omega) (by omega)
  have e2 := q (j / 7) (by omega) (j % 7) (by omega)
  have e3 : j / 7 * 7 + j % 7 = j := by omega
  rw [e3] at e1 e2
  rw [e2, ← e1, hj]
theorem ncr_own {w : World} {B e : Nat} {A : Option Addr} {cap n : Nat} {o : List NC} (h : w.ownsRow B e 7 (.slice A n cap) n (ccells o)) (hn : o.length = n) : NCR w A o := by
  by_cases h0 : o = []
  · exact ⟨.inl h0⟩
  · have hp : 0 < n := by rw [← hn]; exact List.length_pos_iff.2 h0
    obtain ⟨g, c, hv, hge, hl⟩ := h.form hp
    injection hv with e1 e2 e3
    subst e1
    refine ⟨.inr ⟨g, rfl, hl, fun k hk j hj => ?_⟩⟩
    have hz := ccells_len o
    rw [h.cellAt (k * 7 + j) (by omega), ccells_at o k j hk hj]
set_option maxRecDepth 100000 in
theorem app_none (A3 : Option Addr) (c3 : Nat) (W : World) (b : Nat) : (Builtin.append_ #[29, 29] 29 #[.slice (some ⟨b, 0, none⟩) 0 0, .slice A3 0 c3]).run Tryd.prog W = .ok (.slice (some ⟨b, 0, none⟩) 0 0) W := by
  obtain ⟨i0, hi0, _⟩ := info_ndP
  cases A3 with
  | none => exact run_append_room_src W 29 29 29 42 i0 Tryd.underlying29 hi0 b 0 0 0 _ 0 [] (Src.ofNil W Tryd.underlying29 c3) (by omega) (fun j hj => by simp at hj) (fun j hj => by simp at hj)
  | some a => exact run_append_room_src W 29 29 29 42 i0 Tryd.underlying29 hi0 b 0 0 0 _ 0 [] (Src.ofSlice W Tryd.underlying29 a 0 c3 [] (by simp) (fun j u hj => by simp at hj) (fun u hu => by simp at hu)) (by omega) (fun j hj => by simp at hj) (fun j hj => by simp at hj)
theorem wpList_append_run {P : Program} (w : World) {ops : Array Oper} {rest : List Oper} {o : Oper} {a : Act} {Q : Exit → Act → World → Prop}
    (hg : o.guard = none) (s x : Operand) (t : TypeId) (hop : o.op = Op.call { callee := Callee.builtin Builtin.append, args := #[s, x], argTypes := #[t, t] }) (v : Value) (w' : World)
    (hrun : (Builtin.append_ #[t, t] o.type #[a.eval s, a.eval x]).run P w = .ok v w') (hK : wpList P ops Q rest (a.put o.dst v) w') : wpList P ops Q (o :: rest) a w := by
  refine wpList_plain hg fun K hK' => ?_
  unfold Oper.wp
  simp [execOp, hop, resolve, invoke, builtin, hrun, Result.andThen]
  exact hK' _ _ hK
theorem own_frozen {w : World} {B e sz n : Nat} {A : Option Addr} {cap : Nat} {l : List Value} (h : w.ownsRow B e sz (.slice A n cap) n l) (hn : 0 < n) : ∃ g, A = some ⟨g, 0, none⟩ ∧ B ≤ g ∧ g < w.heap.size ∧ ∀ i, w.frozen? ⟨g, i, none⟩ = false := by
  obtain ⟨g, c, hv, hge, hl⟩ := h.form hn
  injection hv with e1 e2 e3
  subst e1
  refine ⟨g, rfl, hge, hl, fun i => ?_⟩
  rcases h.2 with ⟨e, _⟩ | ⟨g', cap', cur, e, _, hb, _⟩
  · cases e
  · injection e with e1
    injection e1 with e1
    injection e1 with e1
    subst e1
    simp [World.frozen?, hb]
theorem own_shapeN {w : World} {B e sz n : Nat} {v : Value} {l : List Value} (h : w.ownsRow B e sz v n l) : ∃ A cap, v = .slice A n cap := by
  rcases h.2 with ⟨rfl, rfl⟩ | ⟨g, cap, cur, rfl, _⟩
  · exact ⟨_, _, rfl⟩
  · exact ⟨_, _, rfl⟩
theorem ncr_set {w : World} {g : Nat} {xs : List NC} {k : Nat} {x : NC} (h : NCR w (some ⟨g, 0, none⟩) xs) (hx : xs[k]? = some x) (u : Int) : NCR (w.setCell ⟨g, k * 7 + 5, none⟩ (.int .u64 u)) (some ⟨g, 0, none⟩) (xs.set k ⟨x.x0, x.x1, x.x2, x.x3, x.x4, u, x.x6⟩) := by
  have hk := (List.getElem?_eq_some_iff.1 hx).1
  have hxe := (List.getElem?_eq_some_iff.1 hx).2
  obtain ⟨g', e, h2, q⟩ := h.r.resolve_left (fun e => by rw [e] at hk; simp at hk)
  injection e with e
  injection e with e
  subst e
  refine ⟨.inr ⟨g, rfl, by rw [World.size_setCell]; exact h2, fun i hi j hj => ?_⟩⟩
  rw [List.length_set] at hi
  have q0 := q i hi j hj
  rw [List.getElem_set]
  by_cases e1 : k = i
  · subst e1
    rw [if_pos rfl]
    by_cases e2 : j = 5
    · subst e2
      rw [World.cell?_setCell_same' _ _ _ (by rw [q0]; rfl)]; rfl
    · rw [World.cell?_setCell_other _ _ _ _ (by intro hh; injection hh with _ h2 _; omega), q0, hxe]
      have : j = 0 ∨ j = 1 ∨ j = 2 ∨ j = 3 ∨ j = 4 ∨ j = 6 := by omega
      rcases this with rfl | rfl | rfl | rfl | rfl | rfl <;> rfl
  · rw [if_neg e1, World.cell?_setCell_other _ _ _ _ (by intro hh; injection hh with _ h2 _; omega), q0]
theorem ncr_other {w : World} {g g9 : Nat} {xs : List NC} (h : NCR w (some ⟨g, 0, none⟩) xs) (hne : g ≠ g9) (i : Nat) (v : Value) : NCR (w.setCell ⟨g9, i, none⟩ v) (some ⟨g, 0, none⟩) xs := by
  rcases h.r with h | ⟨g', e, h2, q⟩
  · exact ⟨.inl h⟩
  · injection e with e
    injection e with e
    subst e
    exact ⟨.inr ⟨g, rfl, by rw [World.size_setCell]; exact h2, fun k hk j hj => by rw [World.cell?_setCell_other _ _ _ _ (by intro hh; injection hh with h1 _ _; omega)]; exact q k hk j hj⟩⟩
theorem wrap_ne (x : Int) : IntKind.u64.wrap (x + 1) ≠ x := by
  unfold IntKind.wrap
  simp [IntKind.bits, IntKind.signed]
  omega
theorem set_ne {xs : List NC} {k : Nat} {x : NC} (hx : xs[k]? = some x) {u : Int} (hu : u ≠ x.x5) : ¬ xs = xs.set k ⟨x.x0, x.x1, x.x2, x.x3, x.x4, u, x.x6⟩ := fun e => by
  have hk := (List.getElem?_eq_some_iff.1 hx).1
  rw [e, List.getElem?_set_self (by exact hk)] at hx
  injection hx with hx
  exact hu (congrArg NC.x5 hx)
set_option maxRecDepth 100000 in
set_option maxHeartbeats 8000000 in
theorem ysame_any (w : World) (A : Option Addr) (D n cap : Nat) (l : List Nat) (A2 : Option Addr) (D2 n2 cap2 : Nat) (l2 : List Nat) (at_ nn : Int) (hr : ReadsL w D A l) (hD : l ≠ [] → D < w.heap.size) (hl : l.length = n) (hn : n ≤ cap) (hcap : cap ≤ maxLen) (hs : Small l)
    (hr2 : ReadsL w D2 A2 l2) (hD2 : l2 ≠ [] → D2 < w.heap.size) (hl2 : l2.length = n2) (hn2 : n2 ≤ cap2) (hcap2 : cap2 ≤ maxLen) (hs2 : Small l2) (hy : Syms w) (hy2 : SymY w) :
    Calls Tryd.prog 6 #[.slice A n cap, .slice A2 n2 cap2, .int .i64 at_, .int .i64 nn] w (RetX (.bool true) w) := by
  have KN1 := Lib.hid (nw_lim 30 (by decide) hr hD hl hn hcap hs w (Below.refl _ _))
  have KN2 : Hid (∀ W, Below w.heap.size w W → Calls Tryd.prog 9 #[.slice A2 n2 cap2, .int .i64 30] W (RetNw W)) := Lib.hid fun W hW => nw_lim 30 (by decide) hr2 hD2 hl2 hn2 hcap2 hs2 W hW
  have HY := Lib.hid hy
  have HY2 := Lib.hid hy2
  have hlt1 : 2 < w.heap.size := hy2.lt
  clear hr hD hl hn hcap hs hy hy2 hr2 hD2 hl2 hn2 hcap2 hs2
  go_enter Tryd.func6, Tryd.ntmps6
  go_wp2_with fail
  go_at_call 9
  refine KN1.out.mono ?_
  rintro e w1 ⟨Da, la, rfl, hb1, hc1⟩
  have HB1 := Lib.hid hb1
  have HC1 := Lib.hid hc1
  clear hb1 hc1 KN1
  go_wp2_with fail
  go_at_call 10
  refine (cs_sentence (B := w.heap.size) (K := w.heap.size) (Nat.le_refl _) true 3 (by decide) _ w1 HC1.out).mono ?_
  rintro e w2 ⟨p, hp, rfl, hb2, _, _⟩
  have HB2 := Lib.hid (HB1.out.trans hb2)
  have hps : p.size ≤ 60000 := Nat.le_trans hp (sB_le 3 (by decide))
  clear hb2 hp HC1 HB1
  have h2 := HB2.out.size
  obtain ⟨o1, ho1⟩ : ∃ o, o = pTree p := ⟨_, rfl⟩
  obtain ⟨m1, hm1e⟩ : ∃ m, m = o1.length := ⟨_, rfl⟩
  obtain ⟨k1, hk1⟩ : ∃ b, b = pOk p := ⟨_, rfl⟩
  have hm1 : m1 ≤ 100000 := by have := pTree_len p; rw [← ho1] at this; omega
  have KT := Lib.hid (ly_parsedO p (by omega) w2 (HY.out.below HB2.out HY.out.lt) (HY2.out.below HB2.out hlt1) o1 m1 k1 ho1 hm1e hk1)
  have HM1E := Lib.hid hm1e
  clear ho1 hk1 hm1e
  go_wp2_with fail
  go_at_call 13
  refine KT.out.mono ?_
  rintro e w3 ⟨A3, c3, A4, c4, rfl, hc3, hc4, hN3, _, hb3⟩
  have HB3 := Lib.hid (HB2.out.trans (hb3.mono h2))
  have HX3 := Lib.hid hN3.ncr
  have h3 := HB3.out.size
  clear hb3 hN3 KT HB2 hps
  go_wp2_with fail
  go_at_call 9
  refine (KN2.out w3 HB3.out).mono ?_
  rintro e w4 ⟨Db, lb, rfl, hb4, hc4'⟩
  have HB4 := Lib.hid hb4
  have HC4 := Lib.hid hc4'
  clear hb4 hc4' KN2
  go_wp2_with fail
  go_at_call 10
  refine (cs_sentence (B := w3.heap.size) (K := w3.heap.size) (Nat.le_refl _) true 3 (by decide) _ w4 HC4.out).mono ?_
  rintro e w5 ⟨p2, hp2, rfl, hb5, _, _⟩
  have HB35 := Lib.hid (HB4.out.trans hb5)
  have HB5 := Lib.hid (HB3.out.trans (HB35.out.mono h3))
  have hps : p2.size ≤ 60000 := Nat.le_trans hp2 (sB_le 3 (by decide))
  clear hb5 hp2 HC4 HB4
  have h5 := HB5.out.size
  obtain ⟨o2, ho2⟩ : ∃ o, o = pTree p2 := ⟨_, rfl⟩
  obtain ⟨m2, hm2e⟩ : ∃ m, m = o2.length := ⟨_, rfl⟩
  obtain ⟨k2, hk2⟩ : ∃ b, b = pOk p2 := ⟨_, rfl⟩
  have hm2 : m2 ≤ 100000 := by have := pTree_len p2; rw [← ho2] at this; omega
  have KT := Lib.hid (ly_parsedO p2 (by omega) w5 (HY.out.below HB5.out HY.out.lt) (HY2.out.below HB5.out hlt1) o2 m2 k2 ho2 hm2e hk2)
  have HM2E := Lib.hid hm2e
  clear ho2 hk2 hm2e
  go_wp2_with fail
  go_at_call 13
  refine KT.out.mono ?_
  rintro e w6 ⟨A6, c6, A7, c7, rfl, hc6, hc7, hN6, _, hb6⟩
  have HB6 := Lib.hid (HB5.out.trans (hb6.mono h5))
  have HX6 := Lib.hid (HX3.out.below (HB35.out.trans (hb6.mono HB35.out.size)))
  have HYY6 := Lib.hid hN6.ncr
  clear hb6 hN6 KT HB35 HB5 HB3 HX3 hps
  obtain ⟨xs, hxs⟩ : ∃ xs, xs = o1.map Nd.nc := ⟨_, rfl⟩
  obtain ⟨ys, hys⟩ : ∃ ys, ys = o2.map Nd.nc := ⟨_, rfl⟩
  have HXL : Hid (xs.length = m1) := Lib.hid (by rw [hxs, List.length_map, HM1E.out])
  have HYL : Hid (ys.length = m2) := Lib.hid (by rw [hys, List.length_map, HM2E.out])
  rw [← hxs] at HX6
  rw [← hys] at HYY6
  clear hxs hys HM1E HM2E
  obtain ⟨b0, hb0⟩ : ∃ b : Bool, b = decide (m1 = m2) := ⟨_, rfl⟩
  have hb0I : ((m1 : Int) == (m2 : Int)) = b0 := by
    rw [hb0]
    by_cases e : m1 = m2
    · subst e; simp
    · rw [decide_eq_false e, beq_eq_false_iff_ne]; omega
  have HB0 : Hid (b0 = true ↔ (m1 = m2 ∧ xs.take 0 = ys.take 0)) := Lib.hid (by rw [hb0]; simp)
  have hG : Tryd.prog.eqGuardType Tryd.prog.depth 42 = false := by kernel_rfl
  clear hb0
  go_wp2_with fail
  go_loopw [17, 18] (fun e i w' => ∃ (k q : Nat) (b : Bool), k ≤ m1 ∧ i = .int .i64 k ∧ e = .bool b ∧ Hid (b = true ↔ (m1 = m2 ∧ xs.take k = ys.take k)) ∧ w' = w6.drewN q) (fun _ i _ => m1 - (intOf i).toNat)
  case atStart => exact ⟨0, 0, b0, by omega, rfl, rfl, HB0, rfl⟩
  case round =>
    clear HB0 hb0I
    obtain ⟨k, q, b, hk, rfl, rfl, HBF0, rfl⟩ := hrel
    cases b
    · have HBF : Hid (false = true ↔ xs = ys) := Lib.hid ⟨fun e => (by cases e), fun e => HBF0.out.2 ⟨by rw [← HXL.out, ← HYL.out, e], by rw [e]⟩⟩
      clear HBF0
      have HFIN : Hid (xs = ys ∨ True) := Lib.hid (.inr trivial)
      have HX7 := Lib.hid (HX6.out.below (below_drewN (Below.refl _ w6) q))
      have HY7 := Lib.hid (HYY6.out.below (below_drewN (Below.refl _ w6) q))
      have HB7 : Hid (Below w.heap.size w (w6.drewN q)) := Lib.hid (below_drewN HB6.out q)
      have h7 := HB7.out.size
      clear HFIN
      generalize w6.drewN q = w7 at HX7 HY7 HB7 h7 ⊢
      have KS1 := Lib.hid (sy_SameB HXL.out HYL.out hc3 hc6 hm1 hm2 HX7.out HY7.out (Below.refl _ w7) HBF.out)
      have KS2 : Hid (∀ W, Below w7.heap.size w7 W → Calls Tryd.prog 15 #[.slice A3 m1 c3, .slice A3 m1 c3] W (RetX (.bool true) W)) := Lib.hid fun W hW => sy_SameB HXL.out HXL.out hc3 hc3 hm1 hm1 HX7.out HX7.out hW (by simp)
      clear HBF
      go_wp2_with fail
      go_at_call 15
      refine KS1.out.mono ?_
      rintro e w8 ⟨rfl, hb8⟩
      have HB8 := Lib.hid hb8
      clear hb8
      go_wp2_with fail
      go_at_call 15
      refine (KS2.out w8 HB8.out).mono ?_
      rintro e w9 ⟨rfl, hb9⟩
      have HB89 := Lib.hid (HB8.out.trans (hb9.mono HB8.out.size))
      have HB9 := Lib.hid (HB7.out.trans (HB89.out.mono h7))
      have HX9 := Lib.hid (HX7.out.below HB89.out)
      have h9 := HB9.out.size
      clear hb9 KS1 KS2 HB8
      by_cases hm0 : m1 = 0
      · subst hm0
        have hap : ∀ (W : World) (b : Nat), (Builtin.append_ #[29, 29] 29 #[.slice (some ⟨b, 0, none⟩) 0 0, .slice A3 0 c3]).run Tryd.prog W = .ok (.slice (some ⟨b, 0, none⟩) 0 0) W := app_none A3 c3
        go_wp2_with (at_builtin; (refine wpList_append_run _ rfl (.tmp 73) (.tmp 74) 29 rfl _ _ (hap _ _) ?_))
        go_at_call 14
        refine (ly_begun _ (HY.out.below (HB9.out.alloc h9 _) HY.out.lt) (HY2.out.below (HB9.out.alloc h9 _) hlt1)).mono ?_
        rintro e wz ⟨rfl, hbz⟩
        have HBZ := Lib.hid ((HB9.out.alloc h9 _).trans (hbz.mono (by simp; omega)))
        clear hbz
        go_wp2_with fail
        go_ret
        exact ⟨by first | rfl | simp, HBZ.out⟩
      · have hmp : 0 < m1 := by omega
        have hmpI : (0 : Int) < (m1 : Int) := by omega
        obtain ⟨g3, rfl, hg3, hcs⟩ := ncr_flat HX9.out (by rw [HXL.out]; exact hmp)
        have HCS := Lib.hid hcs
        obtain ⟨i0, hi0, hz0, hy1, hy2'⟩ := info_ndP
        clear hcs
        have hBE : Below w.heap.size w (w9.alloc (.cells #[] 42)) := HB9.out.alloc h9 _
        have HBE := Lib.hid hBE
        clear hBE
        go_wp2_with (at_builtin; (refine wpList_append_grows _ rfl (.tmp 73) (.tmp 74) 29 rfl 42 i0 _ 7 72 Tryd.underlying29 hi0 hz0 hy1 hy2' rfl (by decide) (some ⟨w9.heap.size, 0, none⟩) 0 0 [] rfl (by simp) rfl (by simp) ⟨g3, 0, none⟩ m1 c3 (ccells xs) rfl (by rw [ccells_len, HXL.out]) (fun j u hj => by rw [Addr.add_lit, Nat.zero_add]; exact (((Below.refl _ w9).alloc (Nat.le_refl _) _).cell (p := ⟨g3, j, none⟩) hg3).trans (HCS.out j u hj)) (ccells_one xs) (by omega) (by unfold maxLen; omega) (by omega) ?_; intro v10 w10 hO10 hg10; rw [Nat.zero_add, List.nil_append] at hO10; obtain ⟨A10, cap10, rfl⟩ := own_shapeN hO10; have HO10 := Lib.hid hO10; have HG10 := Lib.hid hg10; clear hO10 hg10))
        obtain ⟨g9, rfl, hge9, hlt9, hfz9⟩ := own_frozen HO10.out hmp
        have HX10 := Lib.hid (ncr_own HO10.out HXL.out)
        have hcap9 : m1 ≤ cap10 := own_le HO10.out
        have HB10 := Lib.hid (HBE.out.grown HG10.out HBE.out.size (fun k e => by cases e))
        have HA10 := Lib.hid (HX9.out.below ((((Below.refl _ w9).alloc (Nat.le_refl _) (.cells #[] 42)).grown HG10.out (by simp) (fun k e => by cases e))))
        have h10 := HB10.out.size
        have hg910 : w9.heap.size < g9 := by rw [World.size_alloc] at hge9; omega
        have HFZ := Lib.hid hfz9
        clear HO10 HG10 HBE HX9 HCS hge9 hfz9
        go_wp2_with fail
        go_at_call 11
        refine (cs_modN at_ m1 (by omega) (by omega) _).mono ?_
        rintro e w11 ⟨r, hr, rfl, rfl⟩
        obtain ⟨x, hx⟩ : ∃ x, xs[r]? = some x := ⟨_, List.getElem?_eq_getElem (by rw [HXL.out]; exact hr)⟩
        obtain ⟨g', e', l1, a0, a1, a2, a3, a4, a5, a6⟩ := ncr_cells HX10.out hx
        injection e' with e'
        injection e' with e'
        subst e'
        have f5 : w10.frozen? ⟨g9, r * 7 + 5, none⟩ = false := HFZ.out _
        have hrI : (r : Int) < (m1 : Int) := by omega
        have hr0 : 0 ≤ (r : Int) := by omega
        have hr3 : (r : Int) < (cap10 : Int) := by omega
        obtain ⟨u, hu⟩ : ∃ u, IntKind.u64.wrap (x.x5 + 1) = u := ⟨_, rfl⟩
        have hune : u ≠ x.x5 := by rw [← hu]; exact wrap_ne _
        obtain ⟨w12, hw12⟩ : ∃ W, w10.setCell ⟨g9, r * 7 + 5, none⟩ (.int .u64 u) = W := ⟨_, rfl⟩
        have HB12 : Hid (Below w.heap.size w w12) := Lib.hid (by rw [← hw12]; exact HB10.out.setCell (by simp; omega) _)
        have HA12 : Hid (NCR w12 (some ⟨g3, 0, none⟩) xs) := Lib.hid (by rw [← hw12]; exact ncr_other HA10.out (by omega) _ _)
        have HC12 : Hid (NCR w12 (some ⟨g9, 0, none⟩) (xs.set r ⟨x.x0, x.x1, x.x2, x.x3, x.x4, u, x.x6⟩)) := Lib.hid (by rw [← hw12]; exact ncr_set HX10.out hx u)
        have HNE := Lib.hid (set_ne hx hune)
        have KS3 := Lib.hid (sy_SameB (b := false) HXL.out (by rw [List.length_set]; exact HXL.out) hc3 hcap9 hm1 hm1 HA12.out HC12.out (Below.refl _ w12) ⟨fun e => (by cases e), fun e => absurd e HNE.out⟩)
        clear hx hune HFZ HX10 HA10
        go_wp2_with fail
        first | rw [hw12] | skip
        go_at_call 15
        refine KS3.out.mono ?_
        rintro e w13 ⟨rfl, hb13⟩
        have HB13 := Lib.hid (HB12.out.trans (hb13.mono HB12.out.size))
        clear hb13 KS3 hw12
        go_wp2_with fail
        go_at_call 14
        refine (ly_begun _ (HY.out.below HB13.out HY.out.lt) (HY2.out.below HB13.out hlt1)).mono ?_
        rintro e wz ⟨rfl, hbz⟩
        have HBZ := Lib.hid (HB13.out.trans (hbz.mono HB13.out.size))
        clear hbz
        go_wp2_with fail
        go_ret
        exact ⟨by first | rfl | simp, HBZ.out⟩
    · by_cases hkn : k < m1
      · have h12 := (HBF0.out.1 rfl).1
        obtain ⟨x, hx⟩ : ∃ x, xs[k]? = some x := ⟨_, List.getElem?_eq_getElem (by rw [HXL.out]; exact hkn)⟩
        obtain ⟨y, hy⟩ : ∃ y, ys[k]? = some y := ⟨_, List.getElem?_eq_getElem (by rw [HYL.out]; omega)⟩
        obtain ⟨g1, e1, l1, a0, a1, a2, a3, a4, a5, a6⟩ := ncr_cells HX6.out hx
        obtain ⟨g2, e2, l2, b0, b1, b2, b3, b4, b5, b6⟩ := ncr_cells HYY6.out hy
        subst e1 e2
        have k1 : (k : Int) < (m1 : Int) := by omega
        have k0 : 0 ≤ (k : Int) := by omega
        have k3 : (k : Int) < (m2 : Int) := by omega
        obtain ⟨bb, hbb, hq0⟩ := eqn_any x y
        have hq : ∀ W : World, (Op.equalIn 10000 42 (.agg #[.int .i64 x.x0, .int .i64 x.x1, .int .i64 x.x2, .string x.x3, .string x.x4, .int .u64 x.x5, .int .u64 x.x6]) (.agg #[.int .i64 y.x0, .int .i64 y.x1, .int .i64 y.x2, .string y.x3, .string y.x4, .int .u64 y.x5, .int .u64 y.x6])).run Tryd.prog W = .ok bb W := hq0
        have HNX : Hid (bb = true ↔ (m1 = m2 ∧ xs.take (k + 1) = ys.take (k + 1))) := Lib.hid ⟨fun e => ⟨h12, take_eqN (HBF0.out.1 rfl).2 hx hy (hbb.1 e)⟩, fun e => hbb.2 (by
          have h := congrArg (fun l => l[k]?) e.2
          simp only [List.getElem?_take_of_lt (Nat.lt_succ_self k), hx, hy] at h
          injection h)⟩
        clear hx hy hq0 hbb HBF0 h12
        go_wp2
        go_quiet (fail)
        go_wp2
        go_roundw
        case rel => exact ⟨k + 1, _, bb, by omega, by simp, rfl, HNX, rfl⟩
        case measure => simp [intOf]; omega
      · obtain rfl : m1 = k := by omega
        have HBF : Hid (true = true ↔ xs = ys) := Lib.hid ⟨fun e => by
          have h := (HBF0.out.1 rfl).2
          have h12 := (HBF0.out.1 rfl).1
          rw [← HXL.out, List.take_length, HXL.out, h12, ← HYL.out, List.take_length] at h
          exact h, fun _ => rfl⟩
        clear HBF0
        have HFIN : Hid (xs = ys ∨ True) := Lib.hid (.inr trivial)
        have HX7 := Lib.hid (HX6.out.below (below_drewN (Below.refl _ w6) q))
        have HY7 := Lib.hid (HYY6.out.below (below_drewN (Below.refl _ w6) q))
        have HB7 : Hid (Below w.heap.size w (w6.drewN q)) := Lib.hid (below_drewN HB6.out q)
        have h7 := HB7.out.size
        clear HFIN
        generalize w6.drewN q = w7 at HX7 HY7 HB7 h7 ⊢
        have KS1 := Lib.hid (sy_SameB HXL.out HYL.out hc3 hc6 hm1 hm2 HX7.out HY7.out (Below.refl _ w7) HBF.out)
        have KS2 : Hid (∀ W, Below w7.heap.size w7 W → Calls Tryd.prog 15 #[.slice A3 m1 c3, .slice A3 m1 c3] W (RetX (.bool true) W)) := Lib.hid fun W hW => sy_SameB HXL.out HXL.out hc3 hc3 hm1 hm1 HX7.out HX7.out hW (by simp)
        clear HBF
        go_wp2_with fail
        go_at_call 15
        refine KS1.out.mono ?_
        rintro e w8 ⟨rfl, hb8⟩
        have HB8 := Lib.hid hb8
        clear hb8
        go_wp2_with fail
        go_at_call 15
        refine (KS2.out w8 HB8.out).mono ?_
        rintro e w9 ⟨rfl, hb9⟩
        have HB89 := Lib.hid (HB8.out.trans (hb9.mono HB8.out.size))
        have HB9 := Lib.hid (HB7.out.trans (HB89.out.mono h7))
        have HX9 := Lib.hid (HX7.out.below HB89.out)
        have h9 := HB9.out.size
        clear hb9 KS1 KS2 HB8
        by_cases hm0 : m1 = 0
        · subst hm0
          have hap : ∀ (W : World) (b : Nat), (Builtin.append_ #[29, 29] 29 #[.slice (some ⟨b, 0, none⟩) 0 0, .slice A3 0 c3]).run Tryd.prog W = .ok (.slice (some ⟨b, 0, none⟩) 0 0) W := app_none A3 c3
          go_wp2_with (at_builtin; (refine wpList_append_run _ rfl (.tmp 73) (.tmp 74) 29 rfl _ _ (hap _ _) ?_))
          go_at_call 14
          refine (ly_begun _ (HY.out.below (HB9.out.alloc h9 _) HY.out.lt) (HY2.out.below (HB9.out.alloc h9 _) hlt1)).mono ?_
          rintro e wz ⟨rfl, hbz⟩
          have HBZ := Lib.hid ((HB9.out.alloc h9 _).trans (hbz.mono (by simp; omega)))
          clear hbz
          go_wp2_with fail
          go_ret
          exact ⟨by first | rfl | simp, HBZ.out⟩
        · have hmp : 0 < m1 := by omega
          have hmpI : (0 : Int) < (m1 : Int) := by omega
          obtain ⟨g3, rfl, hg3, hcs⟩ := ncr_flat HX9.out (by rw [HXL.out]; exact hmp)
          have HCS := Lib.hid hcs
          obtain ⟨i0, hi0, hz0, hy1, hy2'⟩ := info_ndP
          clear hcs
          have hBE : Below w.heap.size w (w9.alloc (.cells #[] 42)) := HB9.out.alloc h9 _
          have HBE := Lib.hid hBE
          clear hBE
          go_wp2_with (at_builtin; (refine wpList_append_grows _ rfl (.tmp 73) (.tmp 74) 29 rfl 42 i0 _ 7 72 Tryd.underlying29 hi0 hz0 hy1 hy2' rfl (by decide) (some ⟨w9.heap.size, 0, none⟩) 0 0 [] rfl (by simp) rfl (by simp) ⟨g3, 0, none⟩ m1 c3 (ccells xs) rfl (by rw [ccells_len, HXL.out]) (fun j u hj => by rw [Addr.add_lit, Nat.zero_add]; exact (((Below.refl _ w9).alloc (Nat.le_refl _) _).cell (p := ⟨g3, j, none⟩) hg3).trans (HCS.out j u hj)) (ccells_one xs) (by omega) (by unfold maxLen; omega) (by omega) ?_; intro v10 w10 hO10 hg10; rw [Nat.zero_add, List.nil_append] at hO10; obtain ⟨A10, cap10, rfl⟩ := own_shapeN hO10; have HO10 := Lib.hid hO10; have HG10 := Lib.hid hg10; clear hO10 hg10))
          obtain ⟨g9, rfl, hge9, hlt9, hfz9⟩ := own_frozen HO10.out hmp
          have HX10 := Lib.hid (ncr_own HO10.out HXL.out)
          have hcap9 : m1 ≤ cap10 := own_le HO10.out
          have HB10 := Lib.hid (HBE.out.grown HG10.out HBE.out.size (fun k e => by cases e))
          have HA10 := Lib.hid (HX9.out.below ((((Below.refl _ w9).alloc (Nat.le_refl _) (.cells #[] 42)).grown HG10.out (by simp) (fun k e => by cases e))))
          have h10 := HB10.out.size
          have hg910 : w9.heap.size < g9 := by rw [World.size_alloc] at hge9; omega
          have HFZ := Lib.hid hfz9
          clear HO10 HG10 HBE HX9 HCS hge9 hfz9
          go_wp2_with fail
          go_at_call 11
          refine (cs_modN at_ m1 (by omega) (by omega) _).mono ?_
          rintro e w11 ⟨r, hr, rfl, rfl⟩
          obtain ⟨x, hx⟩ : ∃ x, xs[r]? = some x := ⟨_, List.getElem?_eq_getElem (by rw [HXL.out]; exact hr)⟩
          obtain ⟨g', e', l1, a0, a1, a2, a3, a4, a5, a6⟩ := ncr_cells HX10.out hx
          injection e' with e'
          injection e' with e'
          subst e'
          have f5 : w10.frozen? ⟨g9, r * 7 + 5, none⟩ = false := HFZ.out _
          have hrI : (r : Int) < (m1 : Int) := by omega
          have hr0 : 0 ≤ (r : Int) := by omega
          have hr3 : (r : Int) < (cap10 : Int) := by omega
          obtain ⟨u, hu⟩ : ∃ u, IntKind.u64.wrap (x.x5 + 1) = u := ⟨_, rfl⟩
          have hune : u ≠ x.x5 := by rw [← hu]; exact wrap_ne _
          obtain ⟨w12, hw12⟩ : ∃ W, w10.setCell ⟨g9, r * 7 + 5, none⟩ (.int .u64 u) = W := ⟨_, rfl⟩
          have HB12 : Hid (Below w.heap.size w w12) := Lib.hid (by rw [← hw12]; exact HB10.out.setCell (by simp; omega) _)
          have HA12 : Hid (NCR w12 (some ⟨g3, 0, none⟩) xs) := Lib.hid (by rw [← hw12]; exact ncr_other HA10.out (by omega) _ _)
          have HC12 : Hid (NCR w12 (some ⟨g9, 0, none⟩) (xs.set r ⟨x.x0, x.x1, x.x2, x.x3, x.x4, u, x.x6⟩)) := Lib.hid (by rw [← hw12]; exact ncr_set HX10.out hx u)
          have HNE := Lib.hid (set_ne hx hune)
          have KS3 := Lib.hid (sy_SameB (b := false) HXL.out (by rw [List.length_set]; exact HXL.out) hc3 hcap9 hm1 hm1 HA12.out HC12.out (Below.refl _ w12) ⟨fun e => (by cases e), fun e => absurd e HNE.out⟩)
          clear hx hune HFZ HX10 HA10
          go_wp2_with fail
          first | rw [hw12] | skip
          go_at_call 15
          refine KS3.out.mono ?_
          rintro e w13 ⟨rfl, hb13⟩
          have HB13 := Lib.hid (HB12.out.trans (hb13.mono HB12.out.size))
          clear hb13 KS3 hw12
          go_wp2_with fail
          go_at_call 14
          refine (ly_begun _ (HY.out.below HB13.out HY.out.lt) (HY2.out.below HB13.out hlt1)).mono ?_
          rintro e wz ⟨rfl, hbz⟩
          have HBZ := Lib.hid (HB13.out.trans (hbz.mono HB13.out.size))
          clear hbz
          go_wp2_with fail
          go_ret
          exact ⟨by first | rfl | simp, HBZ.out⟩
end Go.Proofs.YtmdifoclojogpaaDoor
