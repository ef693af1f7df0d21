/- Layer 12: the program's All: the prefixes of a trie, depth first. -/
import Derived.Test.YtmlocfojmncghaaUEmp
import Derived.Laws.MakeOwn
import Derived.Deep.AppendLies
import Derived.Maps.AppendAt
import Derived.RegionTactic
namespace Go.Proofs.Ytmlocfojmncghaa
open Go.RowKit
/-- a row of one's own has grown -/
structure GrwU (W w' : World) (v v' : Value) : Prop where
  g : W.grownBy w' v.ownBlock
  b : ∀ g, v'.ownBlock = some g → v.ownBlock = some g ∨ W.heap.size ≤ g
theorem GrwU.refl (w : World) (v : Value) : GrwU w w v v := ⟨⟨rfl, rfl, rfl, Nat.le_refl _, fun _ _ _ => rfl⟩, fun _ h => .inl h⟩
theorem GrwU.trans {w w1 w2 : World} {v v1 v2 : Value} (h : GrwU w w1 v v1) (k : GrwU w1 w2 v1 v2) : GrwU w w2 v v2 :=
  ⟨⟨k.g.os.trans h.g.os, k.g.tape.trans h.g.tape, k.g.output.trans h.g.output, Nat.le_trans h.g.size k.g.size, fun j hj hn => (k.g.block j (Nat.lt_of_lt_of_le hj h.g.size) (fun e => by
    rcases h.b j e.symm with h1 | h1
    · exact hn h1.symm
    · omega)).trans (h.g.block j hj hn)⟩, fun g e => by
    rcases k.b g e with h1 | h1
    · exact h.b g h1
    · exact .inr (Nat.le_trans h.g.size h1)⟩
theorem GrwU.below {w w1 : World} (v : Value) (h : Below w.heap.size w w1) : GrwU w w1 v v := ⟨⟨h.os, h.tape, h.output, h.size, fun j hj _ => h.block j hj⟩, fun _ e => .inl e⟩
theorem two_setU {w : World} {k : Nat} {T : TypeId} {c0 c1 u v : Value} (hz : w.heap[k]? = some (.cells #[c0, c1] T (0, 0))) : ((w.setCell ⟨k, 0, none⟩ u).setCell ⟨k, 1, none⟩ v).heap[k]? = some (.cells #[u, v] T (0, 0)) := by
  have h1 : (w.setCell ⟨k, 0, none⟩ u).heap[k]? = some (.cells #[u, c1] T (0, 0)) := by rw [blk_set hz]; rfl
  rw [blk_set h1]; rfl
theorem below_twoU {B k : Nat} {a w : World} (h : Below B a w) (hk : B ≤ k) (u v : Value) : Below B a ((w.setCell ⟨k, 0, none⟩ u).setCell ⟨k, 1, none⟩ v) := (h.setCell (p := ⟨k, 0, none⟩) hk u).setCell (p := ⟨k, 1, none⟩) hk v
theorem one_U (a b c d : Int) : ∀ v ∈ ([.int .u64 a, .int .u64 b, .int .i64 c, .int .i64 d] : List Value), v.oneCell' = true := fun v hv => by
  simp only [List.mem_cons, List.not_mem_nil, or_false] at hv
  rcases hv with h | h | h | h <;> rw [h] <;> rfl
theorem grw_appU {W0 W1 w11 : World} {A A' : Option Addr} {n n' m c c' : Nat} (h : GrwU W0 W1 (.slice A n c) (.slice A n c)) (hg : W1.grownBy w11 (Value.slice A n c).ownBlock) (hn : n' = m)
    (hb : (Value.slice A' m c').ownBlock = (Value.slice A n c).ownBlock ∨ (Value.slice A' m c').ownBlock = some W1.heap.size) : GrwU W0 w11 (.slice A n c) (.slice A' n' c') := by
  subst hn
  refine h.trans ⟨hg, fun g e => ?_⟩
  rcases hb with h1 | h1
  · exact .inl (h1 ▸ e)
  · rw [h1] at e; injection e with e; exact .inr (by omega)
theorem step_appU {P : Program} {w : World} {ops : Array Oper} {o : Oper} {a : Act} {K : Act → World → Prop} {Q : Exit → Act → World → Prop} {E : Prop} (hgd : o.guard = none) (s x : Operand) (t : TypeId)
    (ho : o.op = .call { callee := .builtin .append, args := #[s, x], argTypes := #[t, t] }) (v u : Value) (hs : a.eval s = v) (hx : a.eval x = u) (v' : Value) (w' : World)
    (hr : (Builtin.append_ #[t, t] o.type #[v, u]).run P w = .ok v' w') (hK : K (a.put o.dst v') w') :
    if Region.wanted o (yielded ops a.tmps) = true then Oper.wp P o a w K Q else E := by
  rw [if_pos (by simp [Region.wanted, hgd])]
  unfold Oper.wp execOp
  simp only [ho, resolve, invoke, builtin, Sem.run_bind, Sem.run_pure, Result.andThen_ok, List.map_toArray, List.map_cons, List.map_nil, hs, hx, hr]
  exact hK
def RetA (bits : Nat) (id : Pth → Int) (base : Nat) (W : World) (v : Value) (l : List Pth) (e : Ending) (w' : World) : Prop :=
  ∃ A cap, e = .returned (.slice A l.length cap) ∧ w'.ownsRow base 138 4 (.slice A l.length cap) l.length (rowAllU bits id l) ∧ GrwU W w' v (.slice A l.length cap)
theorem RetA.cast {bits : Nat} {id : Pth → Int} {base : Nat} {W : World} {v : Value} {l l' : List Pth} {e : Ending} {w' : World} (h : l = l') (k : RetA bits id base W v l e w') : RetA bits id base W v l' e w' := h ▸ k
set_option maxRecDepth 100000 in
theorem info_preA : (Try.prog.info? 138).map (fun i => (i.zero, i.size, i.bytes)) = some (some (.agg #[.int .u64 0, .int .u64 0, .int .i64 0, .int .i64 0]), 4, 32) := by kernel_rfl
theorem ix_childU (u v : Value) (x : Bool) (w : World) : (Instr.index 135 (.agg #[u, v]) (.int .i64 ((ixU x : Nat) : Int))).run Try.prog w = .ok (if x = true then v else u) w := by cases x <;> kernel_rfl
theorem frz_U {w : World} {k : Nat} {cs : Array Value} {T : TypeId} (h : w.heap[k]? = some (.cells cs T (0, 0))) (j : Nat) : w.frozen? ⟨k, j, none⟩ = false := by simp [World.frozen?, h]
set_option maxRecDepth 100000 in
set_option maxHeartbeats 60000000 in
theorem ut_appNil (X : Nat) (A : Option Addr) (n c : Nat) (a b : Int) (z : Int) (w : World) : Calls Try.prog 69 #[.pointer (some ⟨X, 0, none⟩), .slice A n c, .pointer none, .agg #[.int .u64 a, .int .u64 b], .int .i64 z] w (RetX (.slice A n c) w) := by
  go_enter Try.func69, Try.ntmps69
  go_wp2
  go_ret
  exact ⟨rfl, (Below.refl _ w).alloc (Nat.le_refl _) _⟩
theorem own_le {w : World} {base : Nat} {v : Value} {n : Nat} {xs : List Value} (h : w.ownsRow base 138 4 v n xs) : ∀ g, v.ownBlock = some g → base ≤ g ∧ g < w.heap.size := fun g e => World.ownsRow.lt h g e
theorem lv_noneU {A : Pth → Option Nat} {c : Pth → Nat} {p : Pth} (h : c p = 0) : ptU (lvU A c p) = .pointer none := by unfold lvU; rw [if_neg (by omega)]; rfl
set_option maxRecDepth 100000 in
set_option maxHeartbeats 60000000 in
theorem ut_app {wb : World} {X bits N : Nat} {A : Pth → Option Nat} {c : Pth → Nat} {th : Pth → Bool} {id : Pth → Int} (hT : TrieM wb X bits A c th id N) (hsh : ∀ p, 0 < c p → p.length ≤ bits) (hb8 : bits ≤ 128) :
    ∀ (d : Nat) (p : Pth), p.length + d = bits + 1 → ∀ (W : World) (Ar : Option Addr) (cap : Nat) (l : List Pth), Below wb.heap.size wb W → W.ownsRow wb.heap.size 138 4 (.slice Ar l.length cap) l.length (rowAllU bits id l) → l.length + (allU th c d p).length ≤ 100000 →
      Calls Try.prog 69 #[.pointer (some ⟨X, 0, none⟩), .slice Ar l.length cap, ptU (lvU A c p), .agg #[.int .u64 (hi (pvU bits p)), .int .u64 (lo (pvU bits p))], .int .i64 (p.length : Int)] W (RetA bits id wb.heap.size W (.slice Ar l.length cap) (l ++ allU th c d p)) := by
  intro d
  induction d with
  | zero =>
    intro p hp W Ar cap l hB hO _
    have hc : c p = 0 := by
      rcases Nat.eq_zero_or_pos (c p) with h | h
      · exact h
      · have := hsh p h; omega
    rw [lv_noneU hc]
    refine (ut_appNil X Ar _ cap _ _ _ W).mono ?_
    rintro e w' ⟨rfl, hb⟩
    rw [show allU th c 0 p = [] from rfl, List.append_nil]
    exact ⟨Ar, cap, rfl, own_belowU hO hb, GrwU.below _ hb⟩
  | succ d ih =>
    intro p hp W Ar cap l hB hO hlen
    rcases Nat.eq_zero_or_pos (c p) with hc | hc
    · rw [lv_noneU hc]
      refine (ut_appNil X Ar _ cap _ _ _ W).mono ?_
      rintro e w' ⟨rfl, hb⟩
      rw [show allU th c (d + 1) p = [] by unfold allU; rw [if_pos hc], List.append_nil]
      exact ⟨Ar, cap, rfl, own_belowU hO hb, GrwU.below _ hb⟩
    · have hpl := hsh p hc
      obtain ⟨b, hb⟩ := hT.has p hc
      have e1 : ptU (lvU A c p) = .pointer (some ⟨b, 0, none⟩) := by unfold lvU; rw [if_pos hc, hb]; rfl
      have hall : allU th c (d + 1) p = (if th p = true then [p] else []) ++ (allU th c d (p ++ [false]) ++ allU th c d (p ++ [true])) := by
        show (if c p = 0 then _ else _) = _
        rw [if_neg (by omega)]
      rw [e1, hall]
      rw [hall] at hlen
      simp only [List.length_append] at hlen
      obtain ⟨W0, hW0⟩ : ∃ x, x = W.alloc (.cells #[.int .u64 (hi (pvU bits p)), .int .u64 (lo (pvU bits p))] 29) := ⟨_, rfl⟩
      have HW0 := Lib.hid hW0
      have b0 : Below W.heap.size W W0 := by rw [hW0]; exact (Below.refl _ W).alloc (Nat.le_refl _) _
      have HV0 : Hid (W0.heap[W.heap.size]? = some (.cells #[.int .u64 (hi (pvU bits p)), .int .u64 (lo (pvU bits p))] 29 (0, 0))) := Lib.hid (by rw [hW0]; exact heap_alloc_new _ _)
      have HW0s : Hid (W.heap.size < W0.heap.size) := Lib.hid (heap_ltU HV0.out)
      have HB0 : Hid (Below wb.heap.size wb W0) := Lib.hid (hB.trans (b0.mono hB.size))
      have HR0 : Hid (W0.ownsRow wb.heap.size 138 4 (.slice Ar l.length cap) l.length (rowAllU bits id l)) := Lib.hid (own_belowU hO b0)
      have HNK : Hid (∀ g, (Value.slice Ar l.length cap).ownBlock = some g → ¬ g = W.heap.size) := Lib.hid fun g e h => by have := (own_le hO g e).2; omega
      have hTM := Lib.hid hT
      have GW0 : Hid (GrwU W W0 (.slice Ar l.length cap) (.slice Ar l.length cap)) := Lib.hid (GrwU.below _ b0)
      have T0 := hT.below HB0.out
      have nb := T0.node p b hb
      have n0 : W0.cell? ⟨b, 0, none⟩ = some (ptU (lvU A c (p ++ [false]))) := blk_cell nb 0 _ rfl
      have n1 : W0.cell? ⟨b, 1, none⟩ = some (ptU (lvU A c (p ++ [true]))) := blk_cell nb 1 _ rfl
      have n3 : W0.cell? ⟨b, 3, none⟩ = some (.bool (th p)) := blk_cell nb 3 _ rfl
      have n4 : W0.cell? ⟨b, 4, none⟩ = some (.int .i64 (id p)) := blk_cell nb 4 _ rfl
      have v0 : W0.cell? ⟨W.heap.size, 0, none⟩ = some (.int .u64 (hi (pvU bits p))) := blk_cell HV0.out 0 _ rfl
      have v1 : W0.cell? ⟨W.heap.size, 1, none⟩ = some (.int .u64 (lo (pvU bits p))) := blk_cell HV0.out 1 _ rfl
      have HBN := Lib.hid hb
      have HLEN := Lib.hid hlen
      have IH := Lib.hid ih
      have HL0 : Hid (l.length + (if th p = true then [p] else []).length + ((allU th c d (p ++ [false])).length + (allU th c d (p ++ [true])).length) ≤ 100000) := Lib.hid (by omega)
      obtain ⟨i0, hi0, hz0, hy1, hy2⟩ := info_partsU info_preA
      have HI0 := Lib.hid hi0
      have HZ0 := Lib.hid hz0
      have HY1 := Lib.hid hy1
      have HY2 := Lib.hid hy2
      have hbb : (bits : Int) ≤ 128 := by omega
      have hpi : (p.length : Int) ≤ (bits : Int) := by omega
      clear hi0 hz0 hy1 hy2 ih hlen hb nb T0 e1 hall hT hB hO b0 hc hsh
      rw [hW0] at n0 n1 n3 n4 v0 v1
      clear hW0
      cases ht : th p with
      | false =>
        have HLL : Hid (l.length + ((allU th c d (p ++ [false])).length + (allU th c d (p ++ [true])).length) ≤ 100000) := Lib.hid (by have h := HL0.out; rw [if_neg (by rw [ht]; simp)] at h; simpa using h)
        rw [ht] at n3
        go_enter Try.func69, Try.ntmps69
        go_wp2_with fail
        rw [← HW0.out]
        go_loopw [35, 1] (fun i s1 W' => ∃ (j : Nat) (Aj : Option Addr) (cj : Nat) (lj : List Pth), j ≤ 2 ∧ i = .int .i64 (j : Int) ∧ lj = (l ++ ((if 1 ≤ j then allU th c d (p ++ [false]) else []) ++ (if 2 ≤ j then allU th c d (p ++ [true]) else []))) ∧ s1 = .slice Aj lj.length cj ∧ W'.ownsRow wb.heap.size 138 4 (.slice Aj lj.length cj) lj.length (rowAllU bits id lj) ∧ GrwU W0 W' (.slice Ar l.length cap) (.slice Aj lj.length cj)) (fun i _ _ => 2 - (intOf i).toNat)
        case atStart => exact ⟨0, _, _, l, by omega, rfl, by simp, rfl, HR0.out, (Lib.hid (GrwU.refl W0 _)).out⟩
        case round =>
          obtain ⟨j, Aj, cj, lj, hj, rfl, hlj, rfl, hO, hG⟩ := hrel
          have HO := Lib.hid hO
          have HG := Lib.hid hG
          have HLJ := Lib.hid hlj
          clear hO hG hlj
          have TB : Hid (Below wb.heap.size wb wr) := Lib.hid (HB0.out.grown HG.out.g HB0.out.size (fun k e => (own_le HR0.out k e).1))
          have TM := Lib.hid (hTM.out.below TB.out)
          have hkv := (HG.out.g.block W.heap.size HW0s.out (fun e => HNK.out _ e.symm rfl)).trans HV0.out
          have v0 := blk_cell hkv 0 _ rfl
          have v1 := blk_cell hkv 1 _ rfl
          have HKV := Lib.hid hkv
          have x0 : wr.cell? ⟨X, 0, none⟩ = some (.int .i64 bits) := blk_cell TM.out.box 0 _ rfl
          clear hkv
          by_cases hlt : j < 2
          · obtain ⟨x, hx, hnext⟩ : ∃ x : Bool, j = ixU x ∧ (l ++ ((if 1 ≤ (j + 1) then allU th c d (p ++ [false]) else []) ++ (if 2 ≤ (j + 1) then allU th c d (p ++ [true]) else []))) = lj ++ allU th c d (p ++ [x]) := by
              rcases (show j = 0 ∨ j = 1 by omega) with rfl | rfl
              · exact ⟨false, rfl, by rw [HLJ.out]; simp⟩
              · exact ⟨true, rfl, by rw [HLJ.out]; simp⟩
            have HX := Lib.hid hnext
            have KOF : Hid (∀ w : World, Calls Try.prog 91 #[.int .u64 (j : Int)] w (RetV (ixU x) w)) := Lib.hid fun w => by rw [hx]; exact of_any (ixU x) (by cases x <;> decide) w
            have HXX := Lib.hid hx
            clear hnext hx
            have hix : ∀ W2 : World, (Instr.index 135 (.agg #[ptU (lvU A c (p ++ [false])), ptU (lvU A c (p ++ [true]))]) (.int .i64 (j : Int))).run Try.prog W2 = .ok (ptU (lvU A c (p ++ [x]))) W2 := fun W2 => by
              rw [HXX.out, ix_childU]
              cases x <;> rfl
            go_wp2_with fail
            have KLF : Hid (∀ w : World, Calls Try.prog 90 #[.agg #[.int .u64 (hi (ixU x)), .int .u64 (lo (ixU x))], .int .i64 ((bits : Int) - 1 - (p.length : Int))] w (RetV (vleft (ixU x) (bits - 1 - p.length)) w)) := Lib.hid fun w => by
              have h := left_any (ixU x) ((bits : Int) - 1 - (p.length : Int)) (Nat.lt_of_le_of_lt (show ixU x ≤ 1 by cases x <;> decide) (by decide)) (by omega) w
              rw [show ((bits : Int) - 1 - (p.length : Int)).toNat = bits - 1 - p.length by omega] at h
              exact h
            have KOR : Hid (∀ w : World, Calls Try.prog 92 #[.agg #[.int .u64 (hi (pvU bits p)), .int .u64 (lo (pvU bits p))], .agg #[.int .u64 (hi (vleft (ixU x) (bits - 1 - p.length))), .int .u64 (lo (vleft (ixU x) (bits - 1 - p.length)))]] w (RetV (pvU bits (p ++ [x])) w)) := Lib.hid fun w => by rw [pvU_snoc]; exact or_any _ _ w
            have KIH : Hid (∀ w2 : World, Below wr.heap.size wr w2 → Calls Try.prog 69 #[.pointer (some ⟨X, 0, none⟩), .slice Aj lj.length cj, ptU (lvU A c (p ++ [x])), .agg #[.int .u64 (hi (pvU bits (p ++ [x]))), .int .u64 (lo (pvU bits (p ++ [x])))], .int .i64 ((p.length : Int) + 1)] w2 (RetA bits id wb.heap.size w2 (.slice Aj lj.length cj) (lj ++ allU th c d (p ++ [x])))) := Lib.hid fun w2 h => by
              have hlb : lj.length + (allU th c d (p ++ [x])).length ≤ 100000 := by
                rw [← List.length_append, ← HX.out]
                have h1 : (if 1 ≤ j + 1 then allU th c d (p ++ [false]) else []).length ≤ (allU th c d (p ++ [false])).length := by split <;> simp
                have h2 : (if 2 ≤ j + 1 then allU th c d (p ++ [true]) else []).length ≤ (allU th c d (p ++ [true])).length := by split <;> simp
                have h3 := HLL.out
                simp only [List.length_append] at h1 h2 h3 ⊢
                omega
              have h3 := IH.out (p ++ [x]) (by simp; omega) w2 Aj cj lj (TB.out.trans (h.mono TB.out.size)) (own_belowU HO.out h) hlb
              rw [show (((p ++ [x]).length : Nat) : Int) = (p.length : Int) + 1 by simp] at h3
              exact h3
            have KX : Hid (∀ w2, Below wr.heap.size wr w2 → w2.cell? ⟨X, 0, none⟩ = some (.int .i64 bits)) := Lib.hid fun w2 h => blk_cell (TM.out.below h).box 0 _ rfl
            have K1 : Hid (∀ w2, Below wr.heap.size wr w2 → Calls Try.prog 91 #[.int .u64 (IntKind.u64.wrap (j : Int))] w2 fun e w3 => e = .returned (.agg #[.int .u64 (hi (ixU x)), .int .u64 (lo (ixU x))]) ∧ Below w2.heap.size w2 w3 ∧ Below wr.heap.size wr w3 ∧ w3.cell? ⟨X, 0, none⟩ = some (.int .i64 bits)) := Lib.hid fun w2 h => by
              have e : IntKind.u64.wrap (j : Int) = (j : Int) := by rw [HXX.out]; cases x <;> rfl
              rw [e]
              refine (KOF.out w2).mono ?_
              rintro e w3 ⟨rfl, h3⟩
              have h4 := h.trans (h3.mono h.size)
              exact ⟨rfl, h3, h4, KX.out _ h4⟩
            have K2 : Hid (∀ w2, Below wr.heap.size wr w2 → Calls Try.prog 90 #[.agg #[.int .u64 (hi (ixU x)), .int .u64 (lo (ixU x))], .int .i64 (IntKind.i64.wrap (IntKind.i64.wrap ((bits : Int) - 1) - (p.length : Int)))] w2 fun e w3 => e = .returned (.agg #[.int .u64 (hi (vleft (ixU x) (bits - 1 - p.length))), .int .u64 (lo (vleft (ixU x) (bits - 1 - p.length)))]) ∧ Below w2.heap.size w2 w3 ∧ Below wr.heap.size wr w3 ∧ w3.cell? ⟨X, 0, none⟩ = some (.int .i64 bits)) := Lib.hid fun w2 h => by
              have e : IntKind.i64.wrap (IntKind.i64.wrap ((bits : Int) - 1) - (p.length : Int)) = (bits : Int) - 1 - (p.length : Int) := by simp only [IntKind.wrap_i64]; omega
              rw [e]
              refine (KLF.out w2).mono ?_
              rintro e w3 ⟨rfl, h3⟩
              have h4 := h.trans (h3.mono h.size)
              exact ⟨rfl, h3, h4, KX.out _ h4⟩
            have x0d := KX.out _ (Below.refl _ wr).drew
            have hbd : Below wr.heap.size wr (wr.alloc (Obj.cells #[.int .u64 0, .int .u64 0] 29)).drew := ((Below.refl _ wr).alloc (Nat.le_refl _) _).drew
            have hzd : (wr.alloc (Obj.cells #[.int .u64 0, .int .u64 0] 29)).drew.heap[wr.heap.size]? = some (Obj.cells #[.int .u64 0, .int .u64 0] 29 (0, 0)) := heap_alloc_new wr _
            have x0e := KX.out _ hbd
            clear x0
            have K1c : Hid (∀ (w2 : World) (k : Nat), Below wr.heap.size wr w2 → w2.heap[k]? = some (Obj.cells #[.int .u64 0, .int .u64 0] 29 (0, 0)) → wr.heap.size ≤ k → Calls Try.prog 91 #[.int .u64 (IntKind.u64.wrap (j : Int))] w2 fun e w3 => e = .returned (.agg #[.int .u64 (hi (ixU x)), .int .u64 (lo (ixU x))]) ∧ Below wr.heap.size wr w3 ∧ w3.cell? ⟨X, 0, none⟩ = some (.int .i64 bits) ∧ w3.heap[k]? = some (Obj.cells #[.int .u64 0, .int .u64 0] 29 (0, 0)) ∧ wr.heap.size ≤ k) := Lib.hid fun w2 k h hk hle => (K1.out w2 h).mono fun e w3 ⟨h1, h2, h3, h4⟩ => ⟨h1, h3, h4, (h2.block _ (heap_ltU hk)).trans hk, hle⟩
            have K1b : Hid (∀ w2, Below wr.heap.size wr w2 → Calls Try.prog 91 #[.int .u64 (IntKind.u64.wrap (j : Int))] (w2.alloc (Obj.cells #[.int .u64 0, .int .u64 0] 29)) fun e w3 => e = .returned (.agg #[.int .u64 (hi (ixU x)), .int .u64 (lo (ixU x))]) ∧ Below wr.heap.size wr w3 ∧ w3.cell? ⟨X, 0, none⟩ = some (.int .i64 bits) ∧ w3.heap[w2.heap.size]? = some (Obj.cells #[.int .u64 0, .int .u64 0] 29 (0, 0)) ∧ wr.heap.size ≤ w2.heap.size) := Lib.hid fun w2 h => K1c.out _ _ (below_alloc h _) (heap_alloc_new _ _) h.size
            have K2c : Hid (∀ (w2 : World) (k : Nat), Below wr.heap.size wr w2 → w2.heap[k]? = some (Obj.cells #[.int .u64 0, .int .u64 0] 29 (0, 0)) → wr.heap.size ≤ k → Calls Try.prog 90 #[.agg #[.int .u64 (hi (ixU x)), .int .u64 (lo (ixU x))], .int .i64 (IntKind.i64.wrap (IntKind.i64.wrap ((bits : Int) - 1) - (p.length : Int)))] w2 fun e w3 => e = .returned (.agg #[.int .u64 (hi (vleft (ixU x) (bits - 1 - p.length))), .int .u64 (lo (vleft (ixU x) (bits - 1 - p.length)))]) ∧ Below wr.heap.size wr w3 ∧ w3.cell? ⟨X, 0, none⟩ = some (.int .i64 bits) ∧ w3.heap[k]? = some (Obj.cells #[.int .u64 0, .int .u64 0] 29 (0, 0)) ∧ wr.heap.size ≤ k) := Lib.hid fun w2 k h hk hle => (K2.out w2 h).mono fun e w3 ⟨h1, h2, h3, h4⟩ => ⟨h1, h3, h4, (h2.block _ (heap_ltU hk)).trans hk, hle⟩
            have K2b : Hid (∀ w2, Below wr.heap.size wr w2 → Calls Try.prog 90 #[.agg #[.int .u64 (hi (ixU x)), .int .u64 (lo (ixU x))], .int .i64 (IntKind.i64.wrap (IntKind.i64.wrap ((bits : Int) - 1) - (p.length : Int)))] (w2.alloc (Obj.cells #[.int .u64 0, .int .u64 0] 29)) fun e w3 => e = .returned (.agg #[.int .u64 (hi (vleft (ixU x) (bits - 1 - p.length))), .int .u64 (lo (vleft (ixU x) (bits - 1 - p.length)))]) ∧ Below wr.heap.size wr w3 ∧ w3.cell? ⟨X, 0, none⟩ = some (.int .i64 bits) ∧ w3.heap[w2.heap.size]? = some (Obj.cells #[.int .u64 0, .int .u64 0] 29 (0, 0)) ∧ wr.heap.size ≤ w2.heap.size) := Lib.hid fun w2 h => K2c.out _ _ (below_alloc h _) (heap_alloc_new _ _) h.size
            go_region_with (first
              | (go_at_call 91; (with_reducible refine (K1b.out _ (by first | assumption | exact (Below.refl _ _).drew)).mono ?_); rintro en v1 ⟨rfl, hw1, hx1, hz, hle⟩; have z0 := blk_cell hz 0 _ rfl; have z1 := blk_cell hz 1 _ rfl; have f0 := frz_U hz 0; have f1 := frz_U hz 1)
              | (go_at_call 91; (with_reducible refine (K1c.out _ _ (by first | assumption | exact (Below.refl _ _).drew) (by assumption) (by first | assumption | exact Nat.le_refl _)).mono ?_); rintro en v1 ⟨rfl, hw1, hx1, hz, hle⟩; have z0 := blk_cell hz 0 _ rfl; have z1 := blk_cell hz 1 _ rfl; have f0 := frz_U hz 0; have f1 := frz_U hz 1)
              | (go_at_call 91; (with_reducible refine (K1.out _ (by first | assumption | exact (Below.refl _ _).drew)).mono ?_); rintro en v1 ⟨rfl, hv1, hw1, hx1⟩; have hx2 := KX.out _ (below_alloc hw1 (Obj.cells #[.int .u64 0, .int .u64 0] 29)))
              | (go_at_call 90; (with_reducible refine (K2b.out _ (by first | assumption | exact (Below.refl _ _).drew)).mono ?_); rintro en v2 ⟨rfl, hw2, hx3, hz2, hle2⟩; have z2 := blk_cell hz2 0 _ rfl; have z3 := blk_cell hz2 1 _ rfl; have f2 := frz_U hz2 0; have f3 := frz_U hz2 1)
              | (go_at_call 90; (with_reducible refine (K2c.out _ _ (by first | assumption | exact (Below.refl _ _).drew) (by assumption) (by first | assumption | exact Nat.le_refl _)).mono ?_); rintro en v2 ⟨rfl, hw2, hx3, hz2, hle2⟩; have z2 := blk_cell hz2 0 _ rfl; have z3 := blk_cell hz2 1 _ rfl; have f2 := frz_U hz2 0; have f3 := frz_U hz2 1)
              | (go_at_call 90; (with_reducible refine (K2.out _ (by first | assumption | exact (Below.refl _ _).drew)).mono ?_); rintro en v2 ⟨rfl, hv2, hw2, hx3⟩; have hx4 := KX.out _ (below_alloc hw2 (Obj.cells #[.int .u64 0, .int .u64 0] 29))))
            all_goals first
              | (obtain ⟨w9, hw9⟩ : ∃ y9 : World, y9 = (v2.setCell ⟨v1.heap.size, 0, none⟩ (.int .u64 (hi (vleft (ixU x) (bits - 1 - p.length))))).setCell ⟨v1.heap.size, 1, none⟩ (.int .u64 (lo (vleft (ixU x) (bits - 1 - p.length)))) := ⟨_, rfl⟩; have z9 := two_setU (k := v1.heap.size) hz2 (u := (.int .u64 (hi (vleft (ixU x) (bits - 1 - p.length))))) (v := (.int .u64 (lo (vleft (ixU x) (bits - 1 - p.length))))); have q9 := below_twoU hw2 hle2 (.int .u64 (hi (vleft (ixU x) (bits - 1 - p.length)))) (.int .u64 (lo (vleft (ixU x) (bits - 1 - p.length)))); rw [← hw9] at z9 q9 ⊢; have q0 := blk_cell z9 0 _ rfl; have q1 := blk_cell z9 1 _ rfl; clear hw9 z9)
              | (obtain ⟨w9, hw9⟩ : ∃ y9 : World, y9 = (v2.setCell ⟨wr.heap.size, 0, none⟩ (.int .u64 (hi (vleft (ixU x) (bits - 1 - p.length))))).setCell ⟨wr.heap.size, 1, none⟩ (.int .u64 (lo (vleft (ixU x) (bits - 1 - p.length)))) := ⟨_, rfl⟩; have z9 := two_setU (k := wr.heap.size) hz2 (u := (.int .u64 (hi (vleft (ixU x) (bits - 1 - p.length))))) (v := (.int .u64 (lo (vleft (ixU x) (bits - 1 - p.length))))); have q9 := below_twoU hw2 hle2 (.int .u64 (hi (vleft (ixU x) (bits - 1 - p.length)))) (.int .u64 (lo (vleft (ixU x) (bits - 1 - p.length)))); rw [← hw9] at z9 q9 ⊢; have q0 := blk_cell z9 0 _ rfl; have q1 := blk_cell z9 1 _ rfl; clear hw9 z9)
              | (obtain ⟨w9, hw9⟩ : ∃ y9 : World, y9 = v2.alloc (Obj.cells #[.int .u64 (hi (vleft (ixU x) (bits - 1 - p.length))), .int .u64 (lo (vleft (ixU x) (bits - 1 - p.length)))] 29) := ⟨_, rfl⟩; have z9 := heap_alloc_new v2 (Obj.cells #[.int .u64 (hi (vleft (ixU x) (bits - 1 - p.length))), .int .u64 (lo (vleft (ixU x) (bits - 1 - p.length)))] 29); have q9 := below_alloc hw2 (Obj.cells #[.int .u64 (hi (vleft (ixU x) (bits - 1 - p.length))), .int .u64 (lo (vleft (ixU x) (bits - 1 - p.length)))] 29); rw [← hw9] at z9 q9 ⊢; have q0 := blk_cell z9 0 _ rfl; have q1 := blk_cell z9 1 _ rfl; clear hw9 z9)
            all_goals
              have Q9 := Lib.hid q9
              have hk9 := (Q9.out.block W.heap.size (heap_ltU HKV.out)).trans HKV.out
              have u0 := blk_cell hk9 0 _ rfl
              have u1 := blk_cell hk9 1 _ rfl
              clear hk9 q9
              go_wp2_with fail
              refine (KOR.out _).mono ?_
              rintro e w10 ⟨rfl, h10⟩
              have Q10 := Lib.hid (Q9.out.trans (h10.mono Q9.out.size))
              clear h10 u0 u1 q0 q1
              go_wp2_with fail
              refine (KIH.out w10 Q10.out).mono ?_
              rintro e w11 ⟨A2, c2, rfl, ho2, hg2⟩
              have O2 := Lib.hid ho2
              have G2 := Lib.hid hg2
              clear ho2 hg2
              go_wp2_with fail
              go_roundw
              case rel => exact ⟨j + 1, A2, c2, lj ++ allU th c d (p ++ [x]), by omega, by simp, HX.out.symm, by rw [List.length_append], O2.out, HG.out.trans ((GrwU.below _ Q10.out).trans G2.out)⟩
              case measure => simp [intOf]; omega
          · obtain rfl : j = 2 := by omega
            go_wp2_with fail
            go_ret
            exact RetA.cast (by rw [HLJ.out]; simp) ⟨Aj, cj, rfl, HO.out, GW0.out.trans HG.out⟩
      | true =>
        have HLL : Hid ((l ++ [p]).length + ((allU th c d (p ++ [false])).length + (allU th c d (p ++ [true])).length) ≤ 100000) := Lib.hid (by have h := HL0.out; rw [if_pos ht] at h; simp only [List.length_append]; exact h)
        rw [ht] at n3
        have hln : (l ++ [p]).length = l.length + 1 := by simp
        obtain ⟨W1, hW1⟩ : ∃ x, x = (W0.alloc (Obj.cells #[.int .u64 (hi (pvU bits p)), .int .u64 (lo (pvU bits p)), .int .i64 (p.length : Int), .int .i64 (id p)] 138)).drew := ⟨_, rfl⟩
        have z1 : W1.heap[W0.heap.size]? = some (Obj.cells #[.int .u64 (hi (pvU bits p)), .int .u64 (lo (pvU bits p)), .int .i64 (p.length : Int), .int .i64 (id p)] 138 (0, 0)) := by rw [hW1]; exact heap_alloc_new W0 _
        have bW1 : Below W0.heap.size W0 W1 := by rw [hW1]; exact (below_alloc (Below.refl _ W0) _).drew
        obtain ⟨v11, w11, hrun, hO11, hg11, -, hn11⟩ := run_append_own_at (P := Try.prog) (w := W1) wb.heap.size 71 71 138 i0 _ 4 32 Try.underlying71 HI0.out HZ0.out HY1.out HY2.out rfl (by decide) (.slice Ar l.length cap) l.length _ (own_belowU HR0.out bW1) ⟨W0.heap.size, 0, none⟩ 1 1 [.int .u64 (hi (pvU bits p)), .int .u64 (lo (pvU bits p)), .int .i64 (p.length : Int), .int .i64 (id p)] rfl (World.news_of_block z1) (one_U _ _ _ _) (by have := HLEN.out; unfold maxLen; omega) (by have := HLEN.out; omega) (Nat.le_trans HB0.out.size bW1.size)
        obtain ⟨A11, c11, rfl⟩ := own_shapeU hO11
        have G11 : Hid (GrwU W0 w11 (.slice Ar l.length cap) (.slice A11 (l ++ [p]).length c11)) := Lib.hid (grw_appU (GrwU.below _ bW1) hg11 hln hn11)
        have O11 : Hid (w11.ownsRow wb.heap.size 138 4 (.slice A11 (l ++ [p]).length c11) (l ++ [p]).length (rowAllU bits id (l ++ [p]))) := Lib.hid (by rw [hln, rowAllU_app]; exact hO11)
        have T11 : Below wb.heap.size wb w11 := HB0.out.grown G11.out.g HB0.out.size (fun k e => (own_le HR0.out k e).1)
        have nd := (hTM.out.below T11).node p b HBN.out
        have m0 : w11.cell? ⟨b, 0, none⟩ = some (ptU (lvU A c (p ++ [false]))) := blk_cell nd 0 _ rfl
        have m1 : w11.cell? ⟨b, 1, none⟩ = some (ptU (lvU A c (p ++ [true]))) := blk_cell nd 1 _ rfl
        rw [hW1] at hrun
        have HRUN := Lib.hid hrun
        clear hW1 hrun hO11 hg11 hn11 nd T11 z1 bW1
        go_enter Try.func69, Try.ntmps69
        go_wp2_with fail
        rw [← HW0.out] at n0 n1 n3 n4 v0 v1 ⊢
        have n4d : W0.drew.cell? ⟨b, 4, none⟩ = some (.int .i64 (id p)) := n4
        have v0d : W0.drew.cell? ⟨W.heap.size, 0, none⟩ = some (.int .u64 (hi (pvU bits p))) := v0
        have v1d : W0.drew.cell? ⟨W.heap.size, 1, none⟩ = some (.int .u64 (lo (pvU bits p))) := v1
        go_region_law (refine step_appU rfl (.tmp 21) (.tmp 29) 71 rfl _ _ (by simp [Act.eval]) (by simp [Act.eval]) (.slice A11 (l.length + 1) c11) w11 HRUN.out ?_)
        all_goals go_wp2_with fail
        all_goals
          go_loopw [35, 1] (fun i s1 W' => ∃ (j : Nat) (Aj : Option Addr) (cj : Nat) (lj : List Pth), j ≤ 2 ∧ i = .int .i64 (j : Int) ∧ lj = ((l ++ [p]) ++ ((if 1 ≤ j then allU th c d (p ++ [false]) else []) ++ (if 2 ≤ j then allU th c d (p ++ [true]) else []))) ∧ s1 = .slice Aj lj.length cj ∧ W'.ownsRow wb.heap.size 138 4 (.slice Aj lj.length cj) lj.length (rowAllU bits id lj) ∧ GrwU W0 W' (.slice Ar l.length cap) (.slice Aj lj.length cj)) (fun i _ _ => 2 - (intOf i).toNat)
          case atStart => exact ⟨0, _, _, (l ++ [p]), by omega, rfl, by simp, by rw [hln], O11.out, G11.out⟩
          case round =>
            obtain ⟨j, Aj, cj, lj, hj, rfl, hlj, rfl, hO, hG⟩ := hrel
            have HO := Lib.hid hO
            have HG := Lib.hid hG
            have HLJ := Lib.hid hlj
            clear hO hG hlj
            have TB : Hid (Below wb.heap.size wb wr) := Lib.hid (HB0.out.grown HG.out.g HB0.out.size (fun k e => (own_le HR0.out k e).1))
            have TM := Lib.hid (hTM.out.below TB.out)
            have hkv := (HG.out.g.block W.heap.size HW0s.out (fun e => HNK.out _ e.symm rfl)).trans HV0.out
            have v0 := blk_cell hkv 0 _ rfl
            have v1 := blk_cell hkv 1 _ rfl
            have HKV := Lib.hid hkv
            have x0 : wr.cell? ⟨X, 0, none⟩ = some (.int .i64 bits) := blk_cell TM.out.box 0 _ rfl
            clear hkv
            by_cases hlt : j < 2
            · obtain ⟨x, hx, hnext⟩ : ∃ x : Bool, j = ixU x ∧ ((l ++ [p]) ++ ((if 1 ≤ (j + 1) then allU th c d (p ++ [false]) else []) ++ (if 2 ≤ (j + 1) then allU th c d (p ++ [true]) else []))) = lj ++ allU th c d (p ++ [x]) := by
                rcases (show j = 0 ∨ j = 1 by omega) with rfl | rfl
                · exact ⟨false, rfl, by rw [HLJ.out]; simp⟩
                · exact ⟨true, rfl, by rw [HLJ.out]; simp⟩
              have HX := Lib.hid hnext
              have KOF : Hid (∀ w : World, Calls Try.prog 91 #[.int .u64 (j : Int)] w (RetV (ixU x) w)) := Lib.hid fun w => by rw [hx]; exact of_any (ixU x) (by cases x <;> decide) w
              have HXX := Lib.hid hx
              clear hnext hx
              have hix : ∀ W2 : World, (Instr.index 135 (.agg #[ptU (lvU A c (p ++ [false])), ptU (lvU A c (p ++ [true]))]) (.int .i64 (j : Int))).run Try.prog W2 = .ok (ptU (lvU A c (p ++ [x]))) W2 := fun W2 => by
                rw [HXX.out, ix_childU]
                cases x <;> rfl
              go_wp2_with fail
              have KLF : Hid (∀ w : World, Calls Try.prog 90 #[.agg #[.int .u64 (hi (ixU x)), .int .u64 (lo (ixU x))], .int .i64 ((bits : Int) - 1 - (p.length : Int))] w (RetV (vleft (ixU x) (bits - 1 - p.length)) w)) := Lib.hid fun w => by
                have h := left_any (ixU x) ((bits : Int) - 1 - (p.length : Int)) (Nat.lt_of_le_of_lt (show ixU x ≤ 1 by cases x <;> decide) (by decide)) (by omega) w
                rw [show ((bits : Int) - 1 - (p.length : Int)).toNat = bits - 1 - p.length by omega] at h
                exact h
              have KOR : Hid (∀ w : World, Calls Try.prog 92 #[.agg #[.int .u64 (hi (pvU bits p)), .int .u64 (lo (pvU bits p))], .agg #[.int .u64 (hi (vleft (ixU x) (bits - 1 - p.length))), .int .u64 (lo (vleft (ixU x) (bits - 1 - p.length)))]] w (RetV (pvU bits (p ++ [x])) w)) := Lib.hid fun w => by rw [pvU_snoc]; exact or_any _ _ w
              have KIH : Hid (∀ w2 : World, Below wr.heap.size wr w2 → Calls Try.prog 69 #[.pointer (some ⟨X, 0, none⟩), .slice Aj lj.length cj, ptU (lvU A c (p ++ [x])), .agg #[.int .u64 (hi (pvU bits (p ++ [x]))), .int .u64 (lo (pvU bits (p ++ [x])))], .int .i64 ((p.length : Int) + 1)] w2 (RetA bits id wb.heap.size w2 (.slice Aj lj.length cj) (lj ++ allU th c d (p ++ [x])))) := Lib.hid fun w2 h => by
                have hlb : lj.length + (allU th c d (p ++ [x])).length ≤ 100000 := by
                  rw [← List.length_append, ← HX.out]
                  have h1 : (if 1 ≤ j + 1 then allU th c d (p ++ [false]) else []).length ≤ (allU th c d (p ++ [false])).length := by split <;> simp
                  have h2 : (if 2 ≤ j + 1 then allU th c d (p ++ [true]) else []).length ≤ (allU th c d (p ++ [true])).length := by split <;> simp
                  have h3 := HLL.out
                  simp only [List.length_append] at h1 h2 h3 ⊢
                  omega
                have h3 := IH.out (p ++ [x]) (by simp; omega) w2 Aj cj lj (TB.out.trans (h.mono TB.out.size)) (own_belowU HO.out h) hlb
                rw [show (((p ++ [x]).length : Nat) : Int) = (p.length : Int) + 1 by simp] at h3
                exact h3
              have KX : Hid (∀ w2, Below wr.heap.size wr w2 → w2.cell? ⟨X, 0, none⟩ = some (.int .i64 bits)) := Lib.hid fun w2 h => blk_cell (TM.out.below h).box 0 _ rfl
              have K1 : Hid (∀ w2, Below wr.heap.size wr w2 → Calls Try.prog 91 #[.int .u64 (IntKind.u64.wrap (j : Int))] w2 fun e w3 => e = .returned (.agg #[.int .u64 (hi (ixU x)), .int .u64 (lo (ixU x))]) ∧ Below w2.heap.size w2 w3 ∧ Below wr.heap.size wr w3 ∧ w3.cell? ⟨X, 0, none⟩ = some (.int .i64 bits)) := Lib.hid fun w2 h => by
                have e : IntKind.u64.wrap (j : Int) = (j : Int) := by rw [HXX.out]; cases x <;> rfl
                rw [e]
                refine (KOF.out w2).mono ?_
                rintro e w3 ⟨rfl, h3⟩
                have h4 := h.trans (h3.mono h.size)
                exact ⟨rfl, h3, h4, KX.out _ h4⟩
              have K2 : Hid (∀ w2, Below wr.heap.size wr w2 → Calls Try.prog 90 #[.agg #[.int .u64 (hi (ixU x)), .int .u64 (lo (ixU x))], .int .i64 (IntKind.i64.wrap (IntKind.i64.wrap ((bits : Int) - 1) - (p.length : Int)))] w2 fun e w3 => e = .returned (.agg #[.int .u64 (hi (vleft (ixU x) (bits - 1 - p.length))), .int .u64 (lo (vleft (ixU x) (bits - 1 - p.length)))]) ∧ Below w2.heap.size w2 w3 ∧ Below wr.heap.size wr w3 ∧ w3.cell? ⟨X, 0, none⟩ = some (.int .i64 bits)) := Lib.hid fun w2 h => by
                have e : IntKind.i64.wrap (IntKind.i64.wrap ((bits : Int) - 1) - (p.length : Int)) = (bits : Int) - 1 - (p.length : Int) := by simp only [IntKind.wrap_i64]; omega
                rw [e]
                refine (KLF.out w2).mono ?_
                rintro e w3 ⟨rfl, h3⟩
                have h4 := h.trans (h3.mono h.size)
                exact ⟨rfl, h3, h4, KX.out _ h4⟩
              have x0d := KX.out _ (Below.refl _ wr).drew
              have hbd : Below wr.heap.size wr (wr.alloc (Obj.cells #[.int .u64 0, .int .u64 0] 29)).drew := ((Below.refl _ wr).alloc (Nat.le_refl _) _).drew
              have hzd : (wr.alloc (Obj.cells #[.int .u64 0, .int .u64 0] 29)).drew.heap[wr.heap.size]? = some (Obj.cells #[.int .u64 0, .int .u64 0] 29 (0, 0)) := heap_alloc_new wr _
              have x0e := KX.out _ hbd
              clear x0
              have K1c : Hid (∀ (w2 : World) (k : Nat), Below wr.heap.size wr w2 → w2.heap[k]? = some (Obj.cells #[.int .u64 0, .int .u64 0] 29 (0, 0)) → wr.heap.size ≤ k → Calls Try.prog 91 #[.int .u64 (IntKind.u64.wrap (j : Int))] w2 fun e w3 => e = .returned (.agg #[.int .u64 (hi (ixU x)), .int .u64 (lo (ixU x))]) ∧ Below wr.heap.size wr w3 ∧ w3.cell? ⟨X, 0, none⟩ = some (.int .i64 bits) ∧ w3.heap[k]? = some (Obj.cells #[.int .u64 0, .int .u64 0] 29 (0, 0)) ∧ wr.heap.size ≤ k) := Lib.hid fun w2 k h hk hle => (K1.out w2 h).mono fun e w3 ⟨h1, h2, h3, h4⟩ => ⟨h1, h3, h4, (h2.block _ (heap_ltU hk)).trans hk, hle⟩
              have K1b : Hid (∀ w2, Below wr.heap.size wr w2 → Calls Try.prog 91 #[.int .u64 (IntKind.u64.wrap (j : Int))] (w2.alloc (Obj.cells #[.int .u64 0, .int .u64 0] 29)) fun e w3 => e = .returned (.agg #[.int .u64 (hi (ixU x)), .int .u64 (lo (ixU x))]) ∧ Below wr.heap.size wr w3 ∧ w3.cell? ⟨X, 0, none⟩ = some (.int .i64 bits) ∧ w3.heap[w2.heap.size]? = some (Obj.cells #[.int .u64 0, .int .u64 0] 29 (0, 0)) ∧ wr.heap.size ≤ w2.heap.size) := Lib.hid fun w2 h => K1c.out _ _ (below_alloc h _) (heap_alloc_new _ _) h.size
              have K2c : Hid (∀ (w2 : World) (k : Nat), Below wr.heap.size wr w2 → w2.heap[k]? = some (Obj.cells #[.int .u64 0, .int .u64 0] 29 (0, 0)) → wr.heap.size ≤ k → Calls Try.prog 90 #[.agg #[.int .u64 (hi (ixU x)), .int .u64 (lo (ixU x))], .int .i64 (IntKind.i64.wrap (IntKind.i64.wrap ((bits : Int) - 1) - (p.length : Int)))] w2 fun e w3 => e = .returned (.agg #[.int .u64 (hi (vleft (ixU x) (bits - 1 - p.length))), .int .u64 (lo (vleft (ixU x) (bits - 1 - p.length)))]) ∧ Below wr.heap.size wr w3 ∧ w3.cell? ⟨X, 0, none⟩ = some (.int .i64 bits) ∧ w3.heap[k]? = some (Obj.cells #[.int .u64 0, .int .u64 0] 29 (0, 0)) ∧ wr.heap.size ≤ k) := Lib.hid fun w2 k h hk hle => (K2.out w2 h).mono fun e w3 ⟨h1, h2, h3, h4⟩ => ⟨h1, h3, h4, (h2.block _ (heap_ltU hk)).trans hk, hle⟩
              have K2b : Hid (∀ w2, Below wr.heap.size wr w2 → Calls Try.prog 90 #[.agg #[.int .u64 (hi (ixU x)), .int .u64 (lo (ixU x))], .int .i64 (IntKind.i64.wrap (IntKind.i64.wrap ((bits : Int) - 1) - (p.length : Int)))] (w2.alloc (Obj.cells #[.int .u64 0, .int .u64 0] 29)) fun e w3 => e = .returned (.agg #[.int .u64 (hi (vleft (ixU x) (bits - 1 - p.length))), .int .u64 (lo (vleft (ixU x) (bits - 1 - p.length)))]) ∧ Below wr.heap.size wr w3 ∧ w3.cell? ⟨X, 0, none⟩ = some (.int .i64 bits) ∧ w3.heap[w2.heap.size]? = some (Obj.cells #[.int .u64 0, .int .u64 0] 29 (0, 0)) ∧ wr.heap.size ≤ w2.heap.size) := Lib.hid fun w2 h => K2c.out _ _ (below_alloc h _) (heap_alloc_new _ _) h.size
              go_region_with (first
                | (go_at_call 91; (with_reducible refine (K1b.out _ (by first | assumption | exact (Below.refl _ _).drew)).mono ?_); rintro en v1 ⟨rfl, hw1, hx1, hz, hle⟩; have z0 := blk_cell hz 0 _ rfl; have z1 := blk_cell hz 1 _ rfl; have f0 := frz_U hz 0; have f1 := frz_U hz 1)
                | (go_at_call 91; (with_reducible refine (K1c.out _ _ (by first | assumption | exact (Below.refl _ _).drew) (by assumption) (by first | assumption | exact Nat.le_refl _)).mono ?_); rintro en v1 ⟨rfl, hw1, hx1, hz, hle⟩; have z0 := blk_cell hz 0 _ rfl; have z1 := blk_cell hz 1 _ rfl; have f0 := frz_U hz 0; have f1 := frz_U hz 1)
                | (go_at_call 91; (with_reducible refine (K1.out _ (by first | assumption | exact (Below.refl _ _).drew)).mono ?_); rintro en v1 ⟨rfl, hv1, hw1, hx1⟩; have hx2 := KX.out _ (below_alloc hw1 (Obj.cells #[.int .u64 0, .int .u64 0] 29)))
                | (go_at_call 90; (with_reducible refine (K2b.out _ (by first | assumption | exact (Below.refl _ _).drew)).mono ?_); rintro en v2 ⟨rfl, hw2, hx3, hz2, hle2⟩; have z2 := blk_cell hz2 0 _ rfl; have z3 := blk_cell hz2 1 _ rfl; have f2 := frz_U hz2 0; have f3 := frz_U hz2 1)
                | (go_at_call 90; (with_reducible refine (K2c.out _ _ (by first | assumption | exact (Below.refl _ _).drew) (by assumption) (by first | assumption | exact Nat.le_refl _)).mono ?_); rintro en v2 ⟨rfl, hw2, hx3, hz2, hle2⟩; have z2 := blk_cell hz2 0 _ rfl; have z3 := blk_cell hz2 1 _ rfl; have f2 := frz_U hz2 0; have f3 := frz_U hz2 1)
                | (go_at_call 90; (with_reducible refine (K2.out _ (by first | assumption | exact (Below.refl _ _).drew)).mono ?_); rintro en v2 ⟨rfl, hv2, hw2, hx3⟩; have hx4 := KX.out _ (below_alloc hw2 (Obj.cells #[.int .u64 0, .int .u64 0] 29))))
              all_goals first
                | (obtain ⟨w9, hw9⟩ : ∃ y9 : World, y9 = (v2.setCell ⟨v1.heap.size, 0, none⟩ (.int .u64 (hi (vleft (ixU x) (bits - 1 - p.length))))).setCell ⟨v1.heap.size, 1, none⟩ (.int .u64 (lo (vleft (ixU x) (bits - 1 - p.length)))) := ⟨_, rfl⟩; have z9 := two_setU (k := v1.heap.size) hz2 (u := (.int .u64 (hi (vleft (ixU x) (bits - 1 - p.length))))) (v := (.int .u64 (lo (vleft (ixU x) (bits - 1 - p.length))))); have q9 := below_twoU hw2 hle2 (.int .u64 (hi (vleft (ixU x) (bits - 1 - p.length)))) (.int .u64 (lo (vleft (ixU x) (bits - 1 - p.length)))); rw [← hw9] at z9 q9 ⊢; have q0 := blk_cell z9 0 _ rfl; have q1 := blk_cell z9 1 _ rfl; clear hw9 z9)
                | (obtain ⟨w9, hw9⟩ : ∃ y9 : World, y9 = (v2.setCell ⟨wr.heap.size, 0, none⟩ (.int .u64 (hi (vleft (ixU x) (bits - 1 - p.length))))).setCell ⟨wr.heap.size, 1, none⟩ (.int .u64 (lo (vleft (ixU x) (bits - 1 - p.length)))) := ⟨_, rfl⟩; have z9 := two_setU (k := wr.heap.size) hz2 (u := (.int .u64 (hi (vleft (ixU x) (bits - 1 - p.length))))) (v := (.int .u64 (lo (vleft (ixU x) (bits - 1 - p.length))))); have q9 := below_twoU hw2 hle2 (.int .u64 (hi (vleft (ixU x) (bits - 1 - p.length)))) (.int .u64 (lo (vleft (ixU x) (bits - 1 - p.length)))); rw [← hw9] at z9 q9 ⊢; have q0 := blk_cell z9 0 _ rfl; have q1 := blk_cell z9 1 _ rfl; clear hw9 z9)
                | (obtain ⟨w9, hw9⟩ : ∃ y9 : World, y9 = v2.alloc (Obj.cells #[.int .u64 (hi (vleft (ixU x) (bits - 1 - p.length))), .int .u64 (lo (vleft (ixU x) (bits - 1 - p.length)))] 29) := ⟨_, rfl⟩; have z9 := heap_alloc_new v2 (Obj.cells #[.int .u64 (hi (vleft (ixU x) (bits - 1 - p.length))), .int .u64 (lo (vleft (ixU x) (bits - 1 - p.length)))] 29); have q9 := below_alloc hw2 (Obj.cells #[.int .u64 (hi (vleft (ixU x) (bits - 1 - p.length))), .int .u64 (lo (vleft (ixU x) (bits - 1 - p.length)))] 29); rw [← hw9] at z9 q9 ⊢; have q0 := blk_cell z9 0 _ rfl; have q1 := blk_cell z9 1 _ rfl; clear hw9 z9)
              all_goals
                have Q9 := Lib.hid q9
                have hk9 := (Q9.out.block W.heap.size (heap_ltU HKV.out)).trans HKV.out
                have u0 := blk_cell hk9 0 _ rfl
                have u1 := blk_cell hk9 1 _ rfl
                clear hk9 q9
                go_wp2_with fail
                refine (KOR.out _).mono ?_
                rintro e w10 ⟨rfl, h10⟩
                have Q10 := Lib.hid (Q9.out.trans (h10.mono Q9.out.size))
                clear h10 u0 u1 q0 q1
                go_wp2_with fail
                refine (KIH.out w10 Q10.out).mono ?_
                rintro e w11 ⟨A2, c2, rfl, ho2, hg2⟩
                have O2 := Lib.hid ho2
                have G2 := Lib.hid hg2
                clear ho2 hg2
                go_wp2_with fail
                go_roundw
                case rel => exact ⟨j + 1, A2, c2, lj ++ allU th c d (p ++ [x]), by omega, by simp, HX.out.symm, by rw [List.length_append], O2.out, HG.out.trans ((GrwU.below _ Q10.out).trans G2.out)⟩
                case measure => simp [intOf]; omega
            · obtain rfl : j = 2 := by omega
              go_wp2_with fail
              go_ret
              exact RetA.cast (by rw [HLJ.out]; simp) ⟨Aj, cj, rfl, HO.out, GW0.out.trans HG.out⟩
end Go.Proofs.Ytmlocfojmncghaa
