/- Contracts, joined: SCodesB, SMake. -/
import Derived.Test.YtldgjahpmlafgaaGreatSCodes
import Derived.Test.YtldgjahpmlafgaaGreatSBegun
import Derived.Test.YtldgjahpmlafgaaGreatSHeld
import Derived.Deep.RegionWith
import Derived.Deep.RegionHeld3
import Derived.Deep.RegionLaw
import Derived.Deep.AppendLies
import Derived.Deep.DeepCutAuto
namespace Go.Proofs.YtldgjahpmlafgaaGreat
section
open Go.RowKit

/-- The call returns one of two, and only the choices have changed. -/
def ChoseBZ (K D : Nat) (l : List Nat) (w : World) (e : Ending) (w' : World) : Prop := ∃ v : Bool, (l = [] → v = false) ∧ e = .returned (.bool v) ∧ w.grownBy w' (some K) ∧ ∃ p, CoAt K D l p w'
def ChoseB (K D : Nat) (l : List Nat) (w : World) (e : Ending) (w' : World) : Prop := ∃ v : Bool, e = .returned (.bool v) ∧ w.grownBy w' (some K) ∧ ∃ p, CoAt K D l p w'
set_option maxRecDepth 100000 in
theorem cobool_z {K D p : Nat} {l : List Nat} {w : World} (h : CoAt K D l p w) : Calls Tryz.prog 29 #[.pointer (some ⟨K, 0, none⟩)] w (ChoseBZ K D l w) := by
  have HN := Lib.hid (next_z 2 (by decide) (by decide) h)
  clear h
  go_enter Tryz.func29, Tryz.ntmps29
  go_wp2_with (go_at_call 30; (refine HN.out.mono ?_; rintro e w' ⟨v, hv, hz, rfl, hg, hc⟩; have HZ := Lib.hid hz; clear hz))
  go_ret
  exact ⟨_, fun e => by rw [HZ.out e]; rfl, rfl, hg, hc⟩
theorem cobool_any {K D p : Nat} {l : List Nat} {w : World} (h : CoAt K D l p w) : Calls Tryz.prog 29 #[.pointer (some ⟨K, 0, none⟩)] w (ChoseB K D l w) := (cobool_z h).mono fun _ _ ⟨v, _, h2, h3, h4⟩ => ⟨v, h2, h3, h4⟩
end
section
open Go.RowKit

/-- A block of one's own that holds these cells; the choices lie elsewhere. -/
structure Bx (K L : Nat) (cs : List Value) (W : World) : Prop where
  lt : L < W.heap.size
  ne : L ≠ K
  c : ∀ j (h : j < cs.length), W.cell? ⟨L, j, none⟩ = some (cs[j]'h)
  f : ∀ j, W.frozen? ⟨L, j, none⟩ = false
theorem Bx.kept {K L : Nat} {cs : List Value} {W W' : World} {row : Option Nat} (h : Bx K L cs W) (hg : W.grownBy W' row) (hr : some L ≠ row) : Bx K L cs W' :=
  ⟨Nat.lt_of_lt_of_le h.lt hg.size, h.ne, fun j hj => (cell_kept hg h.lt hr).trans (h.c j hj), fun j => (frozen_kept hg h.lt hr).trans (h.f j)⟩
theorem Bx.chose {K L : Nat} {cs : List Value} {W W' : World} (h : Bx K L cs W) (hg : W.grownBy W' (some K)) : Bx K L cs W' := h.kept hg (fun e => h.ne (by injection e))
theorem Bx.new {K : Nat} {W : World} (hK : K < W.heap.size) (cs : List Value) (t : TypeId) : Bx K W.heap.size cs (W.alloc (.cells cs.toArray t)) :=
  ⟨by simp, by omega, fun j hj => by rw [World.cell?_alloc_new, List.getElem?_toArray]; exact List.getElem?_eq_getElem hj, fun j => World.frozen?_alloc_new ..⟩
theorem Bx.alloc {K L : Nat} {cs : List Value} {W : World} (h : Bx K L cs W) (o : Obj) : Bx K L cs (W.alloc o) := h.kept (grown_alloc W o none) (by simp)
theorem Bx.set {K L : Nat} {cs : List Value} {W : World} (h : Bx K L cs W) (i : Nat) (u : Value) : Bx K L (cs.set i u) (W.setCell ⟨L, i, none⟩ u) := by
  refine ⟨by simp [World.setCell]; exact h.lt, h.ne, fun j hj => ?_, fun j => (set_froz _ _ _ _ _).trans (h.f j)⟩
  have hj2 : j < cs.length := by simpa using hj
  by_cases e : i = j
  · subst e
    rw [set_same u (h.c i hj2)]
    simp
  · rw [set_other _ _ _ _ _ e, h.c j hj2]
    simp [e]
theorem Bx.other {K L M : Nat} {cs : List Value} {W : World} (h : Bx K L cs W) (hM : L ≠ M) (i : Nat) (u : Value) : Bx K L cs (W.setCell ⟨M, i, none⟩ u) := h.kept (grown_set W M i u) (fun e => hM (by injection e))
/-- A literal slice: a row of one's own. -/
theorem own_lit {W : World} {base sz n : Nat} {e : TypeId} (cs : List Value) (hb : base ≤ W.heap.size) (hn : n ≤ maxLen) (hs : cs.length = n * sz) : (W.alloc (.cells cs.toArray e)).ownsRow base e sz (.slice (some ⟨W.heap.size, 0, none⟩) n n) n cs :=
  ⟨hs, .inr ⟨W.heap.size, n, cs.toArray, rfl, hb, heap_alloc_new W _, Nat.le_refl _, hn, by simpa using hs, by rw [← hs]; simp⟩⟩
def caseD (v m : Nat) (n : Int) : CaseD := ⟨v, m, n⟩
def encCase (x : CaseD) : List Value := [.int .u64 (hi x.val), .int .u64 (lo x.val), .int .u64 (hi x.mask), .int .u64 (lo x.mask), .int .i64 x.next]
theorem next2 {K D p : Nat} {l : List Nat} {w : World} (h : CoAt K D l p w) : Calls Tryz.prog 30 #[.pointer (some ⟨K, 0, none⟩), .int .i64 2] w (Chose K D l 2 w) := next_any 2 (by decide) (by decide) h
theorem next3 {K D p : Nat} {l : List Nat} {w : World} (h : CoAt K D l p w) : Calls Tryz.prog 30 #[.pointer (some ⟨K, 0, none⟩), .int .i64 3] w (Chose K D l 3 w) := next_any 3 (by decide) (by decide) h
theorem next4 {K D p : Nat} {l : List Nat} {w : World} (h : CoAt K D l p w) : Calls Tryz.prog 30 #[.pointer (some ⟨K, 0, none⟩), .int .i64 4] w (Chose K D l 4 w) := next_any 4 (by decide) (by decide) h
theorem next5 {K D p : Nat} {l : List Nat} {w : World} (h : CoAt K D l p w) : Calls Tryz.prog 30 #[.pointer (some ⟨K, 0, none⟩), .int .i64 5] w (Chose K D l 5 w) := next_any 5 (by decide) (by decide) h
theorem next6 {K D p : Nat} {l : List Nat} {w : World} (h : CoAt K D l p w) : Calls Tryz.prog 30 #[.pointer (some ⟨K, 0, none⟩), .int .i64 6] w (Chose K D l 6 w) := next_any 6 (by decide) (by decide) h
theorem next8 {K D p : Nat} {l : List Nat} {w : World} (h : CoAt K D l p w) : Calls Tryz.prog 30 #[.pointer (some ⟨K, 0, none⟩), .int .i64 8] w (Chose K D l 8 w) := next_any 8 (by decide) (by decide) h
theorem next30 {K D p : Nat} {l : List Nat} {w : World} (h : CoAt K D l p w) : Calls Tryz.prog 30 #[.pointer (some ⟨K, 0, none⟩), .int .i64 30] w (Chose K D l 30 w) := next_any 30 (by decide) (by decide) h
theorem next256 {K D p : Nat} {l : List Nat} {w : World} (h : CoAt K D l p w) : Calls Tryz.prog 30 #[.pointer (some ⟨K, 0, none⟩), .int .i64 256] w (Chose K D l 256 w) := next_any 256 (by decide) (by decide) h
theorem own_shapeH {w : World} {B e sz n : Nat} {v : Value} {l : List Value} (h : w.ownsRow B e sz v n l) : ∃ A cap, v = .slice A n cap := by
  rcases h.2 with ⟨rfl, rfl⟩ | ⟨g, cap, cur, rfl, _⟩
  · exact ⟨_, _, rfl⟩
  · exact ⟨_, _, rfl⟩
theorem own_setH {w : World} {S e sz n i : Nat} {v u : Value} {l : List Value} (h : w.ownsRow (S + 1) e sz v n l) : (w.setCell ⟨S, i, none⟩ u).ownsRow (S + 1) e sz v n l :=
  World.ownsRow.kept h (grown_set w S i u) (by
    cases e : v.ownBlock with
    | none => exact .inl rfl
    | some k => exact .inr fun e2 => by have := (World.ownsRow.lt h k e).1; injection e2 with e2; omega)
theorem step_appG {w : World} {ops : Array Oper} {o : Oper} {a : Act} {K : Act → World → Prop} {Q : Exit → Act → World → Prop} {E : Prop} (hgd : o.guard = none) (s x : Operand) (t : TypeId)
    (ho : o.op = .call { callee := .builtin .append, args := #[s, x], argTypes := #[t, t] })
    (base : Nat) (e : TypeId) (i : TypeInfo) (z : Value) (size bytes : Nat) (ht : Tryz.prog.underlying t = some (.slice e)) (hi : Tryz.prog.info? e = some i) (hz : i.zero = some z)
    (hsize : i.size = size) (hby : i.bytes = bytes) (hzs : z.cells.size = size) (hsz : 0 < size)
    (v : Value) (n : Nat) (xs : List Value) (hs : a.eval s = v) (hown : w.ownsRow base e size v n xs)
    (ad : Addr) (m c : Nat) (news : List Value) (hx : a.eval x = .slice (some ad) m c) (hl : news.length = m * size) (hnews : ∀ j u, news[j]? = some u → w.cell? (ad.add j) = some u) (h1 : ∀ u ∈ news, u.oneCell' = true)
    (h63 : n + m ≤ maxLen) (hbytes : (n + m) * bytes ≤ 140737488355328) (hbase : base ≤ w.heap.size)
    (h : ∀ v' w', w'.ownsRow base e size v' (n + m) (xs ++ news) → w.grownBy w' v.ownBlock → (v' = .slice none 0 0 ↔ v = .slice none 0 0 ∧ m = 0) → K (a.put o.dst v') w') :
    if Region.wanted o (yielded ops a.tmps) = true then Oper.wp Tryz.prog o a w K Q else E := by
  rw [if_pos (by simp [Region.wanted, hgd])]
  exact wp_append_own w s x t ho base e i z size bytes ht hi hz hsize hby hzs hsz v n xs hs hown ad m c news hx hl hnews h1 h63 hbytes hbase h
theorem Bx.drew {K L : Nat} {cs : List Value} {W : World} (h : Bx K L cs W) : Bx K L cs W.drew := ⟨h.lt, h.ne, h.c, h.f⟩
theorem CoAt.drew {K D p : Nat} {l : List Nat} {W : World} (h : CoAt K D l p W) : CoAt K D l p W.drew := h.drewN (n := 1)
theorem info_case : (Tryz.prog.info? 174).map (fun i => (i.zero, i.size, i.bytes)) = some (some (.agg #[.int .u64 0, .int .u64 0, .int .u64 0, .int .u64 0, .int .i64 0]), 5, 40) := by kernel_rfl
theorem one_case (x : CaseD) : ∀ u ∈ encCase x, u.oneCell' = true := by
  intro u hu
  simp only [encCase, List.mem_cons, List.not_mem_nil, or_false] at hu
  rcases hu with rfl | rfl | rfl | rfl | rfl <;> rfl
def endsV (v : Nat) : Int := if v = 2 then 65535 else if v = 3 then 3 else 0
theorem endsV_b (v : Nat) : 0 ≤ endsV v ∧ endsV v ≤ 65535 := by
  unfold endsV
  split
  · decide
  · split <;> decide
/-- Cases that may be encoded. -/
def CasesOk (xs : List CaseD) : Prop := xs.length ≤ 3 ∧ ∀ x ∈ xs, x.val < 256 ∧ x.mask < 256 ∧ 0 ≤ x.next ∧ x.next ≤ 65535
/-- The first state under way: its cases. -/
def OneS (w : World) (K D : Nat) (l : List Nat) (E O : Nat) (v1 : Nat) (wx : World) : Prop := ∃ (xs : List CaseD) (vc : Value), CasesOk xs ∧ Bx K O [.int .i64 1, .int .i64 1, .int .i64 4, vc, .int .i64 (endsV v1)] wx ∧ wx.ownsRow (O + 1) 174 5 vc xs.length (flat encCase xs) ∧
  Bx K E [.int .i64 0, .int .i64 0, .int .i64 65535, .int .i64 3] wx ∧ (∃ p, CoAt K D l p wx) ∧ w.grownBy wx (some K)
theorem grown_below {w w' : World} {row : Option Nat} (h : w.grownBy w' none) : w.grownBy w' row := ⟨h.os, h.tape, h.output, h.size, fun k hk _ => h.block k hk (by simp)⟩
theorem ends_at {K E : Nat} {W : World} (h : Bx K E [.int .i64 0, .int .i64 0, .int .i64 65535, .int .i64 3] W) (v : Nat) (hv : v < 4) : W.cell? ⟨E, v, none⟩ = some (.int .i64 (endsV v)) := by
  match v, hv with
  | 0, _ => exact h.c 0 (by decide)
  | 1, _ => exact h.c 1 (by decide)
  | 2, _ => exact h.c 2 (by decide)
  | 3, _ => exact h.c 3 (by decide)
theorem own_chose {W W' : World} {B K e sz n : Nat} {v : Value} {l : List Value} (h : W.ownsRow B e sz v n l) (hg : W.grownBy W' (some K)) (hK : K < B) : W'.ownsRow B e sz v n l :=
  World.ownsRow.kept h hg (by
    cases e : v.ownBlock with
    | none => exact .inl rfl
    | some k => exact .inr fun e2 => by have := (World.ownsRow.lt h k e).1; injection e2 with e2; omega)
theorem casesH {W : World} {a base : Nat} {v : Value} {xs : List CaseD} (hok : CasesOk xs) (ha : a ≤ base) (h : W.ownsRow base 174 5 v xs.length (flat encCase xs)) : RowH 5 CaseV a W.heap.size W v xs :=
  rowH_of_own (fun _ => rfl) ha (Nat.le_refl _) (fun x hx w2 B _ _ => by
    obtain ⟨h1, h2, h3, h4⟩ := hok.2 x hx
    exact ⟨rfl, Nat.lt_trans h1 (by decide), Nat.lt_trans h2 (by decide), by omega, by omega⟩) h
/-- The states that were made. -/
def StatesOk (xs : List StateD) : Prop := ∃ (x y : List CaseD) (a b : Nat), xs = [⟨1, 1, 4, x, endsV a⟩, ⟨2, 2, 0, [], endsV b⟩, ⟨3, 3, 9, y, 0⟩] ∧ CasesOk x ∧ CasesOk y
def RetStates (K D : Nat) (l : List Nat) (w : World) (e : Ending) (w' : World) : Prop := ∃ (v : Value) (xs : List StateD), e = .returned v ∧ StatesOk xs ∧ RowH 5 StateV w.heap.size w'.heap.size w' v xs ∧ w.grownBy w' (some K) ∧ ∃ p, CoAt K D l p w'
theorem i64_of {x : Int} (h : 0 ≤ x ∧ x ≤ 65535) : I64 x := ⟨by omega, by omega⟩
set_option maxRecDepth 100000 in
theorem states_fin {w W : World} {K D p B1 B2 : Nat} {l : List Nat} {vx vy : Value} {x y : List CaseD} {a b : Nat} (hx : CasesOk x) (hy : CasesOk y) (hB1 : w.heap.size ≤ B1) (hB2 : w.heap.size ≤ B2)
    (rx : W.ownsRow B1 174 5 vx x.length (flat encCase x)) (ry : W.ownsRow B2 174 5 vy y.length (flat encCase y)) (g : w.grownBy W (some K)) (c : CoAt K D l p W) :
    RetStates K D l w (.returned (.slice (some ⟨W.heap.size, 0, none⟩) 3 3)) (W.alloc (.cells #[.int .i64 1, .int .i64 1, .int .i64 4, vx, .int .i64 (endsV a), .int .i64 2, .int .i64 2, .int .i64 0, .slice none 0 0, .int .i64 (endsV b), .int .i64 3, .int .i64 3, .int .i64 9, vy, .int .i64 0] 172)) := by
  have i0 : I64 0 := i64_of (by decide)
  refine ⟨_, [⟨1, 1, 4, x, endsV a⟩, ⟨2, 2, 0, [], endsV b⟩, ⟨3, 3, 9, y, 0⟩], rfl, ⟨x, y, a, b, rfl, hx, hy⟩, ?_, g.trans (grown_alloc _ _ _), p, c.kept (grown_alloc W _ none) (by simp) (by simp)⟩
  have hvx := casesH hx hB1 (World.ownsRow.alloc rx (.cells #[.int .i64 1, .int .i64 1, .int .i64 4, vx, .int .i64 (endsV a), .int .i64 2, .int .i64 2, .int .i64 0, .slice none 0 0, .int .i64 (endsV b), .int .i64 3, .int .i64 3, .int .i64 9, vy, .int .i64 0] 172))
  have hvy := casesH hy hB2 (World.ownsRow.alloc ry (.cells #[.int .i64 1, .int .i64 1, .int .i64 4, vx, .int .i64 (endsV a), .int .i64 2, .int .i64 2, .int .i64 0, .slice none 0 0, .int .i64 (endsV b), .int .i64 3, .int .i64 3, .int .i64 9, vy, .int .i64 0] 172))
  refine rowH_lit (P := StateV) (sz := 5) [([.int .i64 1, .int .i64 1, .int .i64 4, vx, .int .i64 (endsV a)], (⟨1, 1, 4, x, endsV a⟩ : StateD)), ([.int .i64 2, .int .i64 2, .int .i64 0, .slice none 0 0, .int .i64 (endsV b)], ⟨2, 2, 0, [], endsV b⟩), ([.int .i64 3, .int .i64 3, .int .i64 9, vy, .int .i64 0], ⟨3, 3, 9, y, 0⟩)]
    (fun q hq => ?_) g.size (by simp) rfl (by decide) (by decide) (fun j hj => ?_) (fun q hq w2 B hs hB => ?_)
  · simp only [List.mem_cons, List.not_mem_nil, or_false] at hq
    rcases hq with rfl | rfl | rfl <;> rfl
  · rw [World.cell?_alloc_new, List.getElem?_toArray]
    exact List.getElem?_eq_getElem hj
  · simp only [List.mem_cons, List.not_mem_nil, or_false] at hq
    rcases hq with rfl | rfl | rfl
    · exact ⟨_, rfl, i64_of (x := 1) (by decide), i64_of (x := 1) (by decide), i64_of (x := 4) (by decide), hvx w2 B hs hB, i64_of (endsV_b a)⟩
    · exact ⟨_, rfl, i64_of (x := 2) (by decide), i64_of (x := 2) (by decide), i0, row_nil _ _ _ _, i64_of (endsV_b b)⟩
    · exact ⟨_, rfl, i64_of (x := 3) (by decide), i64_of (x := 3) (by decide), i64_of (x := 9) (by decide), hvy w2 B hs hB, i0⟩
set_option maxRecDepth 100000 in
set_option maxHeartbeats 4000000 in
theorem states_any {K D p : Nat} {l : List Nat} {w : World} (h : CoAt K D l p w) : Calls Tryz.prog 68 #[.pointer (some ⟨K, 0, none⟩)] w (RetStates K D l w) := by
  obtain ⟨w0, hw0⟩ : ∃ w0, w0 = w.alloc (.cells #[.int .i64 0, .int .i64 0, .int .i64 65535, .int .i64 3] 3) := ⟨_, rfl⟩
  have hg0 : w.grownBy w0 none := by rw [hw0]; exact grown_alloc _ _ _
  have HDL := Lib.hid h.dlt
  have HZ0 : Hid (w0.heap.size = w.heap.size + 1) := Lib.hid (by rw [hw0]; simp)
  have b0 : Bx K w.heap.size [.int .i64 0, .int .i64 0, .int .i64 65535, .int .i64 3] w0 := by rw [hw0]; exact Bx.new h.lt _ _
  have h0 := h.kept hg0 (by simp) (by simp)
  have HW0 := Lib.hid hw0
  have HB0 := Lib.hid b0
  have HN := Lib.hid (next_any 4 (by decide) (by decide) h0)
  clear hw0 b0 h0
  go_enter Tryz.func68, Tryz.ntmps68
  go_wp2_with fail
  rw [← HW0.out]
  refine HN.out.mono ?_
  rintro e w1 ⟨v1, hv1, rfl, hg1, p1, h1⟩
  have HB1 := Lib.hid (HB0.out.chose hg1)
  have d1 := ends_at HB1.out v1 hv1
  have hv1' : (v1 : Int) < 4 := by omega
  have hv1'' : 0 ≤ (v1 : Int) := by omega
  have HG1 := Lib.hid hg1
  have HC1 := Lib.hid h1
  clear hg1 h1
  obtain ⟨w2, hw2⟩ : ∃ w2, w2 = ((w1.alloc (.cells #[.int .i64 1, .int .i64 1, .int .i64 4, .slice (some ⟨w1.heap.size + 1, 0, none⟩) 2 2, .int .i64 (endsV v1)] 172)).alloc (.cells #[.int .u64 0, .int .u64 1, .int .u64 0, .int .u64 15, .int .i64 2, .int .u64 0, .int .u64 2, .int .u64 0, .int .u64 3, .int .i64 3] 174)) := ⟨_, rfl⟩
  have hK1 := HC1.out.lt
  have o2 : Bx K w1.heap.size [.int .i64 1, .int .i64 1, .int .i64 4, .slice (some ⟨w1.heap.size + 1, 0, none⟩) 2 2, .int .i64 (endsV v1)] w2 := by
    rw [hw2]
    exact (Bx.new hK1 [.int .i64 1, .int .i64 1, .int .i64 4, .slice (some ⟨w1.heap.size + 1, 0, none⟩) 2 2, .int .i64 (endsV v1)] 172).alloc _
  have r2 : w2.ownsRow (w1.heap.size + 1) 174 5 (.slice (some ⟨w1.heap.size + 1, 0, none⟩) 2 2) 2 (flat encCase [caseD 1 15 2, caseD 2 3 3]) := by
    rw [hw2]
    have := own_lit (W := w1.alloc (.cells #[.int .i64 1, .int .i64 1, .int .i64 4, .slice (some ⟨w1.heap.size + 1, 0, none⟩) 2 2, .int .i64 (endsV v1)] 172)) (base := w1.heap.size + 1) (sz := 5) (n := 2) (e := 174)
      [.int .u64 0, .int .u64 1, .int .u64 0, .int .u64 15, .int .i64 2, .int .u64 0, .int .u64 2, .int .u64 0, .int .u64 3, .int .i64 3] (by simp) (by decide) rfl
    rw [World.size_alloc] at this
    exact this
  have g2 : w1.grownBy w2 none := by
    rw [hw2]
    exact (grown_alloc _ _ _).trans (grown_alloc _ _ _)
  have b2 := HB1.out.kept g2 (by simp)
  have h2 := HC1.out.kept g2 (by simp) (by simp)
  have HW2 := Lib.hid hw2
  have HO2 := Lib.hid o2
  have HR2 := Lib.hid r2
  have HB2 := Lib.hid b2
  have HG2 := Lib.hid g2
  have HBo := Lib.hid (cobool_any h2)
  clear hw2 o2 r2 b2 h2 g2
  go_wp2_with fail
  rw [← HW2.out]
  refine HBo.out.mono ?_
  rintro e w3 ⟨bb, rfl, hg3, p3, h3⟩
  have HO3 := Lib.hid (HO2.out.chose hg3)
  have HB3 := Lib.hid (HB2.out.chose hg3)
  have HR3 := Lib.hid (World.ownsRow.kept HR2.out hg3 (.inr fun e => by injection e with e; simp only at e; omega))
  have HC3 := Lib.hid h3
  have HG3 := Lib.hid hg3
  clear hg3 h3 d1
  obtain ⟨i0, hi0, hz0, hy1, hy2⟩ := info_parts info_case
  have HGw : Hid (w.grownBy w3 (some K)) := Lib.hid (((grown_below hg0).trans HG1.out).trans ((grown_below HG2.out).trans HG3.out))
  go_upto_if 23 with (fail)
  go_cut [] from 24 to 40 (fun wx => OneS w K D l w.heap.size w1.heap.size v1 wx)
  case first =>
    cases bb
    · go_wp2_with fail
      go_meet
      exact ⟨_, _, ⟨by decide, by decide⟩, HO3.out, HR3.out, HB3.out, ⟨_, HC3.out⟩, HGw.out⟩
    · go_wp2_with fail
      have HC3d := Lib.hid HC3.out.drew
      have HO3d := Lib.hid HO3.out.drew
      have HB3d := Lib.hid HB3.out.drew
      have o3 := HO3.out.c 3 (by simp)
      have hO13 : w1.heap.size ≠ K := HO3.out.ne
      go_region_law (first
        | (go_simp; go_at_call 30; (first
          | ((with_reducible refine (next2 HC3d.out).mono ?_); rintro e w4 ⟨v4, hv4, rfl, hg4, p4, h4⟩; have HO4 := Lib.hid (HO3d.out.chose hg4); have HB4 := Lib.hid (HB3d.out.chose hg4); have o4 := HO4.out.c 3 (by simp); have HG4 := Lib.hid hg4; have HC4 := Lib.hid h4; have a4 : (v4 : Int) < 2 := (by omega); have b4 : 0 ≤ (v4 : Int) := (by omega); have c4 : IntKind.i64.wrap (8 * (v4 : Int)) = 8 * (v4 : Int) := IntWalk.i64_in _ (by omega); have c4u : IntKind.u64.wrap (8 * (v4 : Int)) = 8 * (v4 : Int) := IntWalk.u64_in _ (by omega); clear hg4 h4)
          | ((with_reducible refine (next4 HC4.out).mono ?_); rintro e w5 ⟨v5, hv5, rfl, hg5, p5, h5⟩; have HO5 := Lib.hid (HO4.out.chose hg5); have HB5 := Lib.hid (HB4.out.chose hg5); have o5 := HO5.out.c 3 (by simp); have e5 := ends_at HB5.out v5 hv5; have HG5 := Lib.hid hg5; have HC5 := Lib.hid h5; have a5 : (v5 : Int) < 4 := (by omega); have b5 : 0 ≤ (v5 : Int) := (by omega); have HR5 := Lib.hid (World.ownsRow.kept (World.ownsRow.kept (World.ownsRow.drew HR3.out) HG4.out (.inr fun e => by injection e with e; simp only at e; omega)) HG5.out (.inr fun e => by injection e with e; simp only at e; omega)); have z5 := HO5.out.lt; clear hg5 h5)))
        | (refine step_appG rfl (.tmp 25) (.tmp 38) 170 (by rfl) (w1.heap.size + 1) 174 i0 _ 5 40 Tryz.underlying170 hi0 hz0 hy1 hy2 rfl (by decide) _ 2 _ (by rfl) (World.ownsRow.alloc HR5.out _) ⟨w5.heap.size, 0, none⟩ 1 1 [.int .u64 0, .int .u64 (8 * (v4 : Int)), .int .u64 0, .int .u64 8, .int .i64 (endsV v5)] (by rfl) rfl (World.news_of_block (cs := #[.int .u64 0, .int .u64 (8 * (v4 : Int)), .int .u64 0, .int .u64 8, .int .i64 (endsV v5)]) (t := 174) (fr := (0, 0)) (heap_alloc_new w5 _)) (by intro u hu; simp at hu; rcases hu with rfl | rfl | rfl | rfl | rfl <;> rfl) (by decide) (by decide) (by simp; omega) ?_; intro v6 w6 hO6 hg6 _; obtain ⟨A6, cap6, rfl⟩ := own_shapeH hO6; have HX6 := Lib.hid ((HO5.out.alloc _).kept hg6 (fun e => by injection e with e; simp only at e; omega)); have o6 := HX6.out.c 3 (by simp); have f6 := HX6.out.f 3; have HO6 := Lib.hid hO6; have HG6 := Lib.hid hg6; clear hO6 hg6))
      all_goals go_wp2_with fail
      all_goals go_meet
      all_goals
        have hl : hi (8 * v4) = 0 ∧ lo (8 * v4) = 8 * (v4 : Int) := by unfold hi lo; omega
        have hr6 : w6.ownsRow (w1.heap.size + 1) 174 5 (.slice A6 3 cap6) 3 (flat encCase [caseD 1 15 2, caseD 2 3 3, caseD (8 * v4) 8 (endsV v5)]) := by
          have h6 := HO6.out
          have e : flat encCase [caseD 1 15 2, caseD 2 3 3, caseD (8 * v4) 8 (endsV v5)] = flat encCase [caseD 1 15 2, caseD 2 3 3] ++ [.int .u64 0, .int .u64 (8 * (v4 : Int)), .int .u64 0, .int .u64 8, .int .i64 (endsV v5)] := by
            rw [show [caseD 1 15 2, caseD 2 3 3, caseD (8 * v4) 8 (endsV v5)] = [caseD 1 15 2, caseD 2 3 3] ++ [caseD (8 * v4) 8 (endsV v5)] from rfl, flat_snoc]
            simp only [encCase, caseD, hl.1, hl.2]
            rfl
          rw [e]
          exact h6
        have hO := HG1.out.size
        have hO0 := HZ0.out
        have hrow : l ≠ [] → (some (w1.heap.size + 1) : Option Nat) ≠ some D := fun e e2 => by have := HDL.out e; injection e2 with e2; omega
        have hkl := HC5.out.lt
        have hkr : (some (w1.heap.size + 1) : Option Nat) ≠ some K := fun e2 => by have := HC1.out.lt; injection e2 with e2; omega
        have hgo : (w5.alloc (.cells #[.int .u64 0, .int .u64 (8 * (v4 : Int)), .int .u64 0, .int .u64 8, .int .i64 (endsV v5)] 174)).grownBy w6 (some (w1.heap.size + 1)) := HG6.out
        have hc6 := ((HC5.out.kept (w' := w5.alloc (.cells #[.int .u64 0, .int .u64 (8 * (v4 : Int)), .int .u64 0, .int .u64 8, .int .i64 (endsV v5)] 174)) (grown_alloc w5 _ none) (by simp) (by simp)).kept hgo hkr hrow).kept (grown_set w6 w1.heap.size 3 (.slice A6 3 cap6)) (fun e => hO13 (by injection e)) (fun e e2 => by have := HDL.out e; injection e2 with e2; omega)
        have hb6 := (((HB5.out.alloc (.cells #[.int .u64 0, .int .u64 (8 * (v4 : Int)), .int .u64 0, .int .u64 8, .int .i64 (endsV v5)] 174)).kept hgo (fun e => by injection e with e; omega))).other (M := w1.heap.size) (by omega) 3 (.slice A6 3 cap6)
        refine ⟨[caseD 1 15 2, caseD 2 3 3, caseD (8 * v4) 8 (endsV v5)], _, ⟨by simp, fun x hx => ?_⟩, HX6.out.set 3 (.slice A6 3 cap6), own_setH hr6, hb6, ⟨_, hc6⟩, ?_⟩
        · simp only [List.mem_cons, List.not_mem_nil, or_false] at hx
          rcases hx with rfl | rfl | rfl
          · exact ⟨by decide, by decide, by decide, by decide⟩
          · exact ⟨by decide, by decide, by decide, by decide⟩
          · refine ⟨by show 8 * v4 < 256; omega, by show 8 < 256; omega, ?_, ?_⟩
            · exact (endsV_b v5).1
            · exact (endsV_b v5).2
        · have g5 := (HGw.out.trans (show w3.grownBy w4 (some K) from ⟨HG4.out.os, HG4.out.tape, HG4.out.output, HG4.out.size, HG4.out.block⟩)).trans HG5.out
          have g6 := (g5.trans (grown_alloc w5 (.cells #[.int .u64 0, .int .u64 (8 * (v4 : Int)), .int .u64 0, .int .u64 8, .int .i64 (endsV v5)] 174) (some K))).andThen hgo fun j hj => .inl (by injection hj with hj; omega)
          exact g6.andThen (grown_set w6 w1.heap.size 3 (.slice A6 3 cap6)) fun j hj => .inl (by injection hj with hj; omega)
  case rest =>
    obtain ⟨xs, vc, hok, ho, hr, hb, ⟨pc, hc⟩, hg⟩ := hcut
    obtain ⟨Ac, capc, rfl⟩ := own_shapeH hr
    have HOK := Lib.hid hok
    have HO := Lib.hid ho
    have HR := Lib.hid hr
    have HB := Lib.hid hb
    have HC := Lib.hid hc
    have HG := Lib.hid hg
    have HN7 := Lib.hid (next4 hc)
    clear hok ho hr hb hc hg
    go_wp2_with fail
    refine HN7.out.mono ?_
    rintro e w7 ⟨v7, hv7, rfl, hg7, p7, h7⟩
    have hKO : K < w1.heap.size := HC1.out.lt
    have hsw : w.heap.size ≤ wc.heap.size := HG.out.size
    have d7 := ends_at (HB.out.chose hg7) v7 hv7
    have a7 : (v7 : Int) < 4 := by omega
    have b7 : 0 ≤ (v7 : Int) := by omega
    obtain ⟨w8, hw8⟩ : ∃ w8, w8 = (w7.alloc (.cells #[.int .i64 2, .int .i64 2, .int .i64 0, .slice none 0 0, .int .i64 (endsV v7)] 172)).alloc (.cells #[.int .i64 3, .int .i64 3, .int .i64 9, .slice none 0 0, .int .i64 0] 172) := ⟨_, rfl⟩
    have g8 : w7.grownBy w8 none := by rw [hw8]; exact (grown_alloc _ _ _).trans (grown_alloc _ _ _)
    have z8 : w8.heap.size = w7.heap.size + 2 := by rw [hw8]; simp
    have hK7 := h7.lt
    have x2 : Bx K w7.heap.size [.int .i64 2, .int .i64 2, .int .i64 0, .slice none 0 0, .int .i64 (endsV v7)] w8 := by rw [hw8]; exact (Bx.new hK7 [.int .i64 2, .int .i64 2, .int .i64 0, .slice none 0 0, .int .i64 (endsV v7)] _).alloc _
    have x3 : Bx K (w7.heap.size + 1) [.int .i64 3, .int .i64 3, .int .i64 9, .slice none 0 0, .int .i64 0] w8 := by
      rw [hw8]
      have := Bx.new (K := K) (W := w7.alloc (.cells #[.int .i64 2, .int .i64 2, .int .i64 0, .slice none 0 0, .int .i64 (endsV v7)] 172)) (by simp; omega) [.int .i64 3, .int .i64 3, .int .i64 9, .slice none 0 0, .int .i64 0] 172
      rwa [World.size_alloc] at this
    have x1 := (HO.out.chose hg7).kept g8 (by simp)
    have r1 := (own_chose HR.out hg7 (by omega)).kept g8 (by cases (Value.slice Ac xs.length capc).ownBlock <;> simp)
    have c8 := h7.kept g8 (by simp) (by simp)
    have hlO := HO.out.lt
    have HZ8 := Lib.hid z8
    have hsz7 := hg7.size
    have HN8 := Lib.hid (next3 c8)
    have HX1 := Lib.hid x1
    have HX2 := Lib.hid x2
    have HX3 := Lib.hid x3
    have HR1 := Lib.hid r1
    have HW8 := Lib.hid hw8
    have HG8 : Hid (w.grownBy w8 (some K)) := Lib.hid ((HG.out.trans hg7).trans (grown_below g8))
    clear x1 x2 x3 r1 c8 hw8 g8 z8 hg7 h7
    go_wp2_with fail
    rw [← HW8.out]
    refine HN8.out.mono ?_
    rintro e w9 ⟨v8, hv8, rfl, hg9, p9, h9⟩
    have HX1 := Lib.hid (HX1.out.chose hg9)
    have HX2 := Lib.hid (HX2.out.chose hg9)
    have HX3 := Lib.hid (HX3.out.chose hg9)
    have HR1 := Lib.hid (own_chose HR1.out hg9 (by omega))
    have HG9 := Lib.hid (HG8.out.trans hg9)
    have hz9 : w7.heap.size + 2 ≤ w9.heap.size := by have := hg9.size; have := HZ8.out; omega
    have HC9 := Lib.hid h9
    clear hg9 h9 d7
    by_cases h8 : v8 = 1
    · subst h8
      have HN10 := Lib.hid (next3 HC9.out)
      go_wp2_with fail
      refine HN10.out.mono ?_
      rintro e w10 ⟨v10, hv10, rfl, hg10, p10, h10⟩
      have HX1 := Lib.hid (HX1.out.chose hg10)
      have HX2 := Lib.hid (HX2.out.chose hg10)
      have HX3 := Lib.hid (HX3.out.chose hg10)
      have HR1 := Lib.hid (own_chose HR1.out hg10 (by omega))
      have HG10 := Lib.hid (HG9.out.trans hg10)
      have hz10 : w7.heap.size + 2 ≤ w10.heap.size := by have := hg10.size; omega
      have HC10 := Lib.hid h10
      have a10 : (v10 : Int) < 3 := by omega
      have b10 : 0 ≤ (v10 : Int) := by omega
      clear hg10 h10
      have m0 : w10.cell? ⟨w1.heap.size, 0, none⟩ = some (.int .i64 1) := HX1.out.c 0 (by simp)
      have m1 : w10.cell? ⟨w1.heap.size, 1, none⟩ = some (.int .i64 1) := HX1.out.c 1 (by simp)
      have m2 : w10.cell? ⟨w1.heap.size, 2, none⟩ = some (.int .i64 4) := HX1.out.c 2 (by simp)
      have m3 : w10.cell? ⟨w1.heap.size, 3, none⟩ = some (.slice Ac xs.length capc) := HX1.out.c 3 (by simp)
      have m4 : w10.cell? ⟨w1.heap.size, 4, none⟩ = some (.int .i64 (endsV v1)) := HX1.out.c 4 (by simp)
      have n0 : w10.cell? ⟨w7.heap.size, 0, none⟩ = some (.int .i64 2) := HX2.out.c 0 (by simp)
      have n1 : w10.cell? ⟨w7.heap.size, 1, none⟩ = some (.int .i64 2) := HX2.out.c 1 (by simp)
      have n2 : w10.cell? ⟨w7.heap.size, 2, none⟩ = some (.int .i64 0) := HX2.out.c 2 (by simp)
      have n3 : w10.cell? ⟨w7.heap.size, 3, none⟩ = some (.slice none 0 0) := HX2.out.c 3 (by simp)
      have n4 : w10.cell? ⟨w7.heap.size, 4, none⟩ = some (.int .i64 (endsV v7)) := HX2.out.c 4 (by simp)
      have o0 : w10.cell? ⟨(w7.heap.size + 1), 0, none⟩ = some (.int .i64 3) := HX3.out.c 0 (by simp)
      have o1 : w10.cell? ⟨(w7.heap.size + 1), 1, none⟩ = some (.int .i64 3) := HX3.out.c 1 (by simp)
      have o2 : w10.cell? ⟨(w7.heap.size + 1), 2, none⟩ = some (.int .i64 9) := HX3.out.c 2 (by simp)
      have o3 : w10.cell? ⟨(w7.heap.size + 1), 3, none⟩ = some (.slice none 0 0) := HX3.out.c 3 (by simp)
      have o4 : w10.cell? ⟨(w7.heap.size + 1), 4, none⟩ = some (.int .i64 0) := HX3.out.c 4 (by simp)
      have f3 := HX3.out.f 3
      have q1 : w1.heap.size ≠ w7.heap.size + 1 := by omega
      have q2 : w7.heap.size ≠ w7.heap.size + 1 := by omega
      have q3 : w1.heap.size < w10.heap.size := by omega
      have q4 : w7.heap.size < w10.heap.size := by omega
      have q5 : w7.heap.size + 1 < w10.heap.size := by omega
      go_wp2_with fail
      go_ret
      obtain ⟨W, hW⟩ : ∃ W, W = (w10.setCell ⟨w7.heap.size + 1, 3, none⟩ (.slice (some ⟨w10.heap.size, 0, none⟩) 1 1)).alloc (.cells #[.int .u64 0, .int .u64 5, .int .u64 0, .int .u64 15, .int .i64 (1 + (v10 : Int))] 174) := ⟨_, rfl⟩
      have hzs : (w10.setCell ⟨w7.heap.size + 1, 3, none⟩ (.slice (some ⟨w10.heap.size, 0, none⟩) 1 1)).heap.size = w10.heap.size := by simp [World.setCell]
      have hzW : W.heap.size = w10.heap.size + 1 := by rw [hW, World.size_alloc, hzs]
      have ry : W.ownsRow w.heap.size 174 5 (.slice (some ⟨w10.heap.size, 0, none⟩) 1 1) 1 (flat encCase [caseD 5 15 (1 + (v10 : Int))]) := by
        have := own_lit (W := w10.setCell ⟨w7.heap.size + 1, 3, none⟩ (.slice (some ⟨w10.heap.size, 0, none⟩) 1 1)) (base := w.heap.size) (sz := 5) (n := 1) (e := 174) [.int .u64 0, .int .u64 5, .int .u64 0, .int .u64 15, .int .i64 (1 + (v10 : Int))] (by rw [hzs]; exact HG10.out.size) (by decide) rfl
        rw [hzs] at this
        have e : flat encCase [caseD 5 15 (1 + (v10 : Int))] = [.int .u64 0, .int .u64 5, .int .u64 0, .int .u64 15, .int .i64 (1 + (v10 : Int))] := by simp [flat, encCase, caseD, hi, lo]
        rw [hW, e]
        exact this
      have gs := grown_set w10 (w7.heap.size + 1) 3 (.slice (some ⟨w10.heap.size, 0, none⟩) 1 1)
      have rx : W.ownsRow (w1.heap.size + 1) 174 5 (.slice Ac xs.length capc) xs.length (flat encCase xs) := by
        rw [hW]
        refine World.ownsRow.alloc (World.ownsRow.kept HR1.out gs ?_) _
        cases e : (Value.slice Ac xs.length capc).ownBlock with
        | none => exact .inl rfl
        | some k => exact .inr fun e2 => by have := (World.ownsRow.lt HR.out k e).2; injection e2 with e2; omega
      have cW : CoAt K D l p10 W := by
        rw [hW]
        exact (HC10.out.kept gs (fun e => by injection e with e; omega) (fun e e2 => by have := HDL.out e; injection e2 with e2; omega)).kept (grown_alloc _ _ none) (by simp) (by simp)
      have gW : w.grownBy W (some K) := by
        rw [hW]
        exact (HG10.out.andThen gs fun j hj => .inl (by injection hj with hj; omega)).trans (grown_alloc _ _ _)
      have fin := states_fin (a := v1) (b := v7) (y := [caseD 5 15 (1 + (v10 : Int))]) HOK.out ⟨by simp, fun x hx => by rw [List.mem_singleton.1 hx]; exact ⟨by show 5 < 256; decide, by show 15 < 256; decide, by show 0 ≤ 1 + (v10 : Int); omega, by show 1 + (v10 : Int) ≤ 65535; omega⟩⟩ (by have := HG1.out.size; have := HZ0.out; omega) (Nat.le_refl _) rx ry gW cW
      rw [hzW, hW] at fin
      exact fin
    · have h8' : ((v8 : Int) == 1) = false := by simp; omega
      have m0 : w9.cell? ⟨w1.heap.size, 0, none⟩ = some (.int .i64 1) := HX1.out.c 0 (by simp)
      have m1 : w9.cell? ⟨w1.heap.size, 1, none⟩ = some (.int .i64 1) := HX1.out.c 1 (by simp)
      have m2 : w9.cell? ⟨w1.heap.size, 2, none⟩ = some (.int .i64 4) := HX1.out.c 2 (by simp)
      have m3 : w9.cell? ⟨w1.heap.size, 3, none⟩ = some (.slice Ac xs.length capc) := HX1.out.c 3 (by simp)
      have m4 : w9.cell? ⟨w1.heap.size, 4, none⟩ = some (.int .i64 (endsV v1)) := HX1.out.c 4 (by simp)
      have n0 : w9.cell? ⟨w7.heap.size, 0, none⟩ = some (.int .i64 2) := HX2.out.c 0 (by simp)
      have n1 : w9.cell? ⟨w7.heap.size, 1, none⟩ = some (.int .i64 2) := HX2.out.c 1 (by simp)
      have n2 : w9.cell? ⟨w7.heap.size, 2, none⟩ = some (.int .i64 0) := HX2.out.c 2 (by simp)
      have n3 : w9.cell? ⟨w7.heap.size, 3, none⟩ = some (.slice none 0 0) := HX2.out.c 3 (by simp)
      have n4 : w9.cell? ⟨w7.heap.size, 4, none⟩ = some (.int .i64 (endsV v7)) := HX2.out.c 4 (by simp)
      have o0 : w9.cell? ⟨(w7.heap.size + 1), 0, none⟩ = some (.int .i64 3) := HX3.out.c 0 (by simp)
      have o1 : w9.cell? ⟨(w7.heap.size + 1), 1, none⟩ = some (.int .i64 3) := HX3.out.c 1 (by simp)
      have o2 : w9.cell? ⟨(w7.heap.size + 1), 2, none⟩ = some (.int .i64 9) := HX3.out.c 2 (by simp)
      have o3 : w9.cell? ⟨(w7.heap.size + 1), 3, none⟩ = some (.slice none 0 0) := HX3.out.c 3 (by simp)
      have o4 : w9.cell? ⟨(w7.heap.size + 1), 4, none⟩ = some (.int .i64 0) := HX3.out.c 4 (by simp)
      go_wp2_with fail
      go_ret
      exact states_fin (y := []) HOK.out ⟨by decide, by simp⟩ (by have := HG1.out.size; have := HZ0.out; omega) (Nat.le_refl _) HR1.out (World.ownsRow_nil _ w.heap.size _ _) HG9.out HC9.out
end
end Go.Proofs.YtldgjahpmlafgaaGreat
