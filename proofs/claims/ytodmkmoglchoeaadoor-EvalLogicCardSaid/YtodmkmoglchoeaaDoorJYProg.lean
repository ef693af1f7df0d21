/- Contracts, joined: YProg, YProg2, YProg3, YProg4, YRul, YRul2, YRul3, YRul4, YRul5, YDep, YPar. -/
import Derived.Test.YtodmkmoglchoeaaDoorJYPure
import Derived.Lib.OthersKept
import Derived.Deep.RegionLaw
import Derived.Deep.RegionWith
import Derived.Deep.RegionHeld3
import Derived.BigQuiet
import Derived.Deep.CutRange
import Derived.Deep.DeepCutAuto
import Derived.Test.YtodmkmoglchoeaaDoorJNum
import Derived.Lib.LazyBuf
import Derived.Deep.OwnRows
namespace Go.Proofs.YtodmkmoglchoeaaDoor
/- Package syntax: the parser's state in memory; its small functions. -/
section
open Go.RowKit

/-- a node's cells -/
def ncell (n : Nd) : List Value := [.int .i64 n.op, .int .i64 n.a, .int .i64 n.b, .string n.name, .string n.attr, .int .u64 (hi n.val), .int .u64 (lo n.val)]
def ncells (l : List Nd) : List Value := l.flatMap ncell
theorem ncells_snoc (l : List Nd) (n : Nd) : ncells (l ++ [n]) = ncells l ++ ncell n := by simp [ncells]
theorem ncells_len (l : List Nd) : (ncells l).length = l.length * 7 := by
  induction l with
  | nil => rfl
  | cons t r ih => rw [show ncells (t :: r) = ncell t ++ ncells r by simp [ncells], List.length_append, ih]; show 7 + _ = _; simp; omega
theorem ncell_one (n : Nd) : ∀ u ∈ ncell n, u.oneCell' = true := by
  intro u hu
  simp only [ncell, List.mem_cons, List.not_mem_nil, or_false] at hu
  rcases hu with rfl | rfl | rfl | rfl | rfl | rfl | rfl <;> rfl
/-- a row of tokens below block B -/
structure TokB (w : World) (B : Nat) (A : Option Addr) (l : List Tok) : Prop where
  r : l = [] ∨ ∃ g, A = some ⟨g, 0, none⟩ ∧ g < B ∧ ∀ k (hk : k < l.length), w.cell? ⟨g, k * 3, none⟩ = some (.int .i64 (l[k]'hk).kind) ∧ w.cell? ⟨g, k * 3 + 1, none⟩ = some (.string (l[k]'hk).text) ∧ w.cell? ⟨g, k * 3 + 2, none⟩ = some (.int .i64 (l[k]'hk).at_)
theorem TokB.below {w w' : World} {B : Nat} {A : Option Addr} {l : List Tok} (h : TokB w B A l) (hb : Below B w w') : TokB w' B A l := by
  rcases h.r with h | ⟨g, h1, h2, h3⟩
  · exact ⟨.inl h⟩
  · exact ⟨.inr ⟨g, h1, h2, fun k hk => by rw [hb.cell (p := ⟨g, _, none⟩) h2, hb.cell (p := ⟨g, _, none⟩) h2, hb.cell (p := ⟨g, _, none⟩) h2]; exact h3 k hk⟩⟩
theorem TokR.atB {w : World} {A : Option Addr} {l : List Tok} (h : TokR w A l) : TokB w w.heap.size A l := by
  rcases h.r with h | ⟨g, h1, h2, h3⟩
  · exact ⟨.inl h⟩
  · exact ⟨.inr ⟨g, h1, h2, h3⟩⟩
/-- the table of symbols of package syntax -/
structure SymY (w : World) : Prop where
  lt : 2 < w.heap.size
  c : ∀ i, i < 17 → w.cell? ⟨2, i, none⟩ = some (.string (sy i))
theorem SymY.below {B : Nat} {w w' : World} (h : SymY w) (hb : Below B w w') (hB : 2 < B) : SymY w' := ⟨Nat.lt_of_lt_of_le h.lt hb.size, fun i hi => by rw [hb.cell (p := ⟨2, i, none⟩) hB]; exact h.c i hi⟩
/-- what a call of the parser leaves: all below B, and all else but block b and rows of nodes -/
structure Kp (B b : Nat) (e : TypeId) (w w' : World) : Prop where
  below : Below B w w'
  kept : Lib.OthersKept e (some b) w w'
theorem Kp.refl (B b : Nat) (e : TypeId) (w : World) : Kp B b e w w := ⟨Below.refl _ _, Lib.OthersKept.refl _ _ _⟩
theorem Kp.trans {B b : Nat} {e : TypeId} {w w1 w2 : World} (h : Kp B b e w w1) (k : Kp B b e w1 w2) : Kp B b e w w2 := ⟨h.below.trans k.below, h.kept.trans k.kept⟩
theorem Kp.of {B b : Nat} {e : TypeId} {w w1 : World} (h : Below w.heap.size w w1) (hB : B ≤ w.heap.size) : Kp B b e w w1 :=
  ⟨h.mono hB, fun k _ hk _ _ => (h.block k (Array.getElem?_eq_some_iff.1 hk).1).trans hk⟩
theorem Kp.alloc {B b : Nat} {e : TypeId} {w w1 : World} (h : Kp B b e w w1) (hB : B ≤ w1.heap.size) (o : Obj) : Kp B b e w (w1.alloc o) := ⟨h.below.alloc hB o, h.kept.alloc o⟩
theorem Kp.set {B b : Nat} {e : TypeId} {w w1 : World} (h : Kp B b e w w1) (hB : B ≤ b) (i : Nat) (v : Value) : Kp B b e w (w1.setCell ⟨b, i, none⟩ v) := ⟨h.below.setCell (p := ⟨b, i, none⟩) hB v, h.kept.setCell ⟨b, i, none⟩ rfl v⟩
theorem Kp.drew {B b : Nat} {e : TypeId} {w w1 : World} (h : Kp B b e w w1) : Kp B b e w w1.drew := ⟨h.below.drew, h.kept.drew⟩
/-- the kind of the block of a row of one's own -/
theorem own_kindY {w : World} {B e sz n : Nat} {v : Value} {l : List Value} (h : w.ownsRow B e sz v n l) : ∀ g, v.ownBlock = some g → ∃ c fz, w.heap[g]? = some (.cells c e fz) := by
  intro g hg
  rcases h.2 with ⟨rfl, _⟩ | ⟨g', cap, cur, rfl, _, hgg, _⟩
  · simp [Value.ownBlock] at hg
  · simp [Value.ownBlock] at hg
    subst hg
    exact ⟨cur, (0, 0), hgg⟩
/-- A CELL of an old block, kept -/
theorem Kp.cellAt {B b : Nat} {e : TypeId} {w w' : World} (h : Kp B b e w w') {k : Nat} {cs : Array Value} {T : TypeId} {fr : Nat × Nat} (hk : w.heap[k]? = some (.cells cs T fr)) (hb : k ≠ b) (hT : T ≠ e) : w'.heap[k]? = some (.cells cs T fr) :=
  h.kept k _ hk (fun e2 => hb (by injection e2)) (fun c fz e2 => hT (by injection e2))
/-- the parser in memory -/
structure PAt (B b len cap : Nat) (A : Option Addr) (l : List Tok) (p : PS) (w : World) : Prop where
  hB : B ≤ b
  hB1 : 2 < B
  lt : b < w.heap.size
  tok : TokB w B A l
  hl : l.length = len
  hc : len ≤ cap
  c0 : w.cell? ⟨b, 0, none⟩ = some (.slice A len cap)
  c1 : w.cell? ⟨b, 1, none⟩ = some (.int .i64 p.at_)
  c2 : ∃ A2 cap2, w.cell? ⟨b, 2, none⟩ = some (.slice A2 p.out.length cap2) ∧ w.ownsRow B 105 7 (.slice A2 p.out.length cap2) p.out.length (ncells p.out) ∧ (Value.slice A2 p.out.length cap2).ownBlock ≠ some b
  fr : ∀ i, w.frozen? ⟨b, i, none⟩ = false
  sy : SymY w
theorem PAt.call {B b len cap : Nat} {A : Option Addr} {l : List Tok} {p : PS} {w w' : World} (h : PAt B b len cap A l p w) (hb : Below w.heap.size w w') : PAt B b len cap A l p w' := by
  obtain ⟨A2, cap2, c2, ho, hn⟩ := h.c2
  have hlt := h.lt
  refine ⟨h.hB, h.hB1, Nat.lt_of_lt_of_le h.lt hb.size, h.tok.below (hb.mono (by have := h.hB; omega)), h.hl, h.hc, ?_, ?_, ⟨A2, cap2, ?_, own_below2 ho hb, hn⟩, fun i => ?_, h.sy.below hb (by have := h.hB; have := h.hB1; omega)⟩
  · rw [hb.cell (p := ⟨b, 0, none⟩) hlt]; exact h.c0
  · rw [hb.cell (p := ⟨b, 1, none⟩) hlt]; exact h.c1
  · rw [hb.cell (p := ⟨b, 2, none⟩) hlt]; exact c2
  · rw [hb.frozen (p := ⟨b, i, none⟩) hlt]; exact h.fr i
theorem PAt.alloc {B b len cap : Nat} {A : Option Addr} {l : List Tok} {p : PS} {w : World} (h : PAt B b len cap A l p w) (o : Obj) : PAt B b len cap A l p (w.alloc o) := h.call ((Below.refl _ _).alloc (Nat.le_refl _) o)
theorem PAt.drew {B b len cap : Nat} {A : Option Addr} {l : List Tok} {p : PS} {w : World} (h : PAt B b len cap A l p w) : PAt B b len cap A l p w.drew := h.call (Below.refl _ _).drew
theorem PAt.base {B b len cap : Nat} {A : Option Addr} {l : List Tok} {p : PS} {w : World} (h : PAt B b len cap A l p w) : B ≤ w.heap.size := by have := h.hB; have := h.lt; omega
theorem own_setY {w : World} {B e sz n b i : Nat} {v u : Value} {l : List Value} (h : w.ownsRow B e sz v n l) (hb : v.ownBlock ≠ some b) : (w.setCell ⟨b, i, none⟩ u).ownsRow B e sz v n l :=
  World.ownsRow.kept h (grown_set w b i u) (by
    cases e : v.ownBlock with
    | none => exact .inl rfl
    | some k => exact .inr fun e2 => hb (by rw [e, e2]))
/-- the place set -/
theorem PAt.setAt {B b len cap : Nat} {A : Option Addr} {l : List Tok} {p : PS} {w : World} (h : PAt B b len cap A l p w) (k : Nat) (bd : Bool) : PAt B b len cap A l ⟨k, bd, p.out⟩ (w.setCell ⟨b, 1, none⟩ (.int .i64 k)) := by
  obtain ⟨A2, cap2, c2, ho, hn⟩ := h.c2
  have hb := (Below.refl b w).setCell (p := ⟨b, 1, none⟩) (Nat.le_refl _) (.int .i64 k)
  refine ⟨h.hB, h.hB1, by rw [World.size_setCell]; exact h.lt, h.tok.below (hb.mono h.hB), h.hl, h.hc, ?_, ?_, ⟨A2, cap2, ?_, own_setY ho hn, hn⟩, fun i => ?_, h.sy.below hb (by have := h.hB; have := h.hB1; omega)⟩
  · rw [World.cell?_setCell_other _ _ _ _ (by intro e; injection e with _ e; omega)]; exact h.c0
  · rw [World.cell?_setCell_same' _ _ _ (by rw [h.c1]; rfl)]
  · rw [World.cell?_setCell_other _ _ _ _ (by intro e; injection e with _ e; omega)]; exact c2
  · rw [set_froz]; exact h.fr i
/-- the token at a place; the zero token behind the end -/
def tokAt (l : List Tok) (i : Nat) : Tok := l.getD i ⟨0, ⟨#[]⟩, 0⟩
theorem tokAt_lt {l : List Tok} {i : Nat} (h : i < l.length) : tokAt l i = l[i]'h := by unfold tokAt; rw [List.getD_eq_getElem?_getD, List.getElem?_eq_getElem h]; rfl
theorem tokAt_ge {l : List Tok} {i : Nat} (h : l.length ≤ i) : tokAt l i = ⟨0, ⟨#[]⟩, 0⟩ := by unfold tokAt; rw [List.getD_eq_getElem?_getD, List.getElem?_eq_none h]; rfl
theorem see_tok (l : List Tok) (p : PS) (hb : p.bad = false) (x : ByteArray) : see l p x = (decide ((tokAt l p.at_).kind = 3) && decide ((tokAt l p.at_).text = x)) := by
  unfold see tokAt
  rw [hb, List.getD_eq_getElem?_getD]
  cases l[p.at_]? with
  | none => rfl
  | some t => rfl
/-- where the token lies -/
theorem PAt.tokCells {B b len cap : Nat} {A : Option Addr} {l : List Tok} {p : PS} {w : World} (h : PAt B b len cap A l p w) (hlt : p.at_ < l.length) : ∃ g, A = some ⟨g, 0, none⟩ ∧ g < B ∧ w.cell? ⟨g, p.at_ * 3, none⟩ = some (.int .i64 (tokAt l p.at_).kind) ∧ w.cell? ⟨g, p.at_ * 3 + 1, none⟩ = some (.string (tokAt l p.at_).text) ∧ w.cell? ⟨g, p.at_ * 3 + 2, none⟩ = some (.int .i64 (tokAt l p.at_).at_) := by
  obtain ⟨g, h1, h2, h3⟩ := h.tok.r.resolve_left (fun e => by rw [e] at hlt; simp at hlt)
  rw [tokAt_lt hlt]
  exact ⟨g, h1, h2, h3 _ hlt⟩
set_option maxRecDepth 100000 in
set_option maxHeartbeats 4000000 in
theorem py_peek {B b len cap : Nat} {A : Option Addr} {l : List Tok} {p : PS} {w : World} (h : PAt B b len cap A l p w) :
    Calls Tryd.prog 100 #[.pointer (some ⟨b, 0, none⟩)] w (RetX (.agg #[.int .i64 (tokAt l p.at_).kind, .string (tokAt l p.at_).text, .int .i64 (tokAt l p.at_).at_]) w) := by
  obtain ⟨a, ha⟩ : ∃ a, a = p.at_ := ⟨_, rfl⟩
  obtain ⟨t, ht⟩ : ∃ t, t = tokAt l p.at_ := ⟨_, rfl⟩
  obtain ⟨tk, hk⟩ : ∃ x : Nat, x = t.kind := ⟨_, rfl⟩
  obtain ⟨tx, hx⟩ : ∃ x, x = t.text := ⟨_, rfl⟩
  obtain ⟨ta, hta⟩ : ∃ x : Nat, x = t.at_ := ⟨_, rfl⟩
  rw [← ht, ← hk, ← hx, ← hta]
  have HAA := Lib.hid ha
  have HT := Lib.hid ht
  have HKK := Lib.hid hk
  have HXX := Lib.hid hx
  have HTA := Lib.hid hta
  clear ha ht hk hx hta
  have hA := h.alloc (.cells #[.int .i64 0, .string ⟨#[]⟩, .int .i64 0] 154)
  have hB : Below w.heap.size w (w.alloc (.cells #[.int .i64 0, .string ⟨#[]⟩, .int .i64 0] 154)) := (Below.refl _ _).alloc (Nat.le_refl _) _
  have r0 : ∀ i, i < 3 → (w.alloc (.cells #[.int .i64 0, .string ⟨#[]⟩, .int .i64 0] 154)).cell? ⟨w.heap.size, i, none⟩ = some ([.int .i64 0, .string ⟨#[]⟩, .int .i64 0].getD i undef) := fun i hi => by
    have : i = 0 ∨ i = 1 ∨ i = 2 := by omega
    rw [World.cell?_alloc_new]
    rcases this with rfl | rfl | rfl <;> rfl
  have f0 : ∀ i, (w.alloc (.cells #[.int .i64 0, .string ⟨#[]⟩, .int .i64 0] 154)).frozen? ⟨w.heap.size, i, none⟩ = false := fun i => World.frozen?_alloc_new ..
  have hbs : (w.alloc (.cells #[.int .i64 0, .string ⟨#[]⟩, .int .i64 0] 154)).heap.size = w.heap.size + 1 := by simp
  have HR0 := Lib.hid r0
  have HF0 := Lib.hid f0
  have HA := Lib.hid hA
  have HB := Lib.hid hB
  have HBS := Lib.hid hbs
  have hbw : b < w.heap.size := h.lt
  have hwB : B ≤ w.heap.size := h.base
  clear r0 f0 hA hB hbs h
  go_enter Tryd.func100, Tryd.ntmps100
  go_wp2
  generalize w.alloc (.cells #[.int .i64 0, .string ⟨#[]⟩, .int .i64 0] 154) = W at HR0 HF0 HA HB HBS ⊢
  obtain ⟨rv, hrv⟩ : ∃ x, x = w.heap.size := ⟨_, rfl⟩
  rw [← hrv] at HR0 HF0 HBS hbw hwB ⊢
  have HRV := Lib.hid hrv
  clear hrv
  have c0 := HA.out.c0
  have c1 := HA.out.c1
  have r0 : W.cell? ⟨rv, 0, none⟩ = some (.int .i64 0) := HR0.out 0 (by decide)
  have r1 : W.cell? ⟨rv, 1, none⟩ = some (.string ⟨#[]⟩) := HR0.out 1 (by decide)
  have r2 : W.cell? ⟨rv, 2, none⟩ = some (.int .i64 0) := HR0.out 2 (by decide)
  have f0 := HF0.out 0
  have f1 := HF0.out 1
  have f2 := HF0.out 2
  have hcap := HA.out.hc
  have hl := HA.out.hl
  rw [← HAA.out] at c1
  by_cases hlt : a < len
  · have hltI : (a : Int) < (len : Int) := by omega
    obtain ⟨g, hg, hgB, t0, t1, t2⟩ := HA.out.tokCells (by rw [← HAA.out]; omega)
    have hgw : g ≠ rv := by omega
    subst hg
    rw [← HT.out, ← HAA.out, ← HKK.out] at t0
    rw [← HT.out, ← HAA.out, ← HXX.out] at t1
    rw [← HT.out, ← HAA.out, ← HTA.out] at t2
    clear hl HR0 HF0
    go_quiet (fail)
    go_wp2
    go_region
    go_wp2
    have d0 : (((W.drewN (nq + 1)).setCell ⟨rv, 0, none⟩ (.int .i64 (tk : Int))).setCell ⟨rv, 1, none⟩ (.string tx)).setCell ⟨rv, 2, none⟩ (.int .i64 (ta : Int)) = (((W.drewN (nq + 1)).setCell ⟨rv, 0, none⟩ (.int .i64 (tk : Int))).setCell ⟨rv, 1, none⟩ (.string tx)).setCell ⟨rv, 2, none⟩ (.int .i64 (ta : Int)) := rfl
    refine bodyPost_ret (v := .agg #[.int .i64 (tk : Int), .string tx, .int .i64 (ta : Int)]) (by simp [results, Tryd.results100, go_sem, r0, r1, r2]) rfl ⟨rfl, ?_⟩
    rw [HRV.out]
    exact ((((below_drewN HB.out _).setCell (p := ⟨_, 0, none⟩) (Nat.le_refl _) _).setCell (p := ⟨_, 1, none⟩) (Nat.le_refl _) _).setCell (p := ⟨_, 2, none⟩) (Nat.le_refl _) _)
  · have hltI : ¬ (a : Int) < (len : Int) := by omega
    have ht0 : t = ⟨0, ⟨#[]⟩, 0⟩ := by rw [HT.out]; exact tokAt_ge (by rw [← HAA.out]; omega)
    have k0 := HKK.out
    have x0 := HXX.out
    have a0 := HTA.out
    rw [ht0] at k0 x0 a0
    subst k0 x0 a0
    clear hl HR0 HF0 ht0
    go_quiet (fail)
    go_wp2
    refine bodyPost_ret (v := .agg #[.int .i64 0, .string ⟨#[]⟩, .int .i64 0]) (by simp [results, Tryd.results100, go_sem, r0, r1, r2]) rfl ⟨rfl, ?_⟩
    rw [HRV.out]
    exact ((((below_drewN HB.out _).setCell (p := ⟨_, 0, none⟩) (Nat.le_refl _) _).setCell (p := ⟨_, 1, none⟩) (Nat.le_refl _) _).setCell (p := ⟨_, 2, none⟩) (Nat.le_refl _) _)
end
/- Package syntax: symbols, operators, names, nodes. -/
section
open Go.RowKit

theorem bs_eq (a b : ByteArray) : (a.toList == b.toList) = decide (a = b) := by
  rw [ByteArray.toList_eq, ByteArray.toList_eq]
  by_cases h : a = b
  · subst h; simp
  · rw [decide_eq_false h, beq_eq_false_iff_ne]
    intro e
    exact h (ByteArray.ext (Array.ext' e))
theorem adv_of {B b len cap : Nat} {A : Option Addr} {l : List Tok} {p : PS} {w : World} (h : PAt B b len cap A l p w) : PAt B b len cap A l p.adv (w.setCell ⟨b, 1, none⟩ (.int .i64 ((p.at_ : Int) + 1))) := by
  have := h.setAt (p.at_ + 1) p.bad
  rwa [Int.natCast_add] at this
def RetS (B b len cap : Nat) (A : Option Addr) (l : List Tok) (v : Value) (q : PS) (w : World) (e : Ending) (w' : World) : Prop := e = .returned v ∧ PAt B b len cap A l q w' ∧ Kp B b 105 w w'
set_option maxRecDepth 100000 in
set_option maxHeartbeats 4000000 in
theorem py_symbol {B b len cap : Nat} {A : Option Addr} {l : List Tok} {p : PS} {w : World} (h : PAt B b len cap A l p w) (hb : p.bad = false) (hat : p.at_ ≤ 100000) (x : ByteArray) :
    Calls Tryd.prog 89 #[.pointer (some ⟨b, 0, none⟩), .string x] w (RetS B b len cap A l (.bool (see l p x)) (if see l p x = true then p.adv else p) w) := by
  have KP := Lib.hid (py_peek h)
  have hs := see_tok l p hb x
  obtain ⟨a, ha⟩ : ∃ a, a = p.at_ := ⟨_, rfl⟩
  obtain ⟨tk, hk⟩ : ∃ t : Nat, t = (tokAt l p.at_).kind := ⟨_, rfl⟩
  obtain ⟨tx, hx⟩ : ∃ t, t = (tokAt l p.at_).text := ⟨_, rfl⟩
  obtain ⟨ta, hta⟩ : ∃ t : Nat, t = (tokAt l p.at_).at_ := ⟨_, rfl⟩
  rw [← hk, ← hx, ← hta] at KP
  rw [← hk, ← hx] at hs
  obtain ⟨q, hq⟩ : ∃ q, q = (if see l p x = true then p.adv else p) := ⟨_, rfl⟩
  obtain ⟨sv, hsv⟩ : ∃ s, s = see l p x := ⟨_, rfl⟩
  rw [← hq, ← hsv]
  rw [← hsv] at hq hs
  have H := Lib.hid h
  have HA := Lib.hid ha
  have HQ := Lib.hid hq
  have HS := Lib.hid hs
  clear hk hx hta hs h ha hq hsv
  have hwr : IntKind.i64.wrap ((a : Int) + 1) = (a : Int) + 1 := IntWalk.i64_in _ (by have := HA.out; omega)
  go_enter Tryd.func89, Tryd.ntmps89
  go_wp2_with fail
  go_at_call 100
  refine KP.out.mono ?_
  rintro e w1 ⟨rfl, hb1⟩
  have h1 := H.out.call hb1
  have k1 : Kp B b 105 w w1 := Kp.of hb1 H.out.base
  have hA := h1.alloc (.cells #[.int .i64 tk, .string tx, .int .i64 ta] 154)
  have HK := Lib.hid (k1.alloc h1.base (.cells #[.int .i64 tk, .string tx, .int .i64 ta] 154))
  have H1 := Lib.hid hA
  have r0 : (w1.alloc (.cells #[.int .i64 tk, .string tx, .int .i64 ta] 154)).cell? ⟨w1.heap.size, 0, none⟩ = some (.int .i64 tk) := by rw [World.cell?_alloc_new]; rfl
  have r1 : (w1.alloc (.cells #[.int .i64 tk, .string tx, .int .i64 ta] 154)).cell? ⟨w1.heap.size, 1, none⟩ = some (.string tx) := by rw [World.cell?_alloc_new]; rfl
  clear KP hb1 h1 k1 hA
  go_upto_region 2 with (fail)
  generalize w1.alloc (.cells #[.int .i64 tk, .string tx, .int .i64 ta] 154) = W at H1 HK r0 r1 ⊢
  have c1 := H1.out.c1
  rw [← HA.out] at c1
  have f1 := H1.out.fr 1
  by_cases h3 : tk = 3
  · subst h3
    have he := bs_eq tx x
    by_cases hx : tx = x
    · rw [decide_eq_true hx] at he
      obtain rfl : sv = true := by rw [HS.out, decide_eq_true hx]; rfl
      clear hx
      go_wp2
      go_ret
      refine ⟨rfl, ?_, HK.out.set H1.out.hB _ _⟩
      have := adv_of H1.out
      rw [← HA.out] at this
      rw [HQ.out]
      simpa using this
    · rw [decide_eq_false hx] at he
      obtain rfl : sv = false := by rw [HS.out, decide_eq_false hx]; rfl
      clear hx
      go_wp2
      go_ret
      exact ⟨rfl, by rw [HQ.out]; simpa using H1.out, HK.out⟩
  · have h3I : ((tk : Int) == 3) = false := by rw [beq_eq_false_iff_ne]; omega
    have h3J : ¬ (tk : Int) = 3 := by omega
    obtain rfl : sv = false := by rw [HS.out, decide_eq_false h3]; rfl
    go_wp2
    go_ret
    exact ⟨rfl, by rw [HQ.out]; simpa using H1.out, HK.out⟩
/-- a row of operations -/
structure OpsR (w : World) (O : Nat) (os : List Nat) : Prop where
  r : ∃ cs fr, w.heap[O]? = some (.cells cs 3 fr) ∧ ∀ i (h : i < os.length), cs[i]? = some (.int .i64 (os[i]'h))
theorem OpsR.kept {B b : Nat} {w w' : World} {O : Nat} {os : List Nat} (h : OpsR w O os) (hk : Kp B b 105 w w') (hO : O ≠ b) : OpsR w' O os := by
  obtain ⟨cs, fr, h1, h2⟩ := h.r
  exact ⟨cs, fr, hk.cellAt h1 hO (by decide), h2⟩
theorem OpsR.cell {w : World} {O : Nat} {os : List Nat} (h : OpsR w O os) {i : Nat} (hi : i < os.length) : w.cell? ⟨O, i, none⟩ = some (.int .i64 (os[i]'hi)) := by
  obtain ⟨cs, fr, h1, h2⟩ := h.r
  simp only [World.cell?, h1]
  exact h2 i hi
theorem opAt_drop (l : List Tok) (p : PS) (os : List Nat) (k : Nat) (h : k < os.length) : opAt l p (os.drop k) = if see l p (sy (os[k]'h)) = true then os[k]'h else opAt l p (os.drop (k + 1)) := by
  rw [List.drop_eq_getElem_cons h, opAt]
set_option maxRecDepth 100000 in
set_option maxHeartbeats 4000000 in
theorem py_operator {B b len cap : Nat} {A : Option Addr} {l : List Tok} {p : PS} {w : World} (h : PAt B b len cap A l p w) (hb : p.bad = false) (hat : p.at_ ≤ 100000) (os : List Nat) (O n c : Nat) (hO : OpsR w O os) (hOb : O ≠ b) (hn : os.length = n) (_hc : n ≤ c) (hn2 : n ≤ 100) (hos : ∀ x ∈ os, 0 < x ∧ x < 17) :
    Calls Tryd.prog 79 #[.pointer (some ⟨b, 0, none⟩), .slice (some ⟨O, 0, none⟩) n c] w (RetS B b len cap A l (.int .i64 (opAt l p os : Nat)) (if opAt l p os = 0 then p else p.adv) w) := by
  obtain ⟨r, hr⟩ : ∃ r, r = opAt l p os := ⟨_, rfl⟩
  obtain ⟨q, hq⟩ : ∃ q, q = (if opAt l p os = 0 then p else p.adv) := ⟨_, rfl⟩
  rw [← hq, ← hr]
  rw [← hr] at hq
  have H := Lib.hid h
  have HO := Lib.hid hO
  have HR := Lib.hid hr
  have HQ := Lib.hid hq
  have HN := Lib.hid hn
  have HOS := Lib.hid hos
  clear h hO hr hq hn hos
  go_enter Tryd.func79, Tryd.ntmps79
  go_wp2
  go_loopw [9] (fun i w' => ∃ k : Nat, k ≤ n ∧ i = .int .i64 k ∧ Hid (opAt l p (os.drop k) = r) ∧ PAt B b len cap A l p w' ∧ Kp B b 105 w w') (fun i _ => n - (intOf i).toNat)
  case atStart => exact ⟨0, by omega, rfl, Lib.hid HR.out.symm, H.out, Kp.refl _ _ _ _⟩
  case round =>
    clear HR
    obtain ⟨k, hk, rfl, HR, hP, hK⟩ := hrel
    have HP := Lib.hid hP
    have HK := Lib.hid hK
    clear hP hK
    by_cases hlt : k < n
    · have hkI : (k : Int) < (n : Int) := by omega
      have hkl : k < os.length := by rw [HN.out]; exact hlt
      have hcell := (HO.out.kept HK.out hOb).cell hkl
      have hd := opAt_drop l p os k hkl
      rw [HR.out] at hd
      have h17 := HOS.out _ (List.getElem_mem hkl)
      generalize (os[k]'hkl) = o at hcell hd h17
      have hsy := HP.out.sy.c o h17.2
      have h0I : (0 : Int) ≤ (o : Int) := by omega
      have h17I : (o : Int) < 17 := by omega
      have h17N : o < 17 := h17.2
      obtain ⟨sv, hsv⟩ : ∃ s, see l p (sy o) = s := ⟨_, rfl⟩
      obtain ⟨x, hx⟩ : ∃ x, sy o = x := ⟨_, rfl⟩
      have KS := py_symbol HP.out hb hat (sy o)
      rw [hsv] at KS hd
      rw [hx] at KS hsy
      have HD := Lib.hid hd
      clear hd hsv hx
      cases sv
      · have HD2 : Hid (opAt l p (os.drop (k + 1)) = r) := Lib.hid (by have := HD.out; simpa using this.symm)
        have KS2 : Hid (Calls Tryd.prog 89 #[.pointer (some ⟨b, 0, none⟩), .string x] wr (RetS B b len cap A l (.bool false) p wr)) := Lib.hid (by simpa using KS)
        clear KS HD
        go_wp2_with (go_at_call 89; refine KS2.out.mono ?_; rintro e w2 ⟨rfl, h2, k2⟩; have HP2 := Lib.hid h2; have HK2 := Lib.hid (HK.out.trans k2); clear h2 k2)
        go_roundw
        case rel => (go_light; exact ⟨k + 1, by omega, by simp, HD2, HP2.out, HK2.out⟩)
        case measure => simp [intOf]; omega
      · have ho0 : r = o := by have := HD.out; simpa using this
        subst ho0
        have KS2 : Hid (Calls Tryd.prog 89 #[.pointer (some ⟨b, 0, none⟩), .string x] wr (RetS B b len cap A l (.bool true) p.adv wr)) := Lib.hid (by simpa using KS)
        clear KS HD
        go_wp2_with (go_at_call 89; refine KS2.out.mono ?_; rintro e w2 ⟨rfl, h2, k2⟩; have HP2 := Lib.hid h2; have HK2 := Lib.hid (HK.out.trans k2); clear h2 k2)
        go_ret
        refine ⟨rfl, ?_, HK2.out⟩
        rw [HQ.out, if_neg (by omega)]
        exact HP2.out
    · have hkI : ¬ (k : Int) < (n : Int) := by omega
      have hr0 : r = 0 := by
        have := HR.out
        rw [List.drop_of_length_le (by rw [HN.out]; omega)] at this
        exact this.symm
      subst hr0
      go_wp2
      go_ret
      refine ⟨rfl, ?_, HK.out⟩
      rw [HQ.out]
      simpa using HP.out
/-- what the parser panics with -/
def Mis (k : Nat) : List PanicEntry := [{ v := .iface 158 (.int .i64 k), recovered := false }]
set_option maxRecDepth 100000 in
set_option maxHeartbeats 4000000 in
theorem py_fail {B b len cap : Nat} {A : Option Addr} {l : List Tok} {p : PS} {w : World} (h : PAt B b len cap A l p w) :
    Calls Tryd.prog 69 #[.pointer (some ⟨b, 0, none⟩)] w fun e w' => e = .panicked (Mis p.at_) ∧ Below w.heap.size w w' := by
  have c1 := h.c1
  unfold Mis
  clear h
  go_enter Tryd.func69, Tryd.ntmps69
  go_wp2
  exact ⟨rfl, rfl, Below.refl _ _⟩
end
/- Package syntax: nodes added, names, literals. -/
section
open Go.RowKit

/-- tokens as Scan hands them back -/
structure TokOk (l : List Tok) : Prop where
  sz : ∀ t ∈ l, t.text.size ≤ 400
  lit : ∀ t ∈ l, t.kind = 1 → (litV t.text).isSome = true
  len : l.length ≤ 400
theorem tokAt_sz {l : List Tok} (h : TokOk l) (i : Nat) : (tokAt l i).text.size ≤ 400 := by
  rcases Nat.lt_or_ge i l.length with hi | hi
  · rw [tokAt_lt hi]; exact h.sz _ (List.getElem_mem hi)
  · rw [tokAt_ge hi]; decide
theorem tokAt_lit {l : List Tok} (h : TokOk l) (i : Nat) (hk : (tokAt l i).kind = 1) : (litV (tokAt l i).text).isSome = true := by
  rcases Nat.lt_or_ge i l.length with hi | hi
  · rw [tokAt_lt hi] at hk ⊢; exact h.lit _ (List.getElem_mem hi) hk
  · rw [tokAt_ge hi] at hk; cases hk
theorem litV_lt {s : ByteArray} {v : Nat} (h : litV s = some v) : v < 340282366920938463463374607431768211456 := by
  unfold litV at h
  split at h
  · exact pv_lt h
  · cases h
theorem step_appY {w : World} {ops : Array Oper} {o : Oper} {a : Act} {K : Act → World → Prop} {Q : Exit → Act → World → Prop} {E : Prop} (hgd : o.guard = none) (s x : Operand) (t : TypeId)
    (ho : o.op = .call { callee := .builtin .append, args := #[s, x], argTypes := #[t, t] })
    (base : Nat) (e : TypeId) (i : TypeInfo) (z : Value) (size bytes : Nat) (ht : Tryd.prog.underlying t = some (.slice e)) (hi : Tryd.prog.info? e = some i) (hz : i.zero = some z)
    (hsize : i.size = size) (hby : i.bytes = bytes) (hzs : z.cells.size = size) (hsz : 0 < size)
    (v : Value) (n : Nat) (xs : List Value) (hs : a.eval s = v) (hown : w.ownsRow base e size v n xs)
    (ad : Addr) (m c : Nat) (news : List Value) (hx : a.eval x = .slice (some ad) m c) (hl : news.length = m * size) (hnews : ∀ j u, news[j]? = some u → w.cell? (ad.add j) = some u) (h1 : ∀ u ∈ news, u.oneCell' = true)
    (h63 : n + m ≤ maxLen) (hbytes : (n + m) * bytes ≤ 140737488355328) (hbase : base ≤ w.heap.size)
    (h : ∀ v' w', w'.ownsRow base e size v' (n + m) (xs ++ news) → w.grownBy w' v.ownBlock → (v' = .slice none 0 0 ↔ v = .slice none 0 0 ∧ m = 0) → K (a.put o.dst v') w') :
    if Region.wanted o (yielded ops a.tmps) = true then Oper.wp Tryd.prog o a w K Q else E := by
  rw [if_pos (by simp [Region.wanted, hgd])]
  exact wp_append_own w s x t ho base e i z size bytes ht hi hz hsize hby hzs hsz v n xs hs hown ad m c news hx hl hnews h1 h63 hbytes hbase h
/-- a node added -/
theorem PAt.app {B b len cap : Nat} {A : Option Addr} {l : List Tok} {p : PS} {W w' : World} {v : Value} {A2 : Option Addr} {cap2 : Nat} (h : PAt B b len cap A l p W) (n : Nd) (hv : W.cell? ⟨b, 2, none⟩ = some v)
    (hO : w'.ownsRow B 105 7 (.slice A2 (p.out.length + 1) cap2) (p.out.length + 1) (ncells p.out ++ ncell n)) (hg : W.grownBy w' v.ownBlock) :
    PAt B b len cap A l (p.nod n).2 (w'.setCell ⟨b, 2, none⟩ (.slice A2 (p.out.length + 1 : Nat) cap2)) ∧ Kp B b 105 W (w'.setCell ⟨b, 2, none⟩ (.slice A2 (p.out.length + 1 : Nat) cap2)) ∧ w'.cell? ⟨b, 2, none⟩ = some v ∧ w'.frozen? ⟨b, 2, none⟩ = false := by
  obtain ⟨A1, cap1, c2, ho, hn⟩ := h.c2
  obtain rfl : v = .slice A1 p.out.length cap1 := by rw [hv] at c2; injection c2
  have hlt := h.lt
  have hne : ¬ some b = (Value.slice A1 p.out.length cap1).ownBlock := fun e => hn e.symm
  have hkeep := hg.block b hlt hne
  have hBW : B ≤ W.heap.size := h.base
  have hn2 : (Value.slice A2 (p.out.length + 1) cap2).ownBlock ≠ some b := by
    intro e
    obtain ⟨g, c, hv2, hge, hl2⟩ := hO.form (by omega)
    injection hv2 with e1 e2 e3
    subst e1
    have eg : g = b := by simpa [Value.ownBlock] using e
    subst eg
    have h0 := hO.cellAt 0 (by omega)
    have h1 : w'.cell? ⟨g, 0, none⟩ = some (.slice A len cap) := by rw [World.cell?_of_block (w := W) (a := ⟨g, 0, none⟩) hkeep]; exact h.c0
    rw [h0] at h1
    cases ho : p.out with
    | nil => rw [ho] at h1; simp [ncells, ncell] at h1
    | cons x r => rw [ho] at h1; simp [ncells, ncell] at h1
  have hbel : Below B W w' := (Below.refl _ W).grown hg hBW (fun k hk => own_block_ge ho hk)
  have hnl : (p.nod n).2.out.length = p.out.length + 1 := by show (p.out ++ [n]).length = _; rw [List.length_append]; rfl
  refine ⟨⟨h.hB, h.hB1, by rw [World.size_setCell]; exact Nat.lt_of_lt_of_le hlt hg.size, (h.tok.below hbel).below ((Below.refl b w').setCell (p := ⟨b, 2, none⟩) (Nat.le_refl _) _ |>.mono h.hB), h.hl, h.hc, ?_, ?_, ⟨A2, cap2, ?_, ?_, ?_⟩, fun i => ?_, (h.sy.below hbel h.hB1).below ((Below.refl b w').setCell (p := ⟨b, 2, none⟩) (Nat.le_refl _) _) (by have := h.hB; have := h.hB1; omega)⟩, ⟨hbel.setCell (p := ⟨b, 2, none⟩) h.hB _, ((Lib.OthersKept.refl _ _ W).grown hg (fun k hk => own_kindY ho k hk)).setCell ⟨b, 2, none⟩ rfl _⟩, ?_, ?_⟩
  · rw [World.cell?_setCell_other _ _ _ _ (by intro e; injection e with _ e; omega), World.cell?_of_block (w := W) (a := ⟨b, 0, none⟩) hkeep]; exact h.c0
  · rw [World.cell?_setCell_other _ _ _ _ (by intro e; injection e with _ e; omega), World.cell?_of_block (w := W) (a := ⟨b, 1, none⟩) hkeep]; exact h.c1
  · rw [World.cell?_setCell_same' _ _ _ (by rw [World.cell?_of_block (w := W) (a := ⟨b, 2, none⟩) hkeep, c2]; rfl), hnl]
  · rw [hnl]
    show World.ownsRow _ _ _ _ _ _ (ncells (p.out ++ [n]))
    rw [ncells_snoc]
    exact own_setY hO hn2
  · rw [hnl]; exact hn2
  · rw [set_froz, World.frozen?_of_block (w := W) (a := ⟨b, i, none⟩) hkeep]; exact h.fr i
  · rw [World.cell?_of_block (w := W) (a := ⟨b, 2, none⟩) hkeep, c2]
  · rw [World.frozen?_of_block (w := W) (a := ⟨b, 2, none⟩) hkeep]; exact h.fr _
theorem info_ndT : (Tryd.prog.info? 105).map (fun i => (i.zero, i.size, i.bytes)) = some (some (.agg #[.int .i64 0, .int .i64 0, .int .i64 0, .string ⟨#[]⟩, .string ⟨#[]⟩, .int .u64 0, .int .u64 0]), 7, 72) := by kernel_rfl
theorem info_ndP : ∃ i, Tryd.prog.info? 105 = some i ∧ i.zero = some (.agg #[.int .i64 0, .int .i64 0, .int .i64 0, .string ⟨#[]⟩, .string ⟨#[]⟩, .int .u64 0, .int .u64 0]) ∧ i.size = 7 ∧ i.bytes = 72 := by
  obtain ⟨i, hi, hz⟩ := Option.map_eq_some_iff.1 info_ndT
  simp only [Prod.mk.injEq] at hz
  exact ⟨i, hi, hz.1, hz.2.1, hz.2.2⟩
set_option maxRecDepth 100000 in
set_option maxHeartbeats 4000000 in
theorem py_add {B b len cap : Nat} {A : Option Addr} {l : List Tok} {p : PS} {w : World} (h : PAt B b len cap A l p w) (hl : p.out.length ≤ 100000) (n : Nd) (x y z : Int) (nm at_ : ByteArray) (u t : Int) (hn : ncell n = [.int .i64 x, .int .i64 y, .int .i64 z, .string nm, .string at_, .int .u64 u, .int .u64 t]) :
    Calls Tryd.prog 80 #[.pointer (some ⟨b, 0, none⟩), .agg #[.int .i64 x, .int .i64 y, .int .i64 z, .string nm, .string at_, .int .u64 u, .int .u64 t]] w (RetS B b len cap A l (.int .i64 (p.out.length : Nat)) (p.nod n).2 w) := by
  obtain ⟨i0, hi0, hz0, hy1, hy2⟩ := info_ndP
  obtain ⟨A1, cap1, c2, ho, hno⟩ := h.c2
  have H1 := Lib.hid (h.alloc (.cells #[.int .i64 x, .int .i64 y, .int .i64 z, .string nm, .string at_, .int .u64 u, .int .u64 t] 105))
  have HK := Lib.hid ((Kp.refl B b 105 w).alloc h.base (.cells #[.int .i64 x, .int .i64 y, .int .i64 z, .string nm, .string at_, .int .u64 u, .int .u64 t] 105))
  have HI := Lib.hid hi0
  have HZ := Lib.hid hz0
  have HY1 := Lib.hid hy1
  have HY2 := Lib.hid hy2
  have HN := Lib.hid hn
  have hbw : b < w.heap.size := h.lt
  have hB0 := h.base
  clear hi0 hz0 hy1 hy2 hn h ho hno c2
  obtain ⟨k, hk⟩ : ∃ k, k = p.out.length := ⟨_, rfl⟩
  have HKK := Lib.hid hk
  have hkl : k ≤ 100000 := by omega
  rw [← hk]
  clear hk hl
  go_enter Tryd.func80, Tryd.ntmps80
  go_wp2
  have r : ∀ i, (w.alloc (.cells #[.int .i64 x, .int .i64 y, .int .i64 z, .string nm, .string at_, .int .u64 u, .int .u64 t] 105)).cell? ⟨w.heap.size, i, none⟩ = #[Value.int .i64 x, .int .i64 y, .int .i64 z, .string nm, .string at_, .int .u64 u, .int .u64 t][i]? := fun i => World.cell?_alloc_new ..
  have r0 := r 0
  have r1 := r 1
  have r2 := r 2
  have r3 := r 3
  have r4 := r 4
  have r5 := r 5
  have r6 := r 6
  simp only [List.getElem?_toArray, List.getElem?_cons_zero, List.getElem?_cons_succ] at r0 r1 r2 r3 r4 r5 r6
  have hbs : w.heap.size < (w.alloc (.cells #[.int .i64 x, .int .i64 y, .int .i64 z, .string nm, .string at_, .int .u64 u, .int .u64 t] 105)).heap.size := by simp
  clear r
  generalize w.alloc (.cells #[.int .i64 x, .int .i64 y, .int .i64 z, .string nm, .string at_, .int .u64 u, .int .u64 t] 105) = W at H1 HK r0 r1 r2 r3 r4 r5 r6 hbs ⊢
  generalize w.heap.size = bx at r0 r1 r2 r3 r4 r5 r6 hbs hbw hB0 ⊢
  obtain ⟨A1, cap1, c2, ho, hno⟩ := H1.out.c2
  rw [← HKK.out] at c2 ho
  have hbW : b < W.heap.size := by omega
  have HO := Lib.hid ho
  clear ho hno
  have f2 := H1.out.fr 2
  have HAp : Hid (∀ (v4 : Value) (w4 : World), w4.ownsRow B 105 7 v4 (k + 1) (ncells p.out ++ ncell n) → (W.drew.alloc (.cells #[.int .i64 x, .int .i64 y, .int .i64 z, .string nm, .string at_, .int .u64 u, .int .u64 t] 105)).grownBy w4 (Value.slice A1 k cap1).ownBlock → ∃ A2 cap2, v4 = .slice A2 (k + 1 : Nat) cap2 ∧ Hid (PAt B b len cap A l (p.nod n).2 (w4.setCell ⟨b, 2, none⟩ (.slice A2 (k + 1 : Nat) cap2))) ∧ Hid (Kp B b 105 w (w4.setCell ⟨b, 2, none⟩ (.slice A2 (k + 1 : Nat) cap2))) ∧ w4.cell? ⟨b, 2, none⟩ = some (.slice A1 k cap1) ∧ w4.frozen? ⟨b, 2, none⟩ = false) := Lib.hid (fun v4 w4 hO4 hg4 => by
    obtain ⟨A2, cap2, rfl⟩ := own_form2 hO4
    have hP := (H1.out.drew).alloc (.cells #[.int .i64 x, .int .i64 y, .int .i64 z, .string nm, .string at_, .int .u64 u, .int .u64 t] 105)
    have hv : (W.drew.alloc (.cells #[.int .i64 x, .int .i64 y, .int .i64 z, .string nm, .string at_, .int .u64 u, .int .u64 t] 105)).cell? ⟨b, 2, none⟩ = some (.slice A1 k cap1) := by
      rw [World.cell?_alloc_past _ _ _ (by exact hbW)]; exact c2
    have hO5 := hO4
    rw [HKK.out] at hO5
    have ha := hP.app n hv hO5 hg4
    rw [← HKK.out] at ha
    exact ⟨A2, cap2, rfl, Lib.hid ha.1, Lib.hid ((HK.out.drew.alloc (by have := H1.out.base; exact this) _).trans ha.2.1), ha.2.2.1, ha.2.2.2⟩)
  go_region_law (refine step_appY rfl (.tmp 9) (.tmp 11) 72 (by rfl) B 105 i0 _ 7 72 Tryd.underlying72 HI.out HZ.out HY1.out HY2.out rfl (by decide) _ k _ (by rfl) (World.ownsRow.alloc (World.ownsRow.drew HO.out) _) ⟨W.heap.size, 0, none⟩ 1 1 (ncell n) (by rfl) rfl (by rw [HN.out]; exact World.news_of_block (cs := #[.int .i64 x, .int .i64 y, .int .i64 z, .string nm, .string at_, .int .u64 u, .int .u64 t]) (t := 105) (fr := (0, 0)) (heap_alloc_new W.drew _)) (ncell_one n) (by unfold maxLen; omega) (by omega) (by have := H1.out.base; simp; omega) ?_; intro v4 w4 hO4 hg4 _; obtain ⟨A2, cap2, rfl, HP4, HK4, c4, f4⟩ := HAp.out v4 w4 hO4 hg4; clear hO4 hg4)
  all_goals
    have c5 : (w4.setCell ⟨b, 2, none⟩ (.slice A2 (k + 1 : Nat) cap2)).cell? ⟨b, 2, none⟩ = some (.slice A2 (k + 1 : Nat) cap2) := World.cell?_setCell_same' _ _ _ (by rw [c4]; rfl)
    generalize w4.setCell ⟨b, 2, none⟩ (.slice A2 (k + 1 : Nat) cap2) = W5 at HP4 HK4 c5 ⊢
    go_wp2
    go_ret
    exact ⟨by first | rfl | (congr 2; omega) | simp, HP4.out, HK4.out⟩
end
/- Package syntax: names, literals. -/
section
open Go.RowKit

set_option maxRecDepth 100000 in
set_option maxHeartbeats 4000000 in
theorem py_nameY {B b len cap : Nat} {A : Option Addr} {l : List Tok} {p : PS} {w : World} (h : PAt B b len cap A l p w) (hat : p.at_ ≤ 100000) (hT : TokOk l) (hk : (tokAt l p.at_).kind = 2) :
    Calls Tryd.prog 110 #[.pointer (some ⟨b, 0, none⟩)] w (RetS B b len cap A l (.string (tokAt l p.at_).text) p.adv w) := by
  have KP := Lib.hid (py_peek h)
  have hsz := tokAt_sz hT p.at_
  obtain ⟨a, ha⟩ : ∃ a, a = p.at_ := ⟨_, rfl⟩
  rw [hk] at KP
  obtain ⟨tx, hx⟩ : ∃ t, t = (tokAt l p.at_).text := ⟨_, rfl⟩
  obtain ⟨ta, hta⟩ : ∃ t : Nat, t = (tokAt l p.at_).at_ := ⟨_, rfl⟩
  rw [← hx, ← hta] at KP
  rw [← hx] at hsz ⊢
  have H := Lib.hid h
  have HA := Lib.hid ha
  have hal : a ≤ 100000 := by omega
  clear hx hta h ha hat hk hT
  have hwr : IntKind.i64.wrap ((a : Int) + 1) = (a : Int) + 1 := IntWalk.i64_in _ (by omega)
  go_enter Tryd.func110, Tryd.ntmps110
  go_wp2_with fail
  go_at_call 100
  refine KP.out.mono ?_
  rintro e w1 ⟨rfl, hb1⟩
  have h1 := H.out.call hb1
  have k1 : Kp B b 105 w w1 := Kp.of hb1 H.out.base
  have hA := h1.alloc (.cells #[.int .i64 2, .string tx, .int .i64 ta] 154)
  have HK := Lib.hid (k1.alloc h1.base (.cells #[.int .i64 2, .string tx, .int .i64 ta] 154))
  have H1 := Lib.hid hA
  have r0 : (w1.alloc (.cells #[.int .i64 2, .string tx, .int .i64 ta] 154)).cell? ⟨w1.heap.size, 0, none⟩ = some (.int .i64 2) := by rw [World.cell?_alloc_new]; rfl
  have r1 : (w1.alloc (.cells #[.int .i64 2, .string tx, .int .i64 ta] 154)).cell? ⟨w1.heap.size, 1, none⟩ = some (.string tx) := by rw [World.cell?_alloc_new]; rfl
  have hbb : w1.heap.size ≠ b := by have := h1.lt; omega
  clear KP hb1 h1 k1 hA
  go_upto_region 2 with (fail)
  generalize w1.alloc (.cells #[.int .i64 2, .string tx, .int .i64 ta] 154) = W at H1 HK r0 r1 ⊢
  generalize w1.heap.size = bx at r0 r1 hbb ⊢
  have c1 := H1.out.c1
  rw [← HA.out] at c1
  have f1 := H1.out.fr 1
  have hadv := adv_of H1.out
  rw [← HA.out] at hadv
  have HV := Lib.hid hadv
  have HK2 := Lib.hid (HK.out.set H1.out.hB 1 (.int .i64 ((a : Int) + 1)))
  clear hadv
  go_wp2_with (go_at_call 19; refine (st_clone tx (by omega) _).mono ?_; rintro e w3 ⟨rfl, hb3⟩; have HB3 := Lib.hid hb3; clear hb3)
  go_ret
  exact ⟨rfl, HV.out.call HB3.out, HK2.out.trans (Kp.of HB3.out HV.out.base)⟩
set_option maxRecDepth 100000 in
set_option maxHeartbeats 4000000 in
theorem py_nameN {B b len cap : Nat} {A : Option Addr} {l : List Tok} {p : PS} {w : World} (h : PAt B b len cap A l p w) (hk : (tokAt l p.at_).kind ≠ 2) :
    Calls Tryd.prog 110 #[.pointer (some ⟨b, 0, none⟩)] w (fun e w' => e = .panicked (Mis p.at_) ∧ Below B w w') := by
  have KP := Lib.hid (py_peek h)
  obtain ⟨tk, htk⟩ : ∃ t : Nat, t = (tokAt l p.at_).kind := ⟨_, rfl⟩
  rw [← htk] at KP hk
  obtain ⟨tx, hx⟩ : ∃ t, t = (tokAt l p.at_).text := ⟨_, rfl⟩
  obtain ⟨ta, hta⟩ : ∃ t : Nat, t = (tokAt l p.at_).at_ := ⟨_, rfl⟩
  rw [← hx, ← hta] at KP
  have H := Lib.hid h
  have hkI : ((tk : Int) == 2) = false := by rw [beq_eq_false_iff_ne]; omega
  have hkJ : ¬ (tk : Int) = 2 := by omega
  clear hx hta h htk
  obtain ⟨M, hM⟩ : ∃ M, M = Mis p.at_ := ⟨_, rfl⟩
  rw [← hM]
  have HM := Lib.hid hM
  clear hM
  go_enter Tryd.func110, Tryd.ntmps110
  go_wp2_with fail
  go_at_call 100
  refine KP.out.mono ?_
  rintro e w1 ⟨rfl, hb1⟩
  have h1 := H.out.call hb1
  have k1 : Kp B b 105 w w1 := Kp.of hb1 H.out.base
  have HK := Lib.hid (k1.alloc h1.base (.cells #[.int .i64 tk, .string tx, .int .i64 ta] 154))
  have H1 := Lib.hid (h1.alloc (.cells #[.int .i64 tk, .string tx, .int .i64 ta] 154))
  have r0 : (w1.alloc (.cells #[.int .i64 tk, .string tx, .int .i64 ta] 154)).cell? ⟨w1.heap.size, 0, none⟩ = some (.int .i64 tk) := by rw [World.cell?_alloc_new]; rfl
  clear KP hb1 h1 k1
  go_upto_region 2 with (fail)
  generalize w1.alloc (.cells #[.int .i64 tk, .string tx, .int .i64 ta] 154) = W at H1 HK r0 ⊢
  go_wp2_with fail
  go_at_call 69
  refine (py_fail H1.out).mono ?_
  rintro e w2 ⟨rfl, hb2⟩
  rw [← HM.out]
  have HB2 := Lib.hid (HK.out.below.trans (hb2.mono H1.out.base))
  clear hb2
  go_wp2_with fail
  exact ⟨rfl, rfl, HB2.out⟩
end
/- Package syntax: what the rules' methods return. -/
section
open Go.RowKit

/-- a rule's end: the node's index, or the panic with the place -/
def RetP (B b len cap : Nat) (A : Option Addr) (l : List Tok) (r : Nat × PS) (w : World) (e : Ending) (w' : World) : Prop :=
  (r.2.bad = false ∧ e = .returned (.int .i64 (r.1 : Nat)) ∧ PAt B b len cap A l r.2 w' ∧ Kp B b 105 w w') ∨ (r.2.bad = true ∧ e = .panicked (Mis r.2.at_) ∧ Below B w w')
/-- a place that a rule may begin at -/
structure PG (l : List Tok) (p : PS) : Prop where
  hb : p.bad = false
  ha : p.at_ ≤ l.length
  ho : p.out.length ≤ p.at_
theorem PG.went {l : List Tok} {p q : PS} (h : PG l p) (k : Went l p q) (hb : q.bad = false) : PG l q :=
  ⟨hb, k.len h.ha, by have := k.out; have := h.ho; have := k.le; omega⟩
theorem PG.adv {l : List Tok} {p : PS} (h : PG l p) {x : ByteArray} (hs : see l p x = true) : PG l p.adv :=
  ⟨h.hb, by show p.at_ + 1 ≤ _; have := (see_lt hs).1; omega, by show p.out.length ≤ p.at_ + 1; have := h.ho; omega⟩
/-- what the rules' methods do with fuel n -/
structure IH (l : List Tok) (n : Nat) : Prop where
  imp : ∀ {B b len cap : Nat} {A : Option Addr} {p : PS} {w : World} {r : Nat × PS}, PAt B b len cap A l p w → PG l p → pR l n .imp p = some r → Calls Tryd.prog 68 #[.pointer (some ⟨b, 0, none⟩)] w (RetP B b len cap A l r w)
  or : ∀ {B b len cap : Nat} {A : Option Addr} {p : PS} {w : World} {r : Nat × PS}, PAt B b len cap A l p w → PG l p → pR l n (.grp 0) p = some r → Calls Tryd.prog 78 #[.pointer (some ⟨b, 0, none⟩)] w (RetP B b len cap A l r w)
  and : ∀ {B b len cap : Nat} {A : Option Addr} {p : PS} {w : World} {r : Nat × PS}, PAt B b len cap A l p w → PG l p → pR l n (.grp 1) p = some r → Calls Tryd.prog 88 #[.pointer (some ⟨b, 0, none⟩)] w (RetP B b len cap A l r w)
  not : ∀ {B b len cap : Nat} {A : Option Addr} {p : PS} {w : World} {r : Nat × PS}, PAt B b len cap A l p w → PG l p → pR l n .not p = some r → Calls Tryd.prog 99 #[.pointer (some ⟨b, 0, none⟩)] w (RetP B b len cap A l r w)
  cmp : ∀ {B b len cap : Nat} {A : Option Addr} {p : PS} {w : World} {r : Nat × PS}, PAt B b len cap A l p w → PG l p → pR l n .cmp p = some r → Calls Tryd.prog 103 #[.pointer (some ⟨b, 0, none⟩)] w (RetP B b len cap A l r w)
  sum : ∀ {B b len cap : Nat} {A : Option Addr} {p : PS} {w : World} {r : Nat × PS}, PAt B b len cap A l p w → PG l p → pR l n (.grp 2) p = some r → Calls Tryd.prog 104 #[.pointer (some ⟨b, 0, none⟩)] w (RetP B b len cap A l r w)
  una : ∀ {B b len cap : Nat} {A : Option Addr} {p : PS} {w : World} {r : Nat × PS}, PAt B b len cap A l p w → PG l p → pR l n .una p = some r → Calls Tryd.prog 105 #[.pointer (some ⟨b, 0, none⟩)] w (RetP B b len cap A l r w)
  atm : ∀ {B b len cap : Nat} {A : Option Addr} {p : PS} {w : World} {r : Nat × PS}, PAt B b len cap A l p w → PG l p → pR l n .atm p = some r → Calls Tryd.prog 106 #[.pointer (some ⟨b, 0, none⟩)] w (RetP B b len cap A l r w)
/-- operator, called with a literal list -/
theorem py_op1 {B b len cap : Nat} {A : Option Addr} {l : List Tok} {p : PS} {w : World} (h : PAt B b len cap A l p w) (hT : TokOk l) (g : PG l p) (os : List Nat) (cs : Array Value) (hcs : ∀ i (hi : i < os.length), cs[i]? = some (.int .i64 (os[i]'hi : Nat))) (n : Nat) (hn : os.length = n) (hn2 : n ≤ 100) (hos : ∀ x ∈ os, 0 < x ∧ x < 17) :
    Calls Tryd.prog 79 #[.pointer (some ⟨b, 0, none⟩), .slice (some ⟨w.heap.size, 0, none⟩) n n] (w.alloc (.cells cs 3)) (RetS B b len cap A l (.int .i64 (opAt l p os : Nat)) (if opAt l p os = 0 then p else p.adv) w) := by
  have hlt := h.lt
  refine (py_operator (h.alloc (.cells cs 3)) g.hb (by have := g.ha; have := hT.len; omega) os w.heap.size n n ⟨cs, (0, 0), heap_alloc_new .., hcs⟩ (by omega) hn (Nat.le_refl _) hn2 hos).mono ?_
  rintro e w' ⟨h1, h2, h3⟩
  exact ⟨h1, h2, ((Kp.refl B b 105 w).alloc h.base _).trans h3⟩
/-- an operation's node, added -/
theorem py_addN {B b len cap : Nat} {A : Option Addr} {l : List Tok} {p : PS} {w : World} (h : PAt B b len cap A l p w) (hT : TokOk l) (g : PG l p) (o a c : Nat) (x y z : Int) (hx : (o : Int) = x) (hy : (a : Int) = y) (hz : (c : Int) = z) :
    Calls Tryd.prog 80 #[.pointer (some ⟨b, 0, none⟩), .agg #[.int .i64 x, .int .i64 y, .int .i64 z, .string ⟨#[]⟩, .string ⟨#[]⟩, .int .u64 0, .int .u64 0]] w (RetS B b len cap A l (.int .i64 (p.out.length : Nat)) (p.nod (nd o a c)).2 w) :=
  py_add h (by have := g.ha; have := g.ho; have := hT.len; omega) (nd o a c) x y z ⟨#[]⟩ ⟨#[]⟩ 0 0 (by subst hx hy hz; simp only [ncell, nd, hi_zero, lo_zero])
set_option maxRecDepth 100000 in
set_option maxHeartbeats 4000000 in
theorem py_imp {B b len cap n : Nat} {A : Option Addr} {l : List Tok} {p : PS} {w : World} {r : Nat × PS} (ih : IH l n) (hT : TokOk l) (h : PAt B b len cap A l p w) (g : PG l p) (e : pR l (n + 1) .imp p = some r) :
    Calls Tryd.prog 68 #[.pointer (some ⟨b, 0, none⟩)] w (RetP B b len cap A l r w) := by
  rw [pR] at e
  cases h1 : pR l n (.grp 0) p with
  | none => rw [h1] at e; cases e
  | some r1 =>
    rw [h1, Option.bind_some] at e
    have K1 := Lib.hid (ih.or h g h1)
    have W1 := Lib.hid (pR_went l _ _ _ _ h1)
    have HE := Lib.hid e
    have HG := Lib.hid g
    have hBw := h.base
    clear h1 e g h
    go_enter Tryd.func68, Tryd.ntmps68
    go_wp2_with fail
    go_at_call 78
    refine K1.out.mono ?_
    clear K1
    rintro e w1 (⟨hb1, rfl, p1, k1⟩ | ⟨hb1, rfl, hx1⟩)
    · have G1 := Lib.hid (HG.out.went W1.out hb1)
      have P1 := Lib.hid p1
      have HK1 := Lib.hid k1
      have HB1 := Lib.hid hb1
      clear p1 k1 hb1 W1
      obtain ⟨a1, ha1⟩ : ∃ a, a = r1.1 := ⟨_, rfl⟩
      rw [← ha1]
      have HA1 := Lib.hid ha1
      clear ha1
      go_wp2_with fail
      go_at_call 79
      refine (py_op1 P1.out hT G1.out [16] #[.int .i64 16] (by intro i hi; simp at hi; subst hi; rfl) 1 rfl (by decide) (by decide)).mono ?_
      rintro e w2 ⟨rfl, p2, k2⟩
      obtain ⟨o, ho⟩ : ∃ o, o = opAt l r1.2 [16] := ⟨_, rfl⟩
      rw [← ho] at p2 ⊢
      have HO := Lib.hid ho
      have HK2 := Lib.hid (HK1.out.trans k2)
      clear k2 ho HK1
      by_cases h0 : o = 0
      · subst h0
        rw [if_pos rfl] at p2
        have P2 := Lib.hid p2
        clear p2
        go_wp2_with fail
        go_ret
        have hE := HE.out
        rw [if_pos HO.out.symm] at hE
        injection hE with hE
        subst hE
        exact .inl ⟨HB1.out, by rw [HA1.out]; rfl, P2.out, HK2.out⟩
      · have h0I : ((o : Int) == 0) = false := by rw [beq_eq_false_iff_ne]; omega
        have h0J : ¬ (o : Int) = 0 := by omega
        rw [if_neg h0] at p2
        have P2 := Lib.hid p2
        have hs := opAt_see (l := l) (p := r1.2) (os := [16]) (by rw [← HO.out]; exact h0)
        have hE := HE.out
        rw [if_neg (by rw [← HO.out]; exact h0)] at hE
        have G2 := Lib.hid (G1.out.adv hs)
        have HS := Lib.hid hs
        clear p2 hs HE
        cases h2 : pR l n .imp r1.2.adv with
        | none => rw [h2] at hE; cases hE
        | some q =>
          rw [h2, Option.bind_some] at hE
          injection hE with hE
          have K3 := Lib.hid (ih.imp P2.out G2.out h2)
          have W3 := Lib.hid (pR_went l _ _ _ _ h2)
          have HE := Lib.hid hE
          clear hE h2
          go_wp2_with fail
          go_at_call 68
          refine K3.out.mono ?_
          clear K3
          rintro e w3 (⟨hb3, rfl, p3, k3⟩ | ⟨hb3, rfl, hx3⟩)
          · have G3 := Lib.hid (G2.out.went W3.out hb3)
            have P3 := Lib.hid p3
            have HK3 := Lib.hid (HK2.out.trans k3)
            have HB3 := Lib.hid hb3
            clear p3 k3 hb3 HK2
            obtain ⟨a3, ha3⟩ : ∃ a, a = q.1 := ⟨_, rfl⟩
            rw [← ha3]
            have HA3 := Lib.hid ha3
            clear ha3
            go_wp2_with fail
            go_at_call 80
            refine (py_addN P3.out hT G3.out 16 a1 a3 _ _ _ rfl rfl rfl).mono ?_
            rintro e w4 ⟨rfl, p4, k4⟩
            have P4 := Lib.hid p4
            have HK4 := Lib.hid (HK3.out.trans k4)
            clear p4 k4 HK3
            go_wp2_with fail
            go_ret
            rw [← HE.out, ← HA1.out, ← HA3.out]
            exact .inl ⟨HB3.out, rfl, P4.out, HK4.out⟩
          · have HX := Lib.hid (HK2.out.below.trans hx3)
            have HB3 := Lib.hid hb3
            clear hx3 hb3
            go_wp2_with fail
            refine ⟨rfl, .inr ?_⟩
            rw [← HE.out]
            exact ⟨HB3.out, rfl, HX.out⟩
    · have HX := Lib.hid hx1
      have HB1 := Lib.hid hb1
      clear hx1 hb1
      go_wp2_with fail
      have hE := HE.out
      rw [if_pos (opAt_bad HB1.out _)] at hE
      injection hE with hE
      subst hE
      exact ⟨rfl, .inr ⟨HB1.out, rfl, HX.out⟩⟩
end
/- Package syntax: the rules' methods, by induction. -/
section
open Go.RowKit

set_option maxRecDepth 100000 in
set_option maxHeartbeats 4000000 in
theorem py_una {B b len cap n : Nat} {A : Option Addr} {l : List Tok} {p : PS} {w : World} {r : Nat × PS} (ih : IH l n) (hT : TokOk l) (h : PAt B b len cap A l p w) (g : PG l p) (e : pR l (n + 1) .una p = some r) :
    Calls Tryd.prog 105 #[.pointer (some ⟨b, 0, none⟩)] w (RetP B b len cap A l r w) := by
  rw [pR] at e
  have HE := Lib.hid e
  have G0 := Lib.hid g
  have P0 := Lib.hid h
  have hB0 := h.base
  clear e g h
  go_enter Tryd.func105, Tryd.ntmps105
  go_wp2_with fail
  go_at_call 79
  refine (py_op1 P0.out hT G0.out [4] #[.int .i64 4] (by intro i hi; simp at hi; subst hi; rfl) 1 rfl (by decide) (by decide)).mono ?_
  rintro e w2 ⟨rfl, p2, k2⟩
  obtain ⟨o, ho⟩ : ∃ o, o = opAt l p [4] := ⟨_, rfl⟩
  rw [← ho] at p2 ⊢
  have HO := Lib.hid ho
  have HK2 := Lib.hid k2
  clear k2 ho
  by_cases h0 : o = 0
  · subst h0
    rw [if_pos rfl] at p2
    have P2 := Lib.hid p2
    have hE := HE.out
    rw [if_pos HO.out.symm] at hE
    have K3 := Lib.hid (ih.atm P2.out G0.out hE)
    clear p2 HE hE
    go_wp2_with fail
    go_at_call 106
    refine K3.out.mono ?_
    clear K3
    rintro e w3 (⟨hb3, rfl, p3, k3⟩ | ⟨hb3, rfl, hx3⟩)
    · have P3 := Lib.hid p3
      have HK3 := Lib.hid (HK2.out.trans k3)
      have HB3 := Lib.hid hb3
      clear p3 k3 hb3
      go_wp2_with fail
      go_ret
      exact .inl ⟨HB3.out, rfl, P3.out, HK3.out⟩
    · have HX := Lib.hid (HK2.out.below.trans hx3)
      have HB3 := Lib.hid hb3
      clear hx3 hb3
      go_wp2_with fail
      exact ⟨rfl, .inr ⟨HB3.out, rfl, HX.out⟩⟩
  · have h0I : ((o : Int) == 0) = false := by rw [beq_eq_false_iff_ne]; omega
    have h0J : ¬ (o : Int) = 0 := by omega
    rw [if_neg h0] at p2
    have P2 := Lib.hid p2
    have hs := opAt_see (l := l) (p := p) (os := [4]) (by rw [← HO.out]; exact h0)
    have hE := HE.out
    rw [if_neg (by rw [← HO.out]; exact h0)] at hE
    have G2 := Lib.hid (G0.out.adv hs)
    clear p2 hs HE
    cases h2 : pR l n .una p.adv with
    | none => rw [h2] at hE; cases hE
    | some q =>
      rw [h2, Option.bind_some] at hE
      injection hE with hE
      have K3 := Lib.hid (ih.una P2.out G2.out h2)
      have W3 := Lib.hid (pR_went l _ _ _ _ h2)
      have HE := Lib.hid hE
      clear hE h2
      go_wp2_with fail
      go_at_call 105
      refine K3.out.mono ?_
      clear K3
      rintro e w3 (⟨hb3, rfl, p3, k3⟩ | ⟨hb3, rfl, hx3⟩)
      · have G3 := Lib.hid (G2.out.went W3.out hb3)
        have P3 := Lib.hid p3
        have HK3 := Lib.hid (HK2.out.trans k3)
        have HB3 := Lib.hid hb3
        clear p3 k3 hb3 HK2
        obtain ⟨a3, ha3⟩ : ∃ a, a = q.1 := ⟨_, rfl⟩
        rw [← ha3]
        have HA3 := Lib.hid ha3
        clear ha3
        go_wp2_with fail
        go_at_call 80
        refine (py_addN P3.out hT G3.out 4 a3 0 _ _ _ rfl rfl rfl).mono ?_
        rintro e w4 ⟨rfl, p4, k4⟩
        have P4 := Lib.hid p4
        have HK4 := Lib.hid (HK3.out.trans k4)
        clear p4 k4 HK3
        go_wp2_with fail
        go_ret
        rw [← HE.out, ← HA3.out]
        exact .inl ⟨HB3.out, rfl, P4.out, HK4.out⟩
      · have HX := Lib.hid (HK2.out.below.trans hx3)
        have HB3 := Lib.hid hb3
        clear hx3 hb3
        go_wp2_with fail
        refine ⟨rfl, .inr ?_⟩
        rw [← HE.out]
        exact ⟨HB3.out, rfl, HX.out⟩
set_option maxRecDepth 100000 in
set_option maxHeartbeats 4000000 in
theorem py_not {B b len cap n : Nat} {A : Option Addr} {l : List Tok} {p : PS} {w : World} {r : Nat × PS} (ih : IH l n) (hT : TokOk l) (h : PAt B b len cap A l p w) (g : PG l p) (e : pR l (n + 1) .not p = some r) :
    Calls Tryd.prog 99 #[.pointer (some ⟨b, 0, none⟩)] w (RetP B b len cap A l r w) := by
  rw [pR] at e
  have HE := Lib.hid e
  have G0 := Lib.hid g
  have P0 := Lib.hid h
  have hB0 := h.base
  clear e g h
  go_enter Tryd.func99, Tryd.ntmps99
  go_wp2_with fail
  go_at_call 79
  refine (py_op1 P0.out hT G0.out [5] #[.int .i64 5] (by intro i hi; simp at hi; subst hi; rfl) 1 rfl (by decide) (by decide)).mono ?_
  rintro e w2 ⟨rfl, p2, k2⟩
  obtain ⟨o, ho⟩ : ∃ o, o = opAt l p [5] := ⟨_, rfl⟩
  rw [← ho] at p2 ⊢
  have HO := Lib.hid ho
  have HK2 := Lib.hid k2
  clear k2 ho
  by_cases h0 : o = 0
  · subst h0
    rw [if_pos rfl] at p2
    have P2 := Lib.hid p2
    have hE := HE.out
    rw [if_pos HO.out.symm] at hE
    have K3 := Lib.hid (ih.cmp P2.out G0.out hE)
    clear p2 HE hE
    go_wp2_with fail
    go_at_call 103
    refine K3.out.mono ?_
    clear K3
    rintro e w3 (⟨hb3, rfl, p3, k3⟩ | ⟨hb3, rfl, hx3⟩)
    · have P3 := Lib.hid p3
      have HK3 := Lib.hid (HK2.out.trans k3)
      have HB3 := Lib.hid hb3
      clear p3 k3 hb3
      go_wp2_with fail
      go_ret
      exact .inl ⟨HB3.out, rfl, P3.out, HK3.out⟩
    · have HX := Lib.hid (HK2.out.below.trans hx3)
      have HB3 := Lib.hid hb3
      clear hx3 hb3
      go_wp2_with fail
      exact ⟨rfl, .inr ⟨HB3.out, rfl, HX.out⟩⟩
  · have h0I : ((o : Int) == 0) = false := by rw [beq_eq_false_iff_ne]; omega
    have h0J : ¬ (o : Int) = 0 := by omega
    rw [if_neg h0] at p2
    have P2 := Lib.hid p2
    have hs := opAt_see (l := l) (p := p) (os := [5]) (by rw [← HO.out]; exact h0)
    have hE := HE.out
    rw [if_neg (by rw [← HO.out]; exact h0)] at hE
    have G2 := Lib.hid (G0.out.adv hs)
    clear p2 hs HE
    cases h2 : pR l n .not p.adv with
    | none => rw [h2] at hE; cases hE
    | some q =>
      rw [h2, Option.bind_some] at hE
      injection hE with hE
      have K3 := Lib.hid (ih.not P2.out G2.out h2)
      have W3 := Lib.hid (pR_went l _ _ _ _ h2)
      have HE := Lib.hid hE
      clear hE h2
      go_wp2_with fail
      go_at_call 99
      refine K3.out.mono ?_
      clear K3
      rintro e w3 (⟨hb3, rfl, p3, k3⟩ | ⟨hb3, rfl, hx3⟩)
      · have G3 := Lib.hid (G2.out.went W3.out hb3)
        have P3 := Lib.hid p3
        have HK3 := Lib.hid (HK2.out.trans k3)
        have HB3 := Lib.hid hb3
        clear p3 k3 hb3 HK2
        obtain ⟨a3, ha3⟩ : ∃ a, a = q.1 := ⟨_, rfl⟩
        rw [← ha3]
        have HA3 := Lib.hid ha3
        clear ha3
        go_wp2_with fail
        go_at_call 80
        refine (py_addN P3.out hT G3.out 5 a3 0 _ _ _ rfl rfl rfl).mono ?_
        rintro e w4 ⟨rfl, p4, k4⟩
        have P4 := Lib.hid p4
        have HK4 := Lib.hid (HK3.out.trans k4)
        clear p4 k4 HK3
        go_wp2_with fail
        go_ret
        rw [← HE.out, ← HA3.out]
        exact .inl ⟨HB3.out, rfl, P4.out, HK4.out⟩
      · have HX := Lib.hid (HK2.out.below.trans hx3)
        have HB3 := Lib.hid hb3
        clear hx3 hb3
        go_wp2_with fail
        refine ⟨rfl, .inr ?_⟩
        rw [← HE.out]
        exact ⟨HB3.out, rfl, HX.out⟩
set_option maxRecDepth 100000 in
set_option maxHeartbeats 4000000 in
theorem py_cmp {B b len cap n : Nat} {A : Option Addr} {l : List Tok} {p : PS} {w : World} {r : Nat × PS} (ih : IH l n) (hT : TokOk l) (h : PAt B b len cap A l p w) (g : PG l p) (e : pR l (n + 1) .cmp p = some r) :
    Calls Tryd.prog 103 #[.pointer (some ⟨b, 0, none⟩)] w (RetP B b len cap A l r w) := by
  rw [pR] at e
  cases h1 : pR l n (.grp 2) p with
  | none => rw [h1] at e; cases e
  | some r1 =>
    rw [h1, Option.bind_some] at e
    have K1 := Lib.hid (ih.sum h g h1)
    have W1 := Lib.hid (pR_went l _ _ _ _ h1)
    have HE := Lib.hid e
    have HG := Lib.hid g
    have hBw := h.base
    clear h1 e g h
    go_enter Tryd.func103, Tryd.ntmps103
    go_wp2_with fail
    go_at_call 104
    refine K1.out.mono ?_
    clear K1
    rintro e w1 (⟨hb1, rfl, p1, k1⟩ | ⟨hb1, rfl, hx1⟩)
    · have G1 := Lib.hid (HG.out.went W1.out hb1)
      have P1 := Lib.hid p1
      have HK1 := Lib.hid k1
      have HB1 := Lib.hid hb1
      clear p1 k1 hb1 W1
      obtain ⟨a1, ha1⟩ : ∃ a, a = r1.1 := ⟨_, rfl⟩
      rw [← ha1]
      have HA1 := Lib.hid ha1
      clear ha1
      go_wp2_with fail
      go_at_call 79
      refine (py_op1 P1.out hT G1.out [8, 9, 10, 11, 12, 13] #[.int .i64 8, .int .i64 9, .int .i64 10, .int .i64 11, .int .i64 12, .int .i64 13] (by intro i hi; simp at hi; have h6 : i = 0 ∨ i = 1 ∨ i = 2 ∨ i = 3 ∨ i = 4 ∨ i = 5 := (by omega); rcases h6 with rfl | rfl | rfl | rfl | rfl | rfl <;> rfl) 6 rfl (by decide) (by decide)).mono ?_
      rintro e w2 ⟨rfl, p2, k2⟩
      obtain ⟨o, ho⟩ : ∃ o, o = opAt l r1.2 [8, 9, 10, 11, 12, 13] := ⟨_, rfl⟩
      rw [← ho] at p2 ⊢
      have HO := Lib.hid ho
      have HK2 := Lib.hid (HK1.out.trans k2)
      clear k2 ho HK1
      by_cases h0 : o = 0
      · subst h0
        rw [if_pos rfl] at p2
        have P2 := Lib.hid p2
        clear p2
        go_wp2_with fail
        go_ret
        have hE := HE.out
        rw [if_pos HO.out.symm] at hE
        injection hE with hE
        subst hE
        exact .inl ⟨HB1.out, by rw [HA1.out]; rfl, P2.out, HK2.out⟩
      · have h0I : ((o : Int) == 0) = false := by rw [beq_eq_false_iff_ne]; omega
        have h0J : ¬ (o : Int) = 0 := by omega
        rw [if_neg h0] at p2
        have P2 := Lib.hid p2
        have hs := opAt_see (l := l) (p := r1.2) (os := [8, 9, 10, 11, 12, 13]) (by rw [← HO.out]; exact h0)
        have hE := HE.out
        rw [if_neg (by rw [← HO.out]; exact h0)] at hE
        have G2 := Lib.hid (G1.out.adv hs)
        have HS := Lib.hid hs
        clear p2 hs HE
        cases h2 : pR l n (.grp 2) r1.2.adv with
        | none => rw [h2] at hE; cases hE
        | some q =>
          rw [h2, Option.bind_some] at hE
          injection hE with hE
          have K3 := Lib.hid (ih.sum P2.out G2.out h2)
          have W3 := Lib.hid (pR_went l _ _ _ _ h2)
          have HE := Lib.hid hE
          clear hE h2
          go_wp2_with fail
          go_at_call 104
          refine K3.out.mono ?_
          clear K3
          rintro e w3 (⟨hb3, rfl, p3, k3⟩ | ⟨hb3, rfl, hx3⟩)
          · have G3 := Lib.hid (G2.out.went W3.out hb3)
            have P3 := Lib.hid p3
            have HK3 := Lib.hid (HK2.out.trans k3)
            have HB3 := Lib.hid hb3
            clear p3 k3 hb3 HK2
            obtain ⟨a3, ha3⟩ : ∃ a, a = q.1 := ⟨_, rfl⟩
            rw [← ha3]
            have HA3 := Lib.hid ha3
            clear ha3
            go_wp2_with fail
            go_at_call 80
            refine (py_addN P3.out hT G3.out o a1 a3 _ _ _ rfl rfl rfl).mono ?_
            rintro e w4 ⟨rfl, p4, k4⟩
            have P4 := Lib.hid p4
            have HK4 := Lib.hid (HK3.out.trans k4)
            clear p4 k4 HK3
            go_wp2_with fail
            go_ret
            rw [← HE.out, ← HO.out, ← HA1.out, ← HA3.out]
            exact .inl ⟨HB3.out, rfl, P4.out, HK4.out⟩
          · have HX := Lib.hid (HK2.out.below.trans hx3)
            have HB3 := Lib.hid hb3
            clear hx3 hb3
            go_wp2_with fail
            refine ⟨rfl, .inr ?_⟩
            rw [← HE.out]
            exact ⟨HB3.out, rfl, HX.out⟩
    · have HX := Lib.hid hx1
      have HB1 := Lib.hid hb1
      clear hx1 hb1
      go_wp2_with fail
      have hE := HE.out
      rw [if_pos (opAt_bad HB1.out _)] at hE
      injection hE with hE
      subst hE
      exact ⟨rfl, .inr ⟨HB1.out, rfl, HX.out⟩⟩
end
/- Package syntax: grouped, and the rules that it makes. -/
section
open Go.RowKit

/-- the place in memory -/
def yAt (b : Nat) (w : World) : Nat := match w.cell? ⟨b, 1, none⟩ with
  | some (.int _ i) => 401 - i.toNat
  | _ => 0
theorem yAt_eq {B b len cap : Nat} {A : Option Addr} {l : List Tok} {p : PS} {w : World} (h : PAt B b len cap A l p w) : yAt b w = 401 - p.at_ := by
  unfold yAt; rw [h.c1]; simp
set_option maxRecDepth 100000 in
set_option maxHeartbeats 4000000 in
theorem py_grp {B b len cap n : Nat} {A : Option Addr} {l : List Tok} {p : PS} {w : World} {r : Nat × PS} (k F : Nat) (hT : TokOk l) (h : PAt B b len cap A l p w) (g : PG l p) (e : pR l (n + 1) (.grp k) p = some r)
    (hF : ∀ (m : Nat), m ≤ n → ∀ {p : PS} {w : World} {r : Nat × PS}, PAt B b len cap A l p w → PG l p → pR l m (prt k) p = some r → Calls Tryd.prog F #[.pointer (some ⟨b, 0, none⟩)] w (RetP B b len cap A l r w))
    (hrun : ∀ W : World, (callFunc F #[.pointer (some ⟨b, 0, none⟩)]).run Tryd.prog W = .ok (.enter F #[.pointer (some ⟨b, 0, none⟩)]) W)
    (O on : Nat) (hO : OpsR w O (gops k)) (hOb : O ≠ b) (hon : (gops k).length = on) (hon2 : on ≤ 100) (hos : ∀ x ∈ gops k, 0 < x ∧ x < 17) :
    Calls Tryd.prog 87 #[.pointer (some ⟨b, 0, none⟩), .func (Fn.func F) #[.pointer (some ⟨b, 0, none⟩)] #[], .slice (some ⟨O, 0, none⟩) on on] w (RetP B b len cap A l r w) := by
  rw [pR] at e
  cases h1 : pR l n (prt k) p with
  | none => rw [h1] at e; cases e
  | some r1 =>
    rw [h1, Option.bind_some] at e
    have K1 := Lib.hid (hF n (Nat.le_refl _) h g h1)
    have W1 := Lib.hid (pR_went l _ _ _ _ h1)
    have HE := Lib.hid e
    have HG := Lib.hid g
    have HF := Lib.hid (@hF)
    have HO := Lib.hid hO
    have HON := Lib.hid hon
    have HOS := Lib.hid hos
    have hBw := h.base
    clear h1 e g h hF hO hon hos
    go_enter Tryd.func87, Tryd.ntmps87
    go_wp2_with fail
    refine K1.out.mono ?_
    clear K1
    rintro e w1 (⟨hb1, rfl, p1, k1⟩ | ⟨hb1, rfl, hx1⟩)
    · have G1 := Lib.hid (HG.out.went W1.out hb1)
      have P1 := Lib.hid p1
      have HK1 := Lib.hid k1
      clear p1 k1 hb1 W1
      go_wp2_with fail
      go_loopw [7] (fun v w' => ∃ (a m : Nat) (q : PS), m ≤ n ∧ v = .int .i64 a ∧ PAt B b len cap A l q w' ∧ Kp B b 105 w w' ∧ PG l q ∧ Hid (pR l m (.grpL k a) q = some r)) (fun _ w' => yAt b w')
      case atStart => exact ⟨r1.1, n, r1.2, Nat.le_refl _, rfl, P1.out, HK1.out, G1.out, HE⟩
      case round =>
        clear HE G1 P1 HK1 HG
        obtain ⟨a, m, q, hm, rfl, hP, hK, hG, HE⟩ := hrel
        have HP := Lib.hid hP
        have HK := Lib.hid hK
        have HG := Lib.hid hG
        clear hP hK hG
        obtain ⟨m1, rfl⟩ : ∃ m1, m = m1 + 1 := by
          cases m with
          | zero => have := HE.out; rw [pR] at this; cases this
          | succ m => exact ⟨m, rfl⟩
        have hE := HE.out
        rw [pR] at hE
        have HE2 := Lib.hid hE
        clear hE HE
        go_wp2_with fail
        go_at_call 79
        refine (py_operator HP.out HG.out.hb (by have := HG.out.ha; have := hT.len; omega) (gops k) O on on (HO.out.kept HK.out hOb) hOb HON.out (Nat.le_refl _) hon2 HOS.out).mono ?_
        rintro e w2 ⟨rfl, p2, k2⟩
        obtain ⟨o, ho⟩ : ∃ o, o = opAt l q (gops k) := ⟨_, rfl⟩
        rw [← ho] at p2 ⊢
        have HO2 := Lib.hid ho
        have HK2 := Lib.hid (HK.out.trans k2)
        clear k2 ho HK
        by_cases h0 : o = 0
        · subst h0
          rw [if_pos rfl] at p2
          have P2 := Lib.hid p2
          have hE := HE2.out
          rw [if_pos HO2.out.symm] at hE
          injection hE with hE
          have HE3 := Lib.hid hE
          clear p2 HE2 hE
          go_wp2_with fail
          go_ret
          rw [← HE3.out]
          exact .inl ⟨HG.out.hb, rfl, P2.out, HK2.out⟩
        · have h0I : ((o : Int) == 0) = false := by rw [beq_eq_false_iff_ne]; omega
          have h0J : ¬ (o : Int) = 0 := by omega
          rw [if_neg h0] at p2
          have P2 := Lib.hid p2
          have hs := opAt_see (l := l) (p := q) (os := gops k) (by rw [← HO2.out]; exact h0)
          have hE := HE2.out
          rw [if_neg (by rw [← HO2.out]; exact h0), ← HO2.out] at hE
          have G2 := Lib.hid (HG.out.adv hs)
          clear p2 hs HE2
          cases h2 : pR l m1 (prt k) q.adv with
          | none => rw [h2] at hE; cases hE
          | some u =>
            rw [h2, Option.bind_some] at hE
            have K3 := Lib.hid (HF.out m1 (by omega) P2.out G2.out h2)
            have W3 := Lib.hid (pR_went l _ _ _ _ h2)
            have HE := Lib.hid hE
            clear hE h2
            go_wp2_with fail
            refine K3.out.mono ?_
            clear K3
            rintro e w3 (⟨hb3, rfl, p3, k3⟩ | ⟨hb3, rfl, hx3⟩)
            · have G3 := Lib.hid (G2.out.went W3.out hb3)
              have P3 := Lib.hid p3
              have HK3 := Lib.hid (HK2.out.trans k3)
              clear p3 k3 hb3 HK2
              obtain ⟨a3, ha3⟩ : ∃ a, a = u.1 := ⟨_, rfl⟩
              rw [← ha3]
              have HA3 := Lib.hid ha3
              clear ha3
              go_wp2_with fail
              go_at_call 80
              refine (py_addN P3.out hT G3.out o a a3 _ _ _ rfl rfl rfl).mono ?_
              rintro e w4 ⟨rfl, p4, k4⟩
              have P4 := Lib.hid p4
              have HK4 := Lib.hid (HK3.out.trans k4)
              have hw1 : q.at_ + 1 ≤ u.2.at_ := W3.out.le
              have hw2 : u.2.at_ ≤ 400 := Nat.le_trans G3.out.ha hT.len
              have HY1 := Lib.hid (yAt_eq HP.out)
              have HY4 : Hid (yAt b w4 = 401 - u.2.at_) := Lib.hid (by have := yAt_eq p4; exact this)
              have hol : u.2.out.length + 1 ≤ u.2.at_ := by
                have h1 := W3.out.out
                have h2 := HG.out.ho
                have h3 : u.2.out.length + (q.at_ + 1) ≤ q.out.length + u.2.at_ := h1
                omega
              have G4 : Hid (PG l (u.2.nod (nd o a a3)).2) := Lib.hid ⟨G3.out.hb, G3.out.ha, by show (u.2.out ++ [_]).length ≤ _; rw [List.length_append]; exact hol⟩
              clear p4 k4 HK3
              go_wp2_with fail
              go_roundw
              case rel => (go_light; exact ⟨u.2.out.length, m1, (u.2.nod (nd o a a3)).2, by omega, rfl, P4.out, HK4.out, G4.out, Lib.hid (by have := HE.out; rw [← HA3.out] at this; exact this)⟩)
              case measure => rw [HY1.out, HY4.out]; omega
            · have HX := Lib.hid (HK2.out.below.trans hx3)
              have HB3 := Lib.hid hb3
              clear hx3 hb3
              go_wp2_with fail
              have hz := (pR_went l _ _ _ _ HE.out).bad HB3.out
              have hz2 : r.2.at_ = u.2.at_ := hz.2
              refine ⟨rfl, .inr ⟨hz.1, by rw [hz2], HX.out⟩⟩
    · have HX := Lib.hid hx1
      have HB1 := Lib.hid hb1
      clear hx1 hb1
      go_wp2_with fail
      have hz := (pR_went l _ _ _ _ HE.out).bad HB1.out
      exact ⟨rfl, .inr ⟨hz.1, by rw [hz.2], HX.out⟩⟩
end
/- Package syntax: or, and, sum; literal, named, atom; all rules. -/
section
open Go.RowKit

set_option maxRecDepth 100000 in
set_option maxHeartbeats 4000000 in
theorem py_or {B b len cap n : Nat} {A : Option Addr} {l : List Tok} {p : PS} {w : World} {r : Nat × PS} (ih : ∀ m, m ≤ n → IH l m) (hT : TokOk l) (h : PAt B b len cap A l p w) (g : PG l p) (e : pR l (n + 1) (.grp 0) p = some r) :
    Calls Tryd.prog 78 #[.pointer (some ⟨b, 0, none⟩)] w (RetP B b len cap A l r w) := by
  have hmf : ∀ (fn : Fn) (first cap : Array Value) (w : World), (Instr.makeFunc fn first cap).run Tryd.prog w = .ok (.func fn first cap) w := fun _ _ _ _ => rfl
  have hrun : ∀ W : World, (callFunc 88 #[.pointer (some ⟨b, 0, none⟩)]).run Tryd.prog W = .ok (.enter 88 #[.pointer (some ⟨b, 0, none⟩)]) W := fun W => by kernel_rfl
  have hlt := h.lt
  have P1 := h.alloc (.cells #[.int .i64 15] 3)
  have K := Lib.hid (py_grp 0 88 hT P1 g e (fun m hm {_ _ _} hp hg he => (ih m hm).and hp hg he) hrun w.heap.size 1 ⟨#[.int .i64 15], (0, 0), heap_alloc_new .., by intro i hi; simp [gops] at hi; subst hi; rfl⟩ (by omega) rfl (by decide) (by decide))
  have HK1 := Lib.hid ((Kp.refl B b 105 w).alloc h.base (.cells #[.int .i64 15] 3))
  clear P1 g e h ih hrun
  go_enter Tryd.func78, Tryd.ntmps78
  go_wp2_with fail
  go_at_call 87
  refine K.out.mono ?_
  rintro e w3 (⟨hb3, rfl, p3, k3⟩ | ⟨hb3, rfl, hx3⟩)
  · have P3 := Lib.hid p3
    have HK3 := Lib.hid (HK1.out.trans k3)
    have HB3 := Lib.hid hb3
    clear p3 k3 hb3
    go_wp2_with fail
    go_ret
    exact .inl ⟨HB3.out, rfl, P3.out, HK3.out⟩
  · have HX := Lib.hid (HK1.out.below.trans hx3)
    have HB3 := Lib.hid hb3
    clear hx3 hb3
    go_wp2_with fail
    exact ⟨rfl, .inr ⟨HB3.out, rfl, HX.out⟩⟩
set_option maxRecDepth 100000 in
set_option maxHeartbeats 4000000 in
theorem py_and {B b len cap n : Nat} {A : Option Addr} {l : List Tok} {p : PS} {w : World} {r : Nat × PS} (ih : ∀ m, m ≤ n → IH l m) (hT : TokOk l) (h : PAt B b len cap A l p w) (g : PG l p) (e : pR l (n + 1) (.grp 1) p = some r) :
    Calls Tryd.prog 88 #[.pointer (some ⟨b, 0, none⟩)] w (RetP B b len cap A l r w) := by
  have hmf : ∀ (fn : Fn) (first cap : Array Value) (w : World), (Instr.makeFunc fn first cap).run Tryd.prog w = .ok (.func fn first cap) w := fun _ _ _ _ => rfl
  have hrun : ∀ W : World, (callFunc 99 #[.pointer (some ⟨b, 0, none⟩)]).run Tryd.prog W = .ok (.enter 99 #[.pointer (some ⟨b, 0, none⟩)]) W := fun W => by kernel_rfl
  have hlt := h.lt
  have P1 := h.alloc (.cells #[.int .i64 14] 3)
  have K := Lib.hid (py_grp 1 99 hT P1 g e (fun m hm {_ _ _} hp hg he => (ih m hm).not hp hg he) hrun w.heap.size 1 ⟨#[.int .i64 14], (0, 0), heap_alloc_new .., by intro i hi; simp [gops] at hi; subst hi; rfl⟩ (by omega) rfl (by decide) (by decide))
  have HK1 := Lib.hid ((Kp.refl B b 105 w).alloc h.base (.cells #[.int .i64 14] 3))
  clear P1 g e h ih hrun
  go_enter Tryd.func88, Tryd.ntmps88
  go_wp2_with fail
  go_at_call 87
  refine K.out.mono ?_
  rintro e w3 (⟨hb3, rfl, p3, k3⟩ | ⟨hb3, rfl, hx3⟩)
  · have P3 := Lib.hid p3
    have HK3 := Lib.hid (HK1.out.trans k3)
    have HB3 := Lib.hid hb3
    clear p3 k3 hb3
    go_wp2_with fail
    go_ret
    exact .inl ⟨HB3.out, rfl, P3.out, HK3.out⟩
  · have HX := Lib.hid (HK1.out.below.trans hx3)
    have HB3 := Lib.hid hb3
    clear hx3 hb3
    go_wp2_with fail
    exact ⟨rfl, .inr ⟨HB3.out, rfl, HX.out⟩⟩
set_option maxRecDepth 100000 in
set_option maxHeartbeats 4000000 in
theorem py_sum {B b len cap n : Nat} {A : Option Addr} {l : List Tok} {p : PS} {w : World} {r : Nat × PS} (ih : ∀ m, m ≤ n → IH l m) (hT : TokOk l) (h : PAt B b len cap A l p w) (g : PG l p) (e : pR l (n + 1) (.grp 2) p = some r) :
    Calls Tryd.prog 104 #[.pointer (some ⟨b, 0, none⟩)] w (RetP B b len cap A l r w) := by
  have hmf : ∀ (fn : Fn) (first cap : Array Value) (w : World), (Instr.makeFunc fn first cap).run Tryd.prog w = .ok (.func fn first cap) w := fun _ _ _ _ => rfl
  have hrun : ∀ W : World, (callFunc 105 #[.pointer (some ⟨b, 0, none⟩)]).run Tryd.prog W = .ok (.enter 105 #[.pointer (some ⟨b, 0, none⟩)]) W := fun W => by kernel_rfl
  have hlt := h.lt
  have P1 := h.alloc (.cells #[.int .i64 6, .int .i64 7] 3)
  have K := Lib.hid (py_grp 2 105 hT P1 g e (fun m hm {_ _ _} hp hg he => (ih m hm).una hp hg he) hrun w.heap.size 2 ⟨#[.int .i64 6, .int .i64 7], (0, 0), heap_alloc_new .., by intro i hi; simp [gops] at hi; have h2 : i = 0 ∨ i = 1 := (by omega); rcases h2 with rfl | rfl <;> rfl⟩ (by omega) rfl (by decide) (by decide))
  have HK1 := Lib.hid ((Kp.refl B b 105 w).alloc h.base (.cells #[.int .i64 6, .int .i64 7] 3))
  clear P1 g e h ih hrun
  go_enter Tryd.func104, Tryd.ntmps104
  go_wp2_with fail
  go_at_call 87
  refine K.out.mono ?_
  rintro e w3 (⟨hb3, rfl, p3, k3⟩ | ⟨hb3, rfl, hx3⟩)
  · have P3 := Lib.hid p3
    have HK3 := Lib.hid (HK1.out.trans k3)
    have HB3 := Lib.hid hb3
    clear p3 k3 hb3
    go_wp2_with fail
    go_ret
    exact .inl ⟨HB3.out, rfl, P3.out, HK3.out⟩
  · have HX := Lib.hid (HK1.out.below.trans hx3)
    have HB3 := Lib.hid hb3
    clear hx3 hb3
    go_wp2_with fail
    exact ⟨rfl, .inr ⟨HB3.out, rfl, HX.out⟩⟩
set_option maxRecDepth 100000 in
theorem run_tok1 (x z : Int) (y : ByteArray) (w : World) : (Instr.field 154 (.agg #[.int .i64 x, .string y, .int .i64 z]) 1).run Tryd.prog w = .ok (.string y) w := by
  first | rfl | kernel_rfl
set_option maxRecDepth 100000 in
theorem run_tok0 (x z : Int) (y : ByteArray) (w : World) : (Instr.field 154 (.agg #[.int .i64 x, .string y, .int .i64 z]) 0).run Tryd.prog w = .ok (.int .i64 x) w := by
  first | rfl | kernel_rfl
set_option maxRecDepth 100000 in
set_option maxHeartbeats 4000000 in
theorem py_literal {B b len cap : Nat} {A : Option Addr} {l : List Tok} {p : PS} {w : World} (hT : TokOk l) (h : PAt B b len cap A l p w) (g : PG l p) (hk : (tokAt l p.at_).kind = 1) :
    Calls Tryd.prog 107 #[.pointer (some ⟨b, 0, none⟩)] w (RetP B b len cap A l (p.adv.nod ⟨1, 0, 0, ⟨#[]⟩, ⟨#[]⟩, (litV (tokAt l p.at_).text).getD 0⟩) w) := by
  have KP := Lib.hid (py_peek h)
  have hsz := tokAt_sz hT p.at_
  have hlit := tokAt_lit hT p.at_ hk
  obtain ⟨v, hv⟩ : ∃ v, litV (tokAt l p.at_).text = some v := Option.isSome_iff_exists.1 hlit
  have hvl := litV_lt hv
  have KL : Hid (∀ W, Calls Tryd.prog 77 #[.string (tokAt l p.at_).text] W (RetNB v true W)) := Lib.hid fun W => by
    have := nn_literal (tokAt l p.at_).text (by omega) W
    rw [hv] at this; exact this
  have KV : Hid (∀ W, Calls Tryd.prog 109 #[.agg #[.int .u32 (wd v 0), .int .u32 (wd v 1), .int .u32 (wd v 2), .int .u32 (wd v 3), .int .u32 (wd v 4), .int .u32 (wd v 5)]] W (RetVB v true W)) := Lib.hid fun W => nn_val_yes v hvl W
  rw [hv]
  rw [hk] at KP
  obtain ⟨tx, hx⟩ : ∃ t, t = (tokAt l p.at_).text := ⟨_, rfl⟩
  obtain ⟨ta, hta⟩ : ∃ t : Nat, t = (tokAt l p.at_).at_ := ⟨_, rfl⟩
  rw [← hx, ← hta] at KP
  rw [← hx] at KL
  obtain ⟨a, ha⟩ : ∃ a, a = p.at_ := ⟨_, rfl⟩
  have hal : a ≤ 400 := by rw [ha]; exact Nat.le_trans g.ha hT.len
  have hol : p.out.length ≤ 400 := Nat.le_trans g.ho (Nat.le_trans g.ha hT.len)
  have H := Lib.hid h
  have HA := Lib.hid ha
  have HOL := Lib.hid hol
  have HGB := Lib.hid g.hb
  have hwr : IntKind.i64.wrap ((a : Int) + 1) = (a : Int) + 1 := IntWalk.i64_in _ (by omega)
  obtain ⟨x0, hx0⟩ : ∃ x : Int, x = hi v := ⟨_, rfl⟩
  obtain ⟨x1, hx1⟩ : ∃ x : Int, x = lo v := ⟨_, rfl⟩
  have KV2 : Hid (∀ W, Calls Tryd.prog 109 #[.agg #[.int .u32 (wd v 0), .int .u32 (wd v 1), .int .u32 (wd v 2), .int .u32 (wd v 3), .int .u32 (wd v 4), .int .u32 (wd v 5)]] W (fun e w' => e = .returned (.tuple #[.agg #[.int .u64 x0, .int .u64 x1], .bool true]) ∧ Below W.heap.size W w')) := Lib.hid fun W => by rw [hx0, hx1]; exact KV.out W
  have HC : Hid (ncell ⟨1, 0, 0, ⟨#[]⟩, ⟨#[]⟩, v⟩ = [.int .i64 1, .int .i64 0, .int .i64 0, .string ⟨#[]⟩, .string ⟨#[]⟩, .int .u64 x0, .int .u64 x1]) := Lib.hid (by rw [hx0, hx1]; rfl)
  clear hx hta h ha hk hT g hv hlit hsz KV hx0 hx1 hol hvl
  go_enter Tryd.func107, Tryd.ntmps107
  go_wp2_with fail
  go_at_call 100
  refine KP.out.mono ?_
  rintro e w1 ⟨rfl, hb1⟩
  have H1 := Lib.hid (H.out.call hb1)
  have HK1 : Hid (Kp B b 105 w w1) := Lib.hid (Kp.of hb1 H.out.base)
  clear KP hb1
  go_wp2_with (simp only [run_tok1])
  go_at_call 77
  refine (KL.out _).mono ?_
  rintro e w2 ⟨rfl, hb2⟩
  have H2 := Lib.hid (H1.out.call hb2)
  have HK2 : Hid (Kp B b 105 w w2) := Lib.hid (HK1.out.trans (Kp.of hb2 H1.out.base))
  clear KL hb2 HK1
  have H3 := Lib.hid (H2.out.alloc (.cells #[.int .u32 (wd v 0), .int .u32 (wd v 1), .int .u32 (wd v 2), .int .u32 (wd v 3), .int .u32 (wd v 4), .int .u32 (wd v 5)] 174))
  have HK3 := Lib.hid (HK2.out.alloc H2.out.base (.cells #[.int .u32 (wd v 0), .int .u32 (wd v 1), .int .u32 (wd v 2), .int .u32 (wd v 3), .int .u32 (wd v 4), .int .u32 (wd v 5)] 174))
  go_wp2_with fail
  go_at_call 109
  refine (KV2.out _).mono ?_
  rintro e w3 ⟨rfl, hb3⟩
  have H4 := Lib.hid (H3.out.call hb3)
  have HK4 : Hid (Kp B b 105 w w3) := Lib.hid (HK3.out.trans (Kp.of hb3 H3.out.base))
  have hbb : w3.heap.size ≠ b := by have := H4.out.lt; omega
  have r0 : (w3.alloc (.cells #[.int .u64 x0, .int .u64 x1] 102)).cell? ⟨w3.heap.size, 0, none⟩ = some (.int .u64 x0) := by rw [World.cell?_alloc_new]; rfl
  have r1 : (w3.alloc (.cells #[.int .u64 x0, .int .u64 x1] 102)).cell? ⟨w3.heap.size, 1, none⟩ = some (.int .u64 x1) := by rw [World.cell?_alloc_new]; rfl
  have H5 := Lib.hid (H4.out.alloc (.cells #[.int .u64 x0, .int .u64 x1] 102))
  have HK5 := Lib.hid (HK4.out.alloc H4.out.base (.cells #[.int .u64 x0, .int .u64 x1] 102))
  clear KV2 hb3 HK2 HK3 HK4 H1 H2 H3 H4
  go_upto_region 3 with (fail)
  generalize w3.alloc (.cells #[.int .u64 x0, .int .u64 x1] 102) = W at H5 HK5 r0 r1 ⊢
  generalize w3.heap.size = bx at r0 r1 hbb ⊢
  have c1 := H5.out.c1
  rw [← HA.out] at c1
  have f1 := H5.out.fr 1
  have hadv := adv_of H5.out
  rw [← HA.out] at hadv
  have HV := Lib.hid hadv
  have HK6 := Lib.hid (HK5.out.set H5.out.hB 1 (.int .i64 ((a : Int) + 1)))
  clear hadv
  go_wp2_with fail
  go_at_call 80
  refine (py_add HV.out (by have := HOL.out; show p.out.length ≤ _; omega) ⟨1, 0, 0, ⟨#[]⟩, ⟨#[]⟩, v⟩ 1 0 0 ⟨#[]⟩ ⟨#[]⟩ x0 x1 HC.out).mono ?_
  rintro e w4 ⟨rfl, p4, k4⟩
  have P4 := Lib.hid p4
  have HK7 := Lib.hid (HK6.out.trans k4)
  clear p4 k4
  go_wp2_with fail
  go_ret
  exact .inl ⟨HGB.out, rfl, P4.out, HK7.out⟩
/-- a name, or what stands for a variable -/
def pNam (l : List Tok) (p : PS) : Nat × PS :=
  if (tokAt l p.at_).kind = 2 then
    if (tokAt l p.at_).text = syTrue then p.adv.nod ⟨2, 0, 0, ⟨#[]⟩, ⟨#[]⟩, 1⟩
    else if (tokAt l p.at_).text = syFalse then p.adv.nod ⟨2, 0, 0, ⟨#[]⟩, ⟨#[]⟩, 0⟩
    else pVar l (tokAt l p.at_).text p.adv
  else (0, p.fai)
/-- pVar, by tokAt -/
theorem pVar_tok (l : List Tok) (x : ByteArray) (p : PS) : pVar l x p = if see l p syOf = true then (if (tokAt l (p.at_ + 1)).kind = 2 then p.adv.adv.nod ⟨3, 0, 0, x, (tokAt l (p.at_ + 1)).text, 0⟩ else (0, p.adv.fai)) else p.nod ⟨3, 0, 0, x, ⟨#[]⟩, 0⟩ := by
  unfold pVar
  by_cases hs : see l p syOf = true
  · rw [if_pos hs, if_pos hs]
    rcases Nat.lt_or_ge (p.at_ + 1) l.length with hi | hi
    · rw [tokAt_lt hi, List.getElem?_eq_getElem hi]
    · rw [tokAt_ge hi, List.getElem?_eq_none hi]; rfl
  · rw [if_neg hs, if_neg hs]
theorem nd_name (x y : ByteArray) : ncell ⟨3, 0, 0, x, y, 0⟩ = [.int .i64 3, .int .i64 0, .int .i64 0, .string x, .string y, .int .u64 0, .int .u64 0] := by
  simp only [ncell, hi_zero, lo_zero]; rfl
theorem nd_true : ncell ⟨2, 0, 0, ⟨#[]⟩, ⟨#[]⟩, 1⟩ = [.int .i64 2, .int .i64 0, .int .i64 0, .string ⟨#[]⟩, .string ⟨#[]⟩, .int .u64 (hi 1), .int .u64 (lo 1)] := rfl
theorem nd_false : ncell ⟨2, 0, 0, ⟨#[]⟩, ⟨#[]⟩, 0⟩ = [.int .i64 2, .int .i64 0, .int .i64 0, .string ⟨#[]⟩, .string ⟨#[]⟩, .int .u64 0, .int .u64 0] := by
  simp only [ncell, hi_zero, lo_zero]; rfl
theorem see_sym {l : List Tok} {p : PS} {x : ByteArray} (h : see l p x = true) (hb : p.bad = false) : (tokAt l p.at_).kind = 3 := by
  rw [see_tok l p hb, Bool.and_eq_true, decide_eq_true_iff] at h; exact h.1
set_option maxRecDepth 100000 in
set_option maxHeartbeats 4000000 in
theorem py_named {B b len cap : Nat} {A : Option Addr} {l : List Tok} {p : PS} {w : World} (hT : TokOk l) (h : PAt B b len cap A l p w) (g : PG l p) :
    Calls Tryd.prog 108 #[.pointer (some ⟨b, 0, none⟩)] w (RetP B b len cap A l (pNam l p) w) := by
  have hal : p.at_ ≤ 400 := Nat.le_trans g.ha hT.len
  have hol : p.out.length ≤ 400 := Nat.le_trans g.ho hal
  have HGB := Lib.hid g.hb
  unfold pNam
  by_cases hk : (tokAt l p.at_).kind = 2
  · rw [if_pos hk]
    have KP := Lib.hid (py_nameY h (by omega) hT hk)
    obtain ⟨tx, hx⟩ : ∃ t, t = (tokAt l p.at_).text := ⟨_, rfl⟩
    rw [← hx] at KP ⊢
    have HOL := Lib.hid hol
    have hB0 := h.base
    have hlt : p.at_ < l.length := by
      rcases Nat.lt_or_ge p.at_ l.length with hi | hi
      · exact hi
      · rw [tokAt_ge hi] at hk; cases hk
    clear h hx hk hol
    have he1 : (tx.toList == [116, 114, 117, 101]) = decide (tx = syTrue) := by
      have hl1 : syTrue.toList = [116, 114, 117, 101] := by rw [ByteArray.toList_eq]; rfl
      rw [← hl1]; exact bs_eq tx syTrue
    have he2 : (tx.toList == [102, 97, 108, 115, 101]) = decide (tx = syFalse) := by
      have hl1 : syFalse.toList = [102, 97, 108, 115, 101] := by rw [ByteArray.toList_eq]; rfl
      rw [← hl1]; exact bs_eq tx syFalse
    by_cases e1 : tx = syTrue
    · rw [if_pos e1]
      rw [decide_eq_true e1] at he1
      clear e1 he2
      go_enter Tryd.func108, Tryd.ntmps108
      go_wp2_with fail
      go_at_call 110
      refine KP.out.mono ?_
      rintro e w1 ⟨rfl, p1, k1⟩
      have P1 := Lib.hid p1
      have HK1 := Lib.hid k1
      clear p1 k1
      go_wp2_with fail
      go_at_call 32
      refine (of_any 1 (by decide) _).mono ?_
      rintro e w2 ⟨rfl, hb2⟩
      have P2 := Lib.hid (P1.out.call hb2)
      have HK2 : Hid (Kp B b 105 w w2) := Lib.hid (HK1.out.trans (Kp.of hb2 P1.out.base))
      clear hb2
      go_wp2_with fail
      go_at_call 80
      refine (py_add P2.out (by have := HOL.out; show p.out.length ≤ _; omega) ⟨2, 0, 0, ⟨#[]⟩, ⟨#[]⟩, 1⟩ _ _ _ _ _ _ _ nd_true).mono ?_
      rintro e w4 ⟨rfl, p4, k4⟩
      have P4 := Lib.hid p4
      have HK7 := Lib.hid (HK2.out.trans k4)
      clear p4 k4
      go_wp2_with fail
      go_ret
      exact .inl ⟨HGB.out, rfl, P4.out, HK7.out⟩
    · rw [if_neg e1]
      rw [decide_eq_false e1] at he1
      by_cases e2 : tx = syFalse
      · rw [if_pos e2]
        rw [decide_eq_true e2] at he2
        clear e1 e2
        go_enter Tryd.func108, Tryd.ntmps108
        go_wp2_with fail
        go_at_call 110
        refine KP.out.mono ?_
        rintro e w1 ⟨rfl, p1, k1⟩
        have P1 := Lib.hid p1
        have HK1 := Lib.hid k1
        clear p1 k1
        go_wp2_with fail
        go_at_call 80
        refine (py_add P1.out (by have := HOL.out; show p.out.length ≤ _; omega) ⟨2, 0, 0, ⟨#[]⟩, ⟨#[]⟩, 0⟩ _ _ _ _ _ _ _ nd_false).mono ?_
        rintro e w4 ⟨rfl, p4, k4⟩
        have P4 := Lib.hid p4
        have HK7 := Lib.hid (HK1.out.trans k4)
        clear p4 k4
        go_wp2_with fail
        go_ret
        exact .inl ⟨HGB.out, rfl, P4.out, HK7.out⟩
      · rw [if_neg e2]
        rw [decide_eq_false e2] at he2
        have hpv := pVar_tok l tx p.adv
        have HPV := Lib.hid hpv
        have HT := Lib.hid hT
        clear e1 e2 hpv g hT
        go_enter Tryd.func108, Tryd.ntmps108
        go_wp2_with fail
        go_at_call 110
        refine KP.out.mono ?_
        rintro e w1 ⟨rfl, p1, k1⟩
        have P1 := Lib.hid p1
        have HK1 := Lib.hid k1
        clear p1 k1
        go_wp2_with fail
        go_at_call 89
        refine (py_symbol P1.out HGB.out (by show p.at_ + 1 ≤ _; omega) syOf).mono ?_
        rintro e w2 ⟨rfl, p2, k2⟩
        obtain ⟨sv, hsv⟩ : ∃ s, s = see l p.adv syOf := ⟨_, rfl⟩
        rw [← hsv] at p2 ⊢
        have hpv := HPV.out
        rw [← hsv] at hpv
        have HPV2 := Lib.hid hpv
        have HSV := Lib.hid hsv
        have HK2 := Lib.hid (HK1.out.trans k2)
        clear hpv hsv HPV k2
        cases sv
        · have P2 : Hid (PAt B b len cap A l p.adv w2) := Lib.hid (by simpa using p2)
          clear p2
          go_wp2_with fail
          go_at_call 80
          refine (py_add P2.out (by have := HOL.out; show p.out.length ≤ _; omega) ⟨3, 0, 0, tx, ⟨#[]⟩, 0⟩ _ _ _ _ _ _ _ (nd_name tx _)).mono ?_
          rintro e w4 ⟨rfl, p4, k4⟩
          have P4 := Lib.hid p4
          have HK7 := Lib.hid (HK2.out.trans k4)
          clear p4 k4
          go_wp2_with fail
          go_ret
          rw [HPV2.out, if_neg (by decide)]
          exact .inl ⟨HGB.out, rfl, P4.out, HK7.out⟩
        · have P2 : Hid (PAt B b len cap A l p.adv.adv w2) := Lib.hid (by simpa using p2)
          clear p2
          by_cases hk2 : (tokAt l (p.at_ + 1 + 1)).kind = 2
          · have hpv := HPV2.out
            rw [if_pos rfl] at hpv
            have hk3 : (tokAt l (p.adv.at_ + 1)).kind = 2 := hk2
            rw [if_pos hk3] at hpv
            have HPV3 := Lib.hid hpv
            have KP2 := Lib.hid (py_nameY P2.out (by show p.at_ + 1 + 1 ≤ _; omega) HT.out hk2)
            obtain ⟨ty, hy⟩ : ∃ t, t = (tokAt l (p.at_ + 1 + 1)).text := ⟨_, rfl⟩
            have hy2 : (tokAt l (p.adv.at_ + 1)).text = ty := hy.symm
            have KP3 : Hid (Calls Tryd.prog 110 #[.pointer (some ⟨b, 0, none⟩)] w2 (RetS B b len cap A l (.string ty) p.adv.adv.adv w2)) := Lib.hid (by rw [hy]; exact KP2.out)
            have HY := Lib.hid hy2
            clear hy hy2 KP2 hpv HPV2 hk2 hk3
            go_wp2_with fail
            go_at_call 110
            refine KP3.out.mono ?_
            rintro e w3 ⟨rfl, p3, k3⟩
            have P3 := Lib.hid p3
            have HK3 := Lib.hid (HK2.out.trans k3)
            clear p3 k3
            go_wp2_with fail
            go_at_call 80
            refine (py_add P3.out (by have := HOL.out; show p.out.length ≤ _; omega) ⟨3, 0, 0, tx, ty, 0⟩ _ _ _ _ _ _ _ (nd_name tx ty)).mono ?_
            rintro e w4 ⟨rfl, p4, k4⟩
            have P4 := Lib.hid p4
            have HK7 := Lib.hid (HK3.out.trans k4)
            clear p4 k4
            go_wp2_with fail
            go_ret
            rw [HPV3.out, HY.out]
            exact .inl ⟨HGB.out, rfl, P4.out, HK7.out⟩
          · have hpv := HPV2.out
            rw [if_pos rfl] at hpv
            have hk3 : ¬ (tokAt l (p.adv.at_ + 1)).kind = 2 := hk2
            rw [if_neg hk3] at hpv
            have HPV3 := Lib.hid hpv
            have KP2 := Lib.hid (py_nameN P2.out hk2)
            clear hpv HPV2 hk2 hk3
            go_wp2_with fail
            go_at_call 110
            refine KP2.out.mono ?_
            rintro e w3 ⟨rfl, hb3⟩
            have HX := Lib.hid (HK2.out.below.trans hb3)
            clear hb3
            go_wp2_with fail
            refine ⟨rfl, .inr ?_⟩
            rw [HPV3.out]
            exact ⟨rfl, rfl, HX.out⟩
  · rw [if_neg hk]
    have KP := Lib.hid (py_nameN h hk)
    clear h hk
    go_enter Tryd.func108, Tryd.ntmps108
    go_wp2_with fail
    go_at_call 110
    refine KP.out.mono ?_
    rintro e w1 ⟨rfl, hb1⟩
    have HX := Lib.hid hb1
    clear hb1
    go_wp2_with fail
    exact ⟨rfl, .inr ⟨rfl, rfl, HX.out⟩⟩
end
/- Package syntax: atom; every rule with any fuel. -/
section
open Go.RowKit

theorem pR_atm (l : List Tok) (n : Nat) (p : PS) (hb : p.bad = false) : pR l (n + 1) .atm p = if see l p syOpen = true then (pR l n .imp p.adv).bind fun r => if see l r.2 syClose = true then some (r.1, r.2.adv) else some (r.1, r.2.fai) else if (tokAt l p.at_).kind = 1 then some (p.adv.nod ⟨1, 0, 0, ⟨#[]⟩, ⟨#[]⟩, (litV (tokAt l p.at_).text).getD 0⟩) else some (pNam l p) := by
  have hst := see_tok l p hb syOpen
  rw [pR, if_neg (by rw [hb]; decide)]
  unfold pNam
  rcases Nat.lt_or_ge p.at_ l.length with hi | hi
  · rw [List.getElem?_eq_getElem hi]
    rw [tokAt_lt hi] at hst ⊢
    generalize (l[p.at_]'hi) = t at hst ⊢
    simp only
    by_cases hs : see l p syOpen = true
    · have h3 : t.kind = 3 := by
        rw [hs] at hst
        have := hst.symm
        rw [Bool.and_eq_true, decide_eq_true_iff] at this
        exact this.1
      rw [if_neg (by omega), if_neg (by omega), if_pos hs, if_pos hs]
    · rw [if_neg hs, if_neg hs]
      by_cases h1 : t.kind = 1
      · rw [if_pos h1, if_pos h1]
      · rw [if_neg h1, if_neg h1]
        by_cases h2 : t.kind = 2
        · rw [if_pos h2, if_pos h2]
          by_cases e1 : t.text = syTrue
          · rw [if_pos e1, if_pos e1]
          · rw [if_neg e1, if_neg e1]
            by_cases e2 : t.text = syFalse
            · rw [if_pos e2, if_pos e2]
            · rw [if_neg e2, if_neg e2]
        · rw [if_neg h2, if_neg h2]
  · rw [List.getElem?_eq_none hi]
    rw [tokAt_ge hi] at hst ⊢
    simp only
    have hs : ¬ see l p syOpen = true := by rw [hst]; decide
    rw [if_neg hs, if_neg (by decide), if_neg (by decide)]
set_option maxRecDepth 100000 in
set_option maxHeartbeats 4000000 in
theorem py_atm {B b len cap n : Nat} {A : Option Addr} {l : List Tok} {p : PS} {w : World} {r : Nat × PS} (ih : IH l n) (hT : TokOk l) (h : PAt B b len cap A l p w) (g : PG l p) (e : pR l (n + 1) .atm p = some r) :
    Calls Tryd.prog 106 #[.pointer (some ⟨b, 0, none⟩)] w (RetP B b len cap A l r w) := by
  rw [pR_atm l n p g.hb] at e
  have hal : p.at_ ≤ 400 := Nat.le_trans g.ha hT.len
  have KS := Lib.hid (py_symbol h g.hb (by omega) syOpen)
  obtain ⟨sv, hsv⟩ : ∃ s, s = see l p syOpen := ⟨_, rfl⟩
  rw [← hsv] at KS e
  have HSV := Lib.hid hsv
  have HE := Lib.hid e
  have HG := Lib.hid g
  have hB0 := h.base
  clear hsv e g h
  cases sv
  · have hE := HE.out
    rw [if_neg (by decide)] at hE
    have HE2 := Lib.hid hE
    have KS2 : Hid (Calls Tryd.prog 89 #[.pointer (some ⟨b, 0, none⟩), .string syOpen] w (RetS B b len cap A l (.bool false) p w)) := Lib.hid (by have := KS.out; simpa using this)
    obtain ⟨tk, htk⟩ : ∃ t : Nat, t = (tokAt l p.at_).kind := ⟨_, rfl⟩
    have HTK := Lib.hid htk
    clear hE HE KS htk
    go_enter Tryd.func106, Tryd.ntmps106
    go_wp2_with fail
    go_at_call 89
    refine KS2.out.mono ?_
    rintro e w1 ⟨rfl, p1, k1⟩
    have P1 := Lib.hid p1
    have HK1 := Lib.hid k1
    clear p1 k1 KS2
    have KP := Lib.hid (py_peek P1.out)
    obtain ⟨tx, hx⟩ : ∃ t, t = (tokAt l p.at_).text := ⟨_, rfl⟩
    obtain ⟨ta, hta⟩ : ∃ t : Nat, t = (tokAt l p.at_).at_ := ⟨_, rfl⟩
    rw [← hx, ← hta, ← HTK.out] at KP
    clear hx hta
    go_wp2_with fail
    go_at_call 100
    refine KP.out.mono ?_
    rintro e w2 ⟨rfl, hb2⟩
    have P2 := Lib.hid (P1.out.call hb2)
    have HK2 : Hid (Kp B b 105 w w2) := Lib.hid (HK1.out.trans (Kp.of hb2 P1.out.base))
    clear hb2 KP HK1 P1
    by_cases hk : tk = 1
    · subst hk
      have hE := HE2.out
      rw [if_pos HTK.out.symm] at hE
      injection hE with hE
      have K3 := Lib.hid (py_literal hT P2.out HG.out HTK.out.symm)
      rw [hE] at K3
      clear hE HE2
      go_wp2_with (simp only [run_tok0])
      go_at_call 107
      refine K3.out.mono ?_
      rintro e w3 (⟨hb3, rfl, p3, k3⟩ | ⟨hb3, rfl, hx3⟩)
      · have P3 := Lib.hid p3
        have HK3 := Lib.hid (HK2.out.trans k3)
        have HB3 := Lib.hid hb3
        clear p3 k3 hb3
        go_wp2_with fail
        go_ret
        exact .inl ⟨HB3.out, rfl, P3.out, HK3.out⟩
      · have HX := Lib.hid (HK2.out.below.trans hx3)
        have HB3 := Lib.hid hb3
        clear hx3 hb3
        go_wp2_with fail
        exact ⟨rfl, .inr ⟨HB3.out, rfl, HX.out⟩⟩
    · have hkI : ((tk : Int) == 1) = false := by rw [beq_eq_false_iff_ne]; omega
      have hkJ : ¬ (tk : Int) = 1 := by omega
      have hE := HE2.out
      rw [if_neg (by rw [← HTK.out]; exact hk)] at hE
      injection hE with hE
      have K3 := Lib.hid (py_named hT P2.out HG.out)
      rw [hE] at K3
      clear hE HE2 hk
      go_wp2_with (simp only [run_tok0])
      go_at_call 108
      refine K3.out.mono ?_
      rintro e w3 (⟨hb3, rfl, p3, k3⟩ | ⟨hb3, rfl, hx3⟩)
      · have P3 := Lib.hid p3
        have HK3 := Lib.hid (HK2.out.trans k3)
        have HB3 := Lib.hid hb3
        clear p3 k3 hb3
        go_wp2_with fail
        go_ret
        exact .inl ⟨HB3.out, rfl, P3.out, HK3.out⟩
      · have HX := Lib.hid (HK2.out.below.trans hx3)
        have HB3 := Lib.hid hb3
        clear hx3 hb3
        go_wp2_with fail
        exact ⟨rfl, .inr ⟨HB3.out, rfl, HX.out⟩⟩
  · have hE := HE.out
    rw [if_pos rfl] at hE
    have KS2 : Hid (Calls Tryd.prog 89 #[.pointer (some ⟨b, 0, none⟩), .string syOpen] w (RetS B b len cap A l (.bool true) p.adv w)) := Lib.hid (by have := KS.out; simpa using this)
    have G1 := Lib.hid (HG.out.adv HSV.out.symm)
    cases h2 : pR l n .imp p.adv with
    | none => rw [h2] at hE; cases hE
    | some q =>
      rw [h2, Option.bind_some] at hE
      have HE2 := Lib.hid hE
      have HH2 := Lib.hid h2
      clear hE HE KS h2
      go_enter Tryd.func106, Tryd.ntmps106
      go_wp2_with fail
      go_at_call 89
      refine KS2.out.mono ?_
      rintro e w1 ⟨rfl, p1, k1⟩
      have P1 := Lib.hid p1
      have HK1 := Lib.hid k1
      have K3 := Lib.hid (ih.imp P1.out G1.out HH2.out)
      have W3 := Lib.hid (pR_went l _ _ _ _ HH2.out)
      clear p1 k1 KS2 HH2
      go_wp2_with fail
      go_at_call 68
      refine K3.out.mono ?_
      rintro e w3 (⟨hb3, rfl, p3, k3⟩ | ⟨hb3, rfl, hx3⟩)
      · have G3 := Lib.hid (G1.out.went W3.out hb3)
        have P3 := Lib.hid p3
        have HK3 := Lib.hid (HK1.out.trans k3)
        have hqa : q.2.at_ ≤ 400 := Nat.le_trans G3.out.ha hT.len
        have KC := Lib.hid (py_symbol P3.out hb3 (by omega) syClose)
        obtain ⟨cv, hcv⟩ : ∃ s, s = see l q.2 syClose := ⟨_, rfl⟩
        rw [← hcv] at KC
        have hE := HE2.out
        rw [← hcv] at hE
        have HE3 := Lib.hid hE
        have HB3 := Lib.hid hb3
        clear p3 k3 hb3 hcv hE HE2 K3
        obtain ⟨a3, ha3⟩ : ∃ a, a = q.1 := ⟨_, rfl⟩
        rw [← ha3]
        have HA3 := Lib.hid ha3
        clear ha3
        go_wp2_with fail
        go_at_call 89
        refine KC.out.mono ?_
        rintro e w4 ⟨rfl, p4, k4⟩
        have HK4 := Lib.hid (HK3.out.trans k4)
        clear k4 KC
        cases cv
        · have P4 : Hid (PAt B b len cap A l q.2 w4) := Lib.hid (by simpa using p4)
          have hE := HE3.out
          rw [if_neg (by decide)] at hE
          injection hE with hE
          have HE4 := Lib.hid hE
          clear p4 hE HE3
          go_wp2_with fail
          go_at_call 69
          refine (py_fail P4.out).mono ?_
          rintro e w5 ⟨rfl, hb5⟩
          have HX := Lib.hid (HK4.out.below.trans (hb5.mono P4.out.base))
          clear hb5
          go_wp2_with fail
          refine ⟨rfl, .inr ?_⟩
          rw [← HE4.out]
          exact ⟨rfl, rfl, HX.out⟩
        · have P4 : Hid (PAt B b len cap A l q.2.adv w4) := Lib.hid (by simpa using p4)
          have hE := HE3.out
          rw [if_pos rfl] at hE
          injection hE with hE
          have HE4 := Lib.hid hE
          clear p4 hE HE3
          go_wp2_with fail
          go_ret
          rw [← HE4.out, HA3.out]
          exact .inl ⟨HB3.out, rfl, P4.out, HK4.out⟩
      · have HX := Lib.hid (HK1.out.below.trans hx3)
        have HB3 := Lib.hid hb3
        clear hx3 hb3
        go_wp2_with fail
        have hE := HE2.out
        rw [if_neg (by rw [see_bad HB3.out]; decide)] at hE
        injection hE with hE
        refine ⟨rfl, .inr ?_⟩
        rw [← hE]
        exact ⟨rfl, rfl, HX.out⟩
/-- all rules, whatever the fuel -/
theorem ih_all (l : List Tok) (hT : TokOk l) : ∀ n, IH l n := by
  intro n
  induction n using Nat.strongRecOn with
  | _ n ih =>
    cases n with
    | zero =>
      exact ⟨(fun _ _ e => by cases e), (fun _ _ e => by cases e), (fun _ _ e => by cases e), (fun _ _ e => by cases e), (fun _ _ e => by cases e), (fun _ _ e => by cases e), (fun _ _ e => by cases e), (fun _ _ e => by cases e)⟩
    | succ n =>
      have i1 := ih n (Nat.lt_succ_self n)
      have i2 : ∀ m, m ≤ n → IH l m := fun m hm => ih m (Nat.lt_succ_of_le hm)
      exact ⟨(fun h g e => py_imp i1 hT h g e), (fun h g e => py_or i2 hT h g e), (fun h g e => py_and i2 hT h g e), (fun h g e => py_not i1 hT h g e), (fun h g e => py_cmp i1 hT h g e), (fun h g e => py_sum i2 hT h g e), (fun h g e => py_una i1 hT h g e), (fun h g e => py_atm i1 hT h g e)⟩
end
/- Package syntax: Depth. -/
section
open Go.RowKit

def dsAt (ds : List Nat) (i : Int) : Nat := if 0 ≤ i then ds.getD i.toNat 0 else 0
/-- a row of numbers, to be read -/
structure IntR (w : World) (A : Option Addr) (ds : List Nat) : Prop where
  r : ds = [] ∨ ∃ g, A = some ⟨g, 0, none⟩ ∧ ∀ j (hj : j < ds.length), w.cell? ⟨g, j, none⟩ = some (.int .i64 (ds[j]'hj : Nat))
set_option maxRecDepth 100000 in
set_option maxHeartbeats 1000000 in
theorem py_dat (w : World) (A : Option Addr) (n cap : Nat) (ds : List Nat) (hn : ds.length = n) (_hc : n ≤ cap) (h : IntR w A ds) (i : Int) :
    Calls Tryd.prog 71 #[.slice A n cap, .int .i64 i] w fun e w' => e = .returned (.int .i64 (dsAt ds i : Nat)) ∧ w = w' := by
  obtain ⟨v, hv⟩ : ∃ v, v = dsAt ds i := ⟨_, rfl⟩
  rw [← hv]
  have HV := Lib.hid hv
  clear hv
  by_cases h0 : i < 0
  · have hv0 : v = 0 := by rw [HV.out]; unfold dsAt; rw [if_neg (by omega)]
    subst hv0
    go_enter Tryd.func71, Tryd.ntmps71
    go_wp2
    go_ret
    exact ⟨rfl, rfl⟩
  · obtain ⟨k, hk⟩ : ∃ k : Nat, i = k := ⟨i.toNat, by omega⟩
    subst hk
    by_cases h1 : (n : Int) ≤ (k : Int)
    · have hv0 : v = 0 := by
        rw [HV.out]; unfold dsAt; rw [if_pos (by omega), List.getD_eq_getElem?_getD, List.getElem?_eq_none (by simp; omega)]; rfl
      subst hv0
      go_enter Tryd.func71, Tryd.ntmps71
      go_wp2
      go_ret
      exact ⟨rfl, rfl⟩
    · have hkl : k < ds.length := by omega
      have hkn : (k : Int) < (n : Int) := by omega
      obtain ⟨g, hg, hc⟩ := h.r.resolve_left (fun e => by rw [e] at hkl; simp at hkl)
      subst hg
      have hcell := hc k hkl
      have hv2 : (ds[k]'hkl) = v := by rw [HV.out]; unfold dsAt; rw [if_pos (by omega), List.getD_eq_getElem?_getD, Int.toNat_natCast, List.getElem?_eq_getElem hkl]; rfl
      rw [hv2] at hcell
      clear hc hv2 h
      go_enter Tryd.func71, Tryd.ntmps71
      go_wp2
      go_ret
      exact ⟨rfl, rfl⟩
theorem dsAt_nat (ds : List Nat) (k : Nat) : dsAt ds (k : Int) = ds.getD k 0 := by unfold dsAt; rw [if_pos (by omega), Int.toNat_natCast]
theorem IntR.below {w w' : World} {B : Nat} {A : Option Addr} {ds : List Nat} (h : IntR w A ds) (hb : Below B w w') (hg : ∀ g, A = some ⟨g, 0, none⟩ → g < B) : IntR w' A ds := by
  rcases h.r with h | ⟨g, h1, h2⟩
  · exact ⟨.inl h⟩
  · exact ⟨.inr ⟨g, h1, fun j hj => by rw [hb.cell (p := ⟨g, j, none⟩) (hg g h1)]; exact h2 j hj⟩⟩
set_option maxRecDepth 100000 in
set_option maxHeartbeats 4000000 in
theorem py_dof (w : World) (A : Option Addr) (n cap : Nat) (ds : List Nat) (hn : ds.length = n) (hc : n ≤ cap) (h : IntR w A ds) (hA : ∀ g, A = some ⟨g, 0, none⟩ → g < w.heap.size) (hds : ∀ x ∈ ds, x ≤ 1000) (d : Nd) (h1 : 1 ≤ d.op) (nm at_ : ByteArray) (u t : Int) :
    Calls Tryd.prog 70 #[.agg #[.int .i64 (d.op : Nat), .int .i64 (d.a : Nat), .int .i64 (d.b : Nat), .string nm, .string at_, .int .u64 u, .int .u64 t], .slice A n cap] w (RetX (.int .i64 (dep1 ds d : Nat)) w) := by
  obtain ⟨o, ho⟩ : ∃ o, o = d.op := ⟨_, rfl⟩
  obtain ⟨x, hx⟩ : ∃ x, x = d.a := ⟨_, rfl⟩
  obtain ⟨y, hy⟩ : ∃ x, x = d.b := ⟨_, rfl⟩
  obtain ⟨va, hva⟩ : ∃ v, v = ds.getD d.a 0 := ⟨_, rfl⟩
  obtain ⟨vb, hvb⟩ : ∃ v, v = ds.getD d.b 0 := ⟨_, rfl⟩
  obtain ⟨r, hr⟩ : ∃ r, r = dep1 ds d := ⟨_, rfl⟩
  have hla := getD_lt hds d.a
  have hlb := getD_lt hds d.b
  have hdep := hr
  unfold dep1 at hdep
  rw [← hva, ← hvb, ← ho] at hdep
  rw [← hva] at hla
  rw [← hvb] at hlb
  have W1 : IntR (w.alloc (.cells #[.int .i64 (d.op : Nat), .int .i64 (d.a : Nat), .int .i64 (d.b : Nat), .string nm, .string at_, .int .u64 u, .int .u64 t] 105)) A ds := h.below ((Below.refl _ _).alloc (Nat.le_refl _) _) hA
  have HB : Hid (Below w.heap.size w (w.alloc (.cells #[.int .i64 (d.op : Nat), .int .i64 (d.a : Nat), .int .i64 (d.b : Nat), .string nm, .string at_, .int .u64 u, .int .u64 t] 105))) := Lib.hid ((Below.refl _ _).alloc (Nat.le_refl _) _)
  have q0 : (w.alloc (.cells #[.int .i64 (d.op : Nat), .int .i64 (d.a : Nat), .int .i64 (d.b : Nat), .string nm, .string at_, .int .u64 u, .int .u64 t] 105)).cell? ⟨w.heap.size, 0, none⟩ = some (.int .i64 (d.op : Nat)) := by rw [World.cell?_alloc_new]; rfl
  have q1 : (w.alloc (.cells #[.int .i64 (d.op : Nat), .int .i64 (d.a : Nat), .int .i64 (d.b : Nat), .string nm, .string at_, .int .u64 u, .int .u64 t] 105)).cell? ⟨w.heap.size, 1, none⟩ = some (.int .i64 (d.a : Nat)) := by rw [World.cell?_alloc_new]; rfl
  have q2 : (w.alloc (.cells #[.int .i64 (d.op : Nat), .int .i64 (d.a : Nat), .int .i64 (d.b : Nat), .string nm, .string at_, .int .u64 u, .int .u64 t] 105)).cell? ⟨w.heap.size, 2, none⟩ = some (.int .i64 (d.b : Nat)) := by rw [World.cell?_alloc_new]; rfl
  have KA : Hid (∀ W, IntR W A ds → Calls Tryd.prog 71 #[.slice A n cap, .int .i64 (x : Nat)] W fun e w' => e = .returned (.int .i64 (va : Nat)) ∧ W = w') := Lib.hid fun W hW => by
    have := py_dat W A n cap ds hn hc hW (x : Int)
    rw [dsAt_nat, hx, ← hva] at this
    rw [hx]; exact this
  have KB : Hid (∀ W, IntR W A ds → Calls Tryd.prog 71 #[.slice A n cap, .int .i64 (y : Nat)] W fun e w' => e = .returned (.int .i64 (vb : Nat)) ∧ W = w') := Lib.hid fun W hW => by
    have := py_dat W A n cap ds hn hc hW (y : Int)
    rw [dsAt_nat, hy, ← hvb] at this
    rw [hy]; exact this
  rw [← hr]
  rw [← ho] at h1
  rw [← ho, ← hx, ← hy] at W1 HB q0 q1 q2 ⊢
  have HW1 := Lib.hid W1
  have HD := Lib.hid hdep
  clear W1 hdep hr hva hvb ho hx hy h hA hds hn
  generalize hWg : w.alloc (.cells #[.int .i64 (o : Nat), .int .i64 (x : Nat), .int .i64 (y : Nat), .string nm, .string at_, .int .u64 u, .int .u64 t] 105) = W at HW1 HB q0 q1 q2
  have HWG := Lib.hid hWg
  clear hWg
  by_cases h3 : o ≤ 3
  · have hr0 : r = 0 := by rw [HD.out, if_pos h3]
    subst hr0
    have h123 : o = 1 ∨ o = 2 ∨ o = 3 := by omega
    rcases h123 with h | h | h
    · have n1 : ((o : Int) == 1) = true := by simp; omega
      clear h h3
      go_enter Tryd.func70, Tryd.ntmps70
      go_upto_region 1 with (fail)
      rw [HWG.out]
      go_wp2_with fail
      go_ret
      exact ⟨rfl, HB.out⟩
    · have n1 : ((o : Int) == 1) = false := by rw [beq_eq_false_iff_ne]; omega
      have n2 : ((o : Int) == 2) = true := by simp; omega
      clear h h3
      go_enter Tryd.func70, Tryd.ntmps70
      go_upto_region 1 with (fail)
      rw [HWG.out]
      go_wp2_with fail
      go_ret
      exact ⟨rfl, HB.out⟩
    · have n1 : ((o : Int) == 1) = false := by rw [beq_eq_false_iff_ne]; omega
      have n2 : ((o : Int) == 2) = false := by rw [beq_eq_false_iff_ne]; omega
      have n3 : ((o : Int) == 3) = true := by simp; omega
      clear h h3
      go_enter Tryd.func70, Tryd.ntmps70
      go_upto_region 1 with (fail)
      rw [HWG.out]
      go_wp2_with fail
      go_ret
      exact ⟨rfl, HB.out⟩
  · have n1 : ((o : Int) == 1) = false := by rw [beq_eq_false_iff_ne]; omega
    have n2 : ((o : Int) == 2) = false := by rw [beq_eq_false_iff_ne]; omega
    have n3 : ((o : Int) == 3) = false := by rw [beq_eq_false_iff_ne]; omega
    by_cases h5 : o ≤ 5
    · have hr0 : r = 1 + va := by rw [HD.out, if_neg h3, if_pos h5]
      have HR := Lib.hid hr0
      have h45 : o = 4 ∨ o = 5 := by omega
      clear hr0 h3 h5
      rcases h45 with h | h
      · have n4 : ((o : Int) == 4) = true := by simp; omega
        clear h
        go_enter Tryd.func70, Tryd.ntmps70
        go_upto_region 1 with (fail)
        rw [HWG.out]
        go_wp2_with fail
        go_at_call 71
        refine (KA.out W HW1.out).mono ?_
        rintro e w2 ⟨rfl, rfl⟩
        go_wp2_with fail
        go_ret
        exact ⟨by rw [HR.out]; simp [go_sem], HB.out⟩
      · have n4 : ((o : Int) == 4) = false := by rw [beq_eq_false_iff_ne]; omega
        have n5 : ((o : Int) == 5) = true := by simp; omega
        clear h
        go_enter Tryd.func70, Tryd.ntmps70
        go_upto_region 1 with (fail)
        rw [HWG.out]
        go_wp2_with fail
        go_at_call 71
        refine (KA.out W HW1.out).mono ?_
        rintro e w2 ⟨rfl, rfl⟩
        go_wp2_with fail
        go_ret
        exact ⟨by rw [HR.out]; simp [go_sem], HB.out⟩
    · have hw1 : IntKind.i64.wrap (1 + (vb : Int)) = 1 + (vb : Int) := IntWalk.i64_in _ (by omega)
      have HBd := Lib.hid HB.out.drew
      have HWd : Hid (IntR W.drew A ds) := Lib.hid ⟨HW1.out.r⟩
      have p0 : W.drew.cell? ⟨w.heap.size, 0, none⟩ = some (.int .i64 (o : Nat)) := q0
      have p1 : W.drew.cell? ⟨w.heap.size, 1, none⟩ = some (.int .i64 (x : Nat)) := q1
      have p2 : W.drew.cell? ⟨w.heap.size, 2, none⟩ = some (.int .i64 (y : Nat)) := q2
      have n4 : ((o : Int) == 4) = false := by rw [beq_eq_false_iff_ne]; omega
      have n5 : ((o : Int) == 5) = false := by rw [beq_eq_false_iff_ne]; omega
      by_cases h16 : o = 16
      · have hr0 : r = max va (1 + vb) := by rw [HD.out, if_neg h3, if_neg h5, if_pos h16]
        have n16 : ((o : Int) == 16) = true := by simp; omega
        have HR := Lib.hid hr0
        clear hr0 h3 h5 h16
        go_enter Tryd.func70, Tryd.ntmps70
        go_upto_region 1 with (fail)
        rw [HWG.out]
        go_wp2_with fail
        go_region_with (go_at_call 71; (first | ((with_reducible refine (KA.out W.drew HWd.out).mono ?_); (rintro e w2 ⟨rfl, rfl⟩)) | ((with_reducible refine (KB.out W.drew HWd.out).mono ?_); (rintro e w2 ⟨rfl, rfl⟩))))
        all_goals
          go_wp2
          go_ret
          exact ⟨by rw [HR.out]; simp [go_sem]; omega, HBd.out⟩
      · have hr0 : r = max va vb := by rw [HD.out, if_neg h3, if_neg h5, if_neg h16]
        have n16 : ((o : Int) == 16) = false := by rw [beq_eq_false_iff_ne]; omega
        have HR := Lib.hid hr0
        clear hr0 h3 h5 h16
        go_enter Tryd.func70, Tryd.ntmps70
        go_upto_region 1 with (fail)
        rw [HWG.out]
        go_wp2_with fail
        go_region_with (go_at_call 71; (first | ((with_reducible refine (KA.out W.drew HWd.out).mono ?_); (rintro e w2 ⟨rfl, rfl⟩)) | ((with_reducible refine (KB.out W.drew HWd.out).mono ?_); (rintro e w2 ⟨rfl, rfl⟩))))
        all_goals
          go_wp2
          go_ret
          exact ⟨by rw [HR.out]; simp [go_sem]; omega, HBd.out⟩
end
/- Package syntax: Depth of every tree; parse. -/
section
open Go.RowKit

theorem ncells_at (l : List Nd) : ∀ (k j : Nat) (hk : k < l.length), j < 7 → (ncells l)[k * 7 + j]? = (ncell (l[k]'hk))[j]? := by
  induction l with
  | nil => intro k j hk; simp at hk
  | cons t r ih =>
    intro k j hk hj
    have e : ncells (t :: r) = ncell t ++ ncells r := by simp [ncells]
    rw [e]
    cases k with
    | zero => rw [Nat.zero_mul, Nat.zero_add, List.getElem?_append_left (by show j < 7; exact hj)]; rfl
    | succ k =>
      rw [List.getElem?_append_right (by show 7 ≤ _; omega)]
      have := ih k j (by simp at hk; omega) hj
      rw [show (k + 1) * 7 + j - (ncell t).length = k * 7 + j by show _ - 7 = _; omega, this]
      rfl
/-- a row of nodes, to be read -/
structure NodR (w : World) (A : Option Addr) (o : List Nd) : Prop where
  r : o = [] ∨ ∃ g, A = some ⟨g, 0, none⟩ ∧ g < w.heap.size ∧ ∀ k (hk : k < o.length) j, j < 7 → w.cell? ⟨g, k * 7 + j, none⟩ = (ncell (o[k]'hk))[j]?
theorem NodR.below {w w' : World} {A : Option Addr} {o : List Nd} (h : NodR w A o) (hb : Below w.heap.size w w') : NodR w' A o := by
  rcases h.r with h | ⟨g, h1, h2, h3⟩
  · exact ⟨.inl h⟩
  · exact ⟨.inr ⟨g, h1, Nat.lt_of_lt_of_le h2 hb.size, fun k hk j hj => by rw [hb.cell (p := ⟨g, _, none⟩) h2]; exact h3 k hk j hj⟩⟩
theorem nodR_own {w : World} {B e : Nat} {A : Option Addr} {cap n : Nat} {o : List Nd} (h : w.ownsRow B e 7 (.slice A n cap) n (ncells o)) (hn : o.length = n) : NodR w A o := by
  by_cases h0 : o = []
  · exact ⟨.inl h0⟩
  · have hp : 0 < n := by rw [← hn]; exact List.length_pos_iff.2 h0
    obtain ⟨g, c, hv, hge, hl⟩ := h.form hp
    injection hv with e1 e2 e3
    subst e1
    refine ⟨.inr ⟨g, rfl, hl, fun k hk j hj => ?_⟩⟩
    have hz := ncells_len o
    rw [h.cellAt (k * 7 + j) (by omega), ncells_at o k j hk hj]
/-- trees as Parse hands them back: every node has an operation -/
def OpsOk (o : List Nd) : Prop := ∀ x ∈ o, 1 ≤ x.op
theorem deps_take (o : List Nd) (k : Nat) (hk : k < o.length) : deps (o.take (k + 1)) = deps (o.take k) ++ [dep1 (deps (o.take k)) (o[k]'hk)] := by
  rw [List.take_succ_eq_append_getElem hk, deps_snoc]
def dpF (o : List Nd) (k j : Nat) : Nat := (deps (o.take k)).getD j 0
theorem dpF_succ (o : List Nd) (k : Nat) (hk : k < o.length) (j : Nat) : (if j = k then dep1 (deps (o.take k)) (o[k]'hk) else dpF o k j) = dpF o (k + 1) j := by
  unfold dpF
  rw [deps_take o k hk]
  have hl : (deps (o.take k)).length = k := by rw [deps_len, List.length_take]; omega
  rw [List.getD_eq_getElem?_getD, List.getD_eq_getElem?_getD]
  by_cases h : j = k
  · subst h; rw [if_pos rfl, List.getElem?_append_right (by omega), hl, Nat.sub_self]; rfl
  · rw [if_neg h]
    rcases Nat.lt_or_ge j k with h1 | h1
    · rw [List.getElem?_append_left (by omega)]
    · rw [List.getElem?_append_right (by omega), List.getElem?_eq_none (l := deps (o.take k)) (by omega), hl, List.getElem?_eq_none (by simp; omega)]
set_option maxRecDepth 100000 in
set_option maxHeartbeats 8000000 in
theorem py_depth (w : World) (A : Option Addr) (n cap : Nat) (o : List Nd) (hn : o.length = n) (_hc : n ≤ cap) (hn4 : n ≤ 400) (h : NodR w A o) (hops : OpsOk o) :
    Calls Tryd.prog 53 #[.slice A n cap] w (RetX (.int .i64 (depth o : Nat)) w) := by
  obtain ⟨r, hr⟩ : ∃ r, r = depth o := ⟨_, rfl⟩
  rw [← hr]
  have HR := Lib.hid hr
  have HN := Lib.hid hn
  have H := Lib.hid h
  have HOP := Lib.hid hops
  clear hr hn h hops
  have hmk : ∀ W : World, (Instr.makeSlice 23 (.int .i64 (n : Int)) (.int .i64 (n : Int))).run Tryd.prog W = .ok (.slice (some ⟨W.heap.size, 0, none⟩) n n) (W.alloc (.cells (madeCells #[.int .i64 0] n) 3)) := fun W => by
    exact run_make_row' (P := Tryd.prog) 23 3 (.int .i64 0) 8 Tryd.underlying23 (by kernel_rfl) rfl .i64 .i64 n (by omega) (by omega) W
  have hRow : (w.alloc (.cells (madeCells #[.int .i64 0] n) 3)).rowIs w.heap.size 3 n (fun _ => .int .i64 0) := World.rowIs_made w (.int .i64 0) n 3
  have HRow : Hid ((w.alloc (.cells (madeCells #[.int .i64 0] n) 3)).rowIs w.heap.size 3 n (fun j => .int .i64 (dpF o 0 j : Nat))) := Lib.hid (hRow.congr fun j _ => by unfold dpF; rw [List.take_zero]; rfl)
  have HB0 : Hid (Below w.heap.size w (w.alloc (.cells (madeCells #[.int .i64 0] n) 3))) := Lib.hid ((Below.refl _ _).alloc (Nat.le_refl _) _)
  have hb7 : w.heap.size < (w.alloc (.cells (madeCells #[.int .i64 0] n) 3)).heap.size := by simp
  clear hRow
  obtain ⟨Mk, hMk⟩ : ∃ M, M = madeCells #[.int .i64 0] n := ⟨_, rfl⟩
  rw [← hMk] at HRow HB0 hb7
  rw [← hMk] at hmk
  clear hMk
  go_enter Tryd.func53, Tryd.ntmps53
  go_upto_region 2 with (fail)
  clear hmk
  obtain ⟨b, hb⟩ : ∃ b, b = w.heap.size := ⟨_, rfl⟩
  rw [← hb] at HRow HB0 hb7 ⊢
  have HBB := Lib.hid hb
  generalize w.alloc (.cells Mk 3) = W0 at HRow HB0 hb7 ⊢
  clear hb
  go_wp2_with fail
  go_loopw [11] (fun i w' => ∃ k : Nat, k ≤ n ∧ i = .int .i64 k ∧ Below b w w' ∧ b < w'.heap.size ∧ w'.rowIs b 3 n (fun j => .int .i64 (dpF o k j : Nat))) (fun i _ => n - (intOf i).toNat)
  case atStart => exact ⟨0, by omega, rfl, HB0.out, hb7, HRow.out⟩
  case round =>
    clear HRow HB0 hb7
    obtain ⟨k, hk, rfl, hB, hbs, hrow⟩ := hrel
    have HB := Lib.hid hB
    have HROW := Lib.hid hrow
    clear hB hrow
    by_cases hkn : k < n
    · have hkI : (k : Int) < (n : Int) := by omega
      have hkl : k < o.length := by rw [HN.out]; exact hkn
      have r1 := H.out.below (by rw [← HBB.out]; exact HB.out)
      obtain ⟨g, e1, l1, q⟩ := r1.r.resolve_left (fun e => by rw [e] at hkl; simp at hkl)
      subst e1
      have q0 := q k hkl 0 (by decide)
      have q1 := q k hkl 1 (by decide)
      have q2 := q k hkl 2 (by decide)
      have q3 := q k hkl 3 (by decide)
      have q4 := q k hkl 4 (by decide)
      have q5 := q k hkl 5 (by decide)
      have q6 := q k hkl 6 (by decide)
      have hop := HOP.out _ (List.getElem_mem hkl)
      have hsucc := dpF_succ o k hkl
      generalize (o[k]'hkl) = d at q0 q1 q2 q3 q4 q5 q6 hop hsucc
      simp only [ncell, List.getElem?_cons_zero, List.getElem?_cons_succ, Nat.add_zero] at q0 q1 q2 q3 q4 q5 q6
      obtain ⟨x0, hx0⟩ : ∃ x : Nat, x = d.op := ⟨_, rfl⟩
      obtain ⟨x1, hx1⟩ : ∃ x : Nat, x = d.a := ⟨_, rfl⟩
      obtain ⟨x2, hx2⟩ : ∃ x : Nat, x = d.b := ⟨_, rfl⟩
      obtain ⟨x3, hx3⟩ : ∃ x, x = d.name := ⟨_, rfl⟩
      obtain ⟨x4, hx4⟩ : ∃ x, x = d.attr := ⟨_, rfl⟩
      obtain ⟨x5, hx5⟩ : ∃ x : Int, x = hi d.val := ⟨_, rfl⟩
      obtain ⟨x6, hx6⟩ : ∃ x : Int, x = lo d.val := ⟨_, rfl⟩
      obtain ⟨v, hv⟩ : ∃ v, v = dep1 (deps (o.take k)) d := ⟨_, rfl⟩
      have hdl : (deps (o.take k)).length = k := by rw [deps_len, List.length_take]; omega
      have KD : Hid (∀ W : World, W.rowIs b 3 n (fun j => .int .i64 (dpF o k j : Nat)) → Calls Tryd.prog 70 #[.agg #[.int .i64 (x0 : Nat), .int .i64 (x1 : Nat), .int .i64 (x2 : Nat), .string x3, .string x4, .int .u64 x5, .int .u64 x6], .slice (some ⟨b, 0, none⟩) k n] W (RetX (.int .i64 (v : Nat)) W)) := Lib.hid fun W hW => by
        rw [hx0, hx1, hx2, hv]
        refine py_dof W (some ⟨b, 0, none⟩) k n (deps (o.take k)) hdl hk ⟨.inr ⟨b, rfl, fun j hj => ?_⟩⟩ (fun g hg => by injection hg with hg; injection hg with hg; subst hg; exact hW.lt) (fun x hx => by have := deps_snoc_le _ x hx; rw [List.length_take] at this; omega) d hop _ _ _ _
        rw [hW.cell (i := j) (by omega)]
        unfold dpF
        rw [List.getD_eq_getElem?_getD, List.getElem?_eq_getElem hj]; rfl
      rw [← hv] at hsucc
      rw [← hx0] at q0
      rw [← hx1] at q1
      rw [← hx2] at q2
      rw [← hx3] at q3
      rw [← hx4] at q4
      rw [← hx5] at q5
      rw [← hx6] at q6
      have HS := Lib.hid hsucc
      clear hsucc hv hx0 hx1 hx2 hx3 hx4 hx5 hx6 hop hdl r1 q
      have w0 : (wr.alloc (.cells #[.int .i64 (x0 : Nat), .int .i64 (x1 : Nat), .int .i64 (x2 : Nat), .string x3, .string x4, .int .u64 x5, .int .u64 x6] 105)).rowIs b 3 n (fun j => .int .i64 (dpF o k j : Nat)) := HROW.out.alloc _
      have HB2 := Lib.hid (HB.out.alloc (by omega) (.cells #[.int .i64 (x0 : Nat), .int .i64 (x1 : Nat), .int .i64 (x2 : Nat), .string x3, .string x4, .int .u64 x5, .int .u64 x6] 105))
      have hc : ∀ i, (wr.alloc (.cells #[.int .i64 (x0 : Nat), .int .i64 (x1 : Nat), .int .i64 (x2 : Nat), .string x3, .string x4, .int .u64 x5, .int .u64 x6] 105)).cell? ⟨wr.heap.size, i, none⟩ = #[Value.int .i64 (x0 : Nat), .int .i64 (x1 : Nat), .int .i64 (x2 : Nat), .string x3, .string x4, .int .u64 x5, .int .u64 x6][i]? := fun i => World.cell?_alloc_new ..
      have c0 := hc 0
      have c1 := hc 1
      have c2 := hc 2
      have c3 := hc 3
      have c4 := hc 4
      have c5 := hc 5
      have c6 := hc 6
      simp only [List.getElem?_toArray, List.getElem?_cons_zero, List.getElem?_cons_succ] at c0 c1 c2 c3 c4 c5 c6
      have hbs2 : b < (wr.alloc (.cells #[.int .i64 (x0 : Nat), .int .i64 (x1 : Nat), .int .i64 (x2 : Nat), .string x3, .string x4, .int .u64 x5, .int .u64 x6] 105)).heap.size := by simp; omega
      have HROW2 := Lib.hid w0
      clear hc w0 HB HROW hbs
      go_upto_region 5 with (fail)
      generalize wr.alloc (.cells #[.int .i64 (x0 : Nat), .int .i64 (x1 : Nat), .int .i64 (x2 : Nat), .string x3, .string x4, .int .u64 x5, .int .u64 x6] 105) = WB at c0 c1 c2 c3 c4 c5 c6 HROW2 HB2 hbs2 ⊢
      generalize wr.heap.size = bx at c0 c1 c2 c3 c4 c5 c6 ⊢
      clear q0 q1 q2 q3 q4 q5 q6
      go_region_with (go_at_call 70; (with_reducible refine (KD.out WB.drew HROW2.out.drew).mono ?_); (rintro e w2 ⟨rfl, hb2⟩; have HX2 := Lib.hid hb2; have HR2 := Lib.hid (HROW2.out.drew.of_block (hb2.block b (by exact hbs2))); have f2 := HR2.out.frozen k; have k2 := HR2.out.cell (i := k) hkn; clear hb2))
      all_goals
        have HF : Hid ((w2.setCell ⟨b, k, none⟩ (.int .i64 (v : Nat))).rowIs b 3 n (fun j => .int .i64 (dpF o (k + 1) j : Nat))) := Lib.hid ((HR2.out.set k (.int .i64 (v : Nat))).congr fun j _ => by
          rw [← HS.out j]
          by_cases e : j = k
          · rw [if_pos e, if_pos e]
          · rw [if_neg e, if_neg e])
        have HG : Hid (Below b w (w2.setCell ⟨b, k, none⟩ (.int .i64 (v : Nat)))) := Lib.hid ((HB2.out.drew.trans (HX2.out.mono (by have := hbs2; exact Nat.le_of_lt this))).setCell (p := ⟨b, k, none⟩) (Nat.le_refl _) _)
        have hgs := HF.out.lt
        clear HR2 HX2 HB2 HROW2 k2 f2
        generalize w2.setCell ⟨b, k, none⟩ (.int .i64 (v : Nat)) = WC at HF HG hgs ⊢
        go_wp2_with fail
        go_roundw
        case rel => (go_light; exact ⟨k + 1, by omega, by simp, HG.out, hgs, HF.out⟩)
        case measure => simp [intOf]; omega
    · have hkI : ¬ (k : Int) < (n : Int) := by omega
      have hkn2 : o.take k = o := List.take_of_length_le (by rw [HN.out]; omega)
      have hds : (deps o).length = n := by rw [deps_len, HN.out]
      have hR : IntR wr (some ⟨b, 0, none⟩) (deps o) := ⟨.inr ⟨b, rfl, fun j hj => by
        rw [HROW.out.cell (i := j) (by omega)]
        unfold dpF
        rw [hkn2, List.getD_eq_getElem?_getD, List.getElem?_eq_getElem hj]; rfl⟩⟩
      have KA := py_dat wr (some ⟨b, 0, none⟩) n n (deps o) hds (Nat.le_refl _) hR ((n : Int) - 1)
      have hdv : dsAt (deps o) ((n : Int) - 1) = r := by
        rw [HR.out]
        unfold depth
        rw [HN.out]
        by_cases h0 : n = 0
        · unfold dsAt
          rw [if_neg (by omega), List.getD_eq_getElem?_getD, List.getElem?_eq_none (by omega)]; rfl
        · rw [show ((n : Int) - 1) = ((n - 1 : Nat) : Int) by omega, dsAt_nat]
      rw [hdv] at KA
      have HKA := Lib.hid KA
      clear KA hdv hR hkn2 hds HROW
      go_wp2_with fail
      go_at_call 71
      refine HKA.out.mono ?_
      rintro e w2 ⟨rfl, rfl⟩
      go_wp2_with fail
      go_ret
      exact ⟨rfl, by rw [← HBB.out]; exact HB.out⟩
end
end Go.Proofs.YtodmkmoglchoeaaDoor
