/- Contracts, joined: EOrdP, EOrdW. -/
import Derived.Test.YtodmkmoglchoeaaDoorEBnd
import Derived.Test.YtodmkmoglchoeaaDoorEBeg
namespace Go.Proofs.YtodmkmoglchoeaaDoor
/- EvalOrder, pure: the sentences of the law, what they compile to, and that each pair means the same. -/
section
open Go.RowKit

def opS6 : Nat → ByteArray
  | 0 => ⟨#[61, 61]⟩
  | 1 => ⟨#[33, 61]⟩
  | 2 => ⟨#[60]⟩
  | 3 => ⟨#[60, 61]⟩
  | 4 => ⟨#[62]⟩
  | _ => ⟨#[62, 61]⟩
def opC6 : Nat → ByteArray
  | 0 => ⟨#[33, 61]⟩
  | 1 => ⟨#[61, 61]⟩
  | 2 => ⟨#[62, 61]⟩
  | 3 => ⟨#[62]⟩
  | 4 => ⟨#[60, 61]⟩
  | _ => ⟨#[60]⟩
def coN : Nat → Nat
  | 0 => 9
  | 1 => 8
  | 2 => 13
  | 3 => 12
  | 4 => 11
  | _ => 10
/-- the sentences with c and d in them -/
def snC (c d : ByteArray) : Nat → ByteArray
  | 0 => ⟨#[97]⟩ ++ c ++ ⟨#[98]⟩
  | 1 => ⟨#[33, 40, 97]⟩ ++ d ++ ⟨#[98, 41]⟩
  | 2 => ⟨#[97, 32, 43, 32, 98]⟩ ++ c ++ ⟨#[120]⟩
  | 3 => ⟨#[97]⟩ ++ c ++ ⟨#[120, 32, 45, 32, 98]⟩
  | 4 => ⟨#[97, 32, 45, 32, 98]⟩ ++ c ++ ⟨#[120]⟩
  | 5 => ⟨#[97]⟩ ++ c ++ ⟨#[120, 32, 43, 32, 98]⟩
  | 6 => ⟨#[45, 97]⟩ ++ c ++ ⟨#[45, 98]⟩
  | 7 => ⟨#[98]⟩ ++ c ++ ⟨#[97]⟩
  | 8 => ⟨#[97, 32, 43, 32, 120]⟩ ++ c ++ ⟨#[98, 32, 43, 32, 120]⟩
  | 9 => ⟨#[97]⟩ ++ c ++ ⟨#[98]⟩
  | 10 => ⟨#[97, 32, 45, 32, 40, 98, 32, 45, 32, 120, 41]⟩ ++ c ++ ⟨#[112, 114, 105, 111, 114, 105, 116, 121]⟩
  | _ => ⟨#[97, 32, 43, 32, 120]⟩ ++ c ++ ⟨#[112, 114, 105, 111, 114, 105, 116, 121, 32, 43, 32, 98]⟩
def lfV (n : ByteArray) : Tr := .leaf ⟨3, 0, 0, n, ⟨#[]⟩, 0⟩
def lA : Tr := lfV ⟨#[97]⟩
def lB : Tr := lfV ⟨#[98]⟩
def lX : Tr := lfV ⟨#[120]⟩
def lP : Tr := lfV sPrio
def trO (o p : Nat) : Nat → Tr
  | 0 => .bin o lA lB
  | 1 => .un 5 (.bin p lA lB)
  | 2 => .bin o (.bin 6 lA lB) lX
  | 3 => .bin o lA (.bin 7 lX lB)
  | 4 => .bin o (.bin 7 lA lB) lX
  | 5 => .bin o lA (.bin 6 lX lB)
  | 6 => .bin o (.un 4 lA) (.un 4 lB)
  | 7 => .bin o lB lA
  | 8 => .bin o (.bin 6 lA lX) (.bin 6 lB lX)
  | 9 => .bin o lA lB
  | 10 => .bin o (.bin 7 lA (.bin 7 lB lX)) lP
  | _ => .bin o (.bin 6 lA lX) (.bin 6 lP lB)
set_option maxRecDepth 1000000 in
theorem ord_all : ((List.range 72).map fun j => cmpl (snC (opS6 (j / 12)) (opC6 (j / 12)) (j % 12)) vars7) = ((List.range 72).map fun j => ((trO (8 + j / 12) (coN (j / 12)) (j % 12)).flat 0, 0)) := by kernel_rfl
theorem ord_cmpl (k i : Nat) (hk : k < 6) (hi : i < 12) : cmpl (snC (opS6 k) (opC6 k) i) vars7 = ((trO (8 + k) (coN k) i).flat 0, 0) := by
  have h := congrArg (fun l => l[k * 12 + i]?) ord_all
  simp only [List.getElem?_map, List.getElem?_range (show k * 12 + i < 72 by omega), Option.map_some, Option.some.injEq, show (k * 12 + i) / 12 = k by omega, show (k * 12 + i) % 12 = i by omega] at h
  exact h
theorem lfA_ok : lA.Ok := ⟨rfl, rfl, .inr (.inr ⟨rfl, rfl, by kernel_rfl, by decide, by decide, .inl rfl, fun i hi => (by have h1 : i < 1 := hi; have h2 : i = 0 := (by omega); subst h2; rfl), fun i hi => absurd hi (Nat.not_lt_zero i)⟩)⟩
theorem lfB_ok : lB.Ok := ⟨rfl, rfl, .inr (.inr ⟨rfl, rfl, by kernel_rfl, by decide, by decide, .inl rfl, fun i hi => (by have h1 : i < 1 := hi; have h2 : i = 0 := (by omega); subst h2; rfl), fun i hi => absurd hi (Nat.not_lt_zero i)⟩)⟩
theorem lfX_ok : lX.Ok := ⟨rfl, rfl, .inr (.inr ⟨rfl, rfl, by kernel_rfl, by decide, by decide, .inl rfl, fun i hi => (by have h1 : i < 1 := hi; have h2 : i = 0 := (by omega); subst h2; rfl), fun i hi => absurd hi (Nat.not_lt_zero i)⟩)⟩
theorem lfP_ok : lP.Ok := ⟨rfl, rfl, .inr (.inr ⟨rfl, rfl, by kernel_rfl, by decide, by decide, .inl rfl, fun i hi => (by
    have h1 : i < 8 := hi
    have : i = 0 ∨ i = 1 ∨ i = 2 ∨ i = 3 ∨ i = 4 ∨ i = 5 ∨ i = 6 ∨ i = 7 := by omega
    rcases this with rfl | rfl | rfl | rfl | rfl | rfl | rfl | rfl <;> rfl), fun i hi => absurd hi (Nat.not_lt_zero i)⟩)⟩
theorem coN_rng (k : Nat) : 8 ≤ coN k ∧ coN k ≤ 13 := by
  unfold coN
  split <;> omega
theorem trO_ok (k i : Nat) (hk : k < 6) (hi : i < 12) : (trO (8 + k) (coN k) i).Ok := by
  have hc := coN_rng k
  have : i = 0 ∨ i = 1 ∨ i = 2 ∨ i = 3 ∨ i = 4 ∨ i = 5 ∨ i = 6 ∨ i = 7 ∨ i = 8 ∨ i = 9 ∨ i = 10 ∨ i = 11 := by omega
  rcases this with rfl | rfl | rfl | rfl | rfl | rfl | rfl | rfl | rfl | rfl | rfl | rfl
  · exact ⟨by omega, by omega, lfA_ok, lfB_ok⟩
  · exact ⟨.inr rfl, by omega, by omega, lfA_ok, lfB_ok⟩
  · exact ⟨by omega, by omega, ⟨by omega, by omega, lfA_ok, lfB_ok⟩, lfX_ok⟩
  · exact ⟨by omega, by omega, lfA_ok, ⟨by omega, by omega, lfX_ok, lfB_ok⟩⟩
  · exact ⟨by omega, by omega, ⟨by omega, by omega, lfA_ok, lfB_ok⟩, lfX_ok⟩
  · exact ⟨by omega, by omega, lfA_ok, ⟨by omega, by omega, lfX_ok, lfB_ok⟩⟩
  · exact ⟨by omega, by omega, ⟨.inl rfl, lfA_ok⟩, ⟨.inl rfl, lfB_ok⟩⟩
  · exact ⟨by omega, by omega, lfB_ok, lfA_ok⟩
  · exact ⟨by omega, by omega, ⟨by omega, by omega, lfA_ok, lfX_ok⟩, ⟨by omega, by omega, lfB_ok, lfX_ok⟩⟩
  · exact ⟨by omega, by omega, lfA_ok, lfB_ok⟩
  · exact ⟨by omega, by omega, ⟨by omega, by omega, lfA_ok, ⟨by omega, by omega, lfB_ok, lfX_ok⟩⟩, lfP_ok⟩
  · exact ⟨by omega, by omega, ⟨by omega, by omega, lfA_ok, lfX_ok⟩, ⟨by omega, by omega, lfP_ok, lfB_ok⟩⟩
/-- a comparison -/
def cmpO (o : Nat) (x y : Int) : Bool := (opMn o (.num x) (.num y)).bool
theorem cmpO_is (x y : Int) : cmpO 8 x y = decide (x = y) ∧ cmpO 9 x y = !decide (x = y) ∧ cmpO 10 x y = decide (x < y) ∧ cmpO 11 x y = decide (x ≤ y) ∧ cmpO 12 x y = decide (y < x) ∧ cmpO 13 x y = decide (y ≤ x) := by
  refine ⟨?_, ?_, rfl, rfl, rfl, rfl⟩
  · show decide (Mn.num x = Mn.num y) = _
    exact decide_eq_decide.2 ⟨fun h => by injection h, fun h => by rw [h]⟩
  · show (!decide (Mn.num x = Mn.num y)) = _
    rw [decide_eq_decide.2 (⟨fun h => by injection h, fun h => by rw [h]⟩ : Mn.num x = Mn.num y ↔ x = y)]
theorem cmpO_tru (o : Nat) (h : 8 ≤ o ∧ o ≤ 13) (x y : Int) : opMn o (.num x) (.num y) = .tru (cmpO o x y) := by
  have : o = 8 ∨ o = 9 ∨ o = 10 ∨ o = 11 ∨ o = 12 ∨ o = 13 := by omega
  rcases this with rfl | rfl | rfl | rfl | rfl | rfl <;> rfl
theorem cmpO_sh {k : Nat} (hk : k < 6) {x y u v : Int} (h : x - y = u - v) : cmpO (8 + k) x y = cmpO (8 + k) u v := by
  have h1 := cmpO_is x y
  have h2 := cmpO_is u v
  obtain ⟨a1, a2, a3, a4, a5, a6⟩ := h1
  obtain ⟨b1, b2, b3, b4, b5, b6⟩ := h2
  have : k = 0 ∨ k = 1 ∨ k = 2 ∨ k = 3 ∨ k = 4 ∨ k = 5 := by omega
  rcases this with rfl | rfl | rfl | rfl | rfl | rfl
  · rw [a1, b1]; exact decide_eq_decide.2 (by omega)
  · rw [a2, b2, decide_eq_decide.2 (show x = y ↔ u = v by omega)]
  · rw [a3, b3]; exact decide_eq_decide.2 (by omega)
  · rw [a4, b4]; exact decide_eq_decide.2 (by omega)
  · rw [a5, b5]; exact decide_eq_decide.2 (by omega)
  · rw [a6, b6]; exact decide_eq_decide.2 (by omega)
theorem cmpO_co {k : Nat} (hk : k < 6) (x y : Int) : cmpO (8 + k) x y = !cmpO (coN k) x y := by
  obtain ⟨a1, a2, a3, a4, a5, a6⟩ := cmpO_is x y
  have : k = 0 ∨ k = 1 ∨ k = 2 ∨ k = 3 ∨ k = 4 ∨ k = 5 := by omega
  rcases this with rfl | rfl | rfl | rfl | rfl | rfl
  · show cmpO 8 x y = !cmpO 9 x y
    rw [a1, a2, Bool.not_not]
  · show cmpO 9 x y = !cmpO 8 x y
    rw [a1, a2]
  · show cmpO 10 x y = !cmpO 13 x y
    rw [a3, a6, ← decide_not]; exact decide_eq_decide.2 (by omega)
  · show cmpO 11 x y = !cmpO 12 x y
    rw [a4, a5, ← decide_not]; exact decide_eq_decide.2 (by omega)
  · show cmpO 12 x y = !cmpO 11 x y
    rw [a5, a4, ← decide_not]; exact decide_eq_decide.2 (by omega)
  · show cmpO 13 x y = !cmpO 10 x y
    rw [a6, a3, ← decide_not]; exact decide_eq_decide.2 (by omega)
/-- what a sentence of the law holds -/
def ordV (env : ByteArray → ByteArray → Nat) (k i : Nat) : Bool := hldN env (trO (8 + k) (coN k) i |>.flat 0)
theorem ordV_is {env : ByteArray → ByteArray → Nat} (hE : EnvB env) (k i : Nat) (hk : k < 6) (hi : i < 12) : ordV env k i = ((trO (8 + k) (coN k) i).mn env).bool := (mns_tree hE _ (trO_ok k i hk hi)).1
theorem ord_pair {env : ByteArray → ByteArray → Nat} (hE : EnvB env) (k i : Nat) (hk : k < 6) (hi : i < 6) : ordV env k (2 * i) = ordV env k (2 * i + 1) := by
  rw [ordV_is hE k _ hk (by omega), ordV_is hE k _ hk (by omega)]
  generalize hA : (env ⟨#[97]⟩ ⟨#[]⟩ : Int) = a
  generalize hB : (env ⟨#[98]⟩ ⟨#[]⟩ : Int) = b
  generalize hX : (env ⟨#[120]⟩ ⟨#[]⟩ : Int) = x
  generalize hP : (env sPrio ⟨#[]⟩ : Int) = p
  have eA : lA.mn env = .num a := by rw [← hA]; rfl
  have eB : lB.mn env = .num b := by rw [← hB]; rfl
  have eX : lX.mn env = .num x := by rw [← hX]; rfl
  have eP : lP.mn env = .num p := by rw [← hP]; rfl
  have : i = 0 ∨ i = 1 ∨ i = 2 ∨ i = 3 ∨ i = 4 ∨ i = 5 := by omega
  rcases this with rfl | rfl | rfl | rfl | rfl | rfl
  · show (opMn (8 + k) (lA.mn env) (lB.mn env)).bool = (opMn 5 (opMn (coN k) (lA.mn env) (lB.mn env)) (.tru false)).bool
    rw [eA, eB, cmpO_tru (coN k) (coN_rng k)]
    exact cmpO_co hk a b
  · show (opMn (8 + k) (opMn 6 (lA.mn env) (lB.mn env)) (lX.mn env)).bool = (opMn (8 + k) (lA.mn env) (opMn 7 (lX.mn env) (lB.mn env))).bool
    rw [eA, eB, eX]
    exact cmpO_sh (x := a + b) (y := x) (u := a) (v := x - b) hk (by omega)
  · show (opMn (8 + k) (opMn 7 (lA.mn env) (lB.mn env)) (lX.mn env)).bool = (opMn (8 + k) (lA.mn env) (opMn 6 (lX.mn env) (lB.mn env))).bool
    rw [eA, eB, eX]
    exact cmpO_sh (x := a - b) (y := x) (u := a) (v := x + b) hk (by omega)
  · show (opMn (8 + k) (opMn 4 (lA.mn env) (.tru false)) (opMn 4 (lB.mn env) (.tru false))).bool = (opMn (8 + k) (lB.mn env) (lA.mn env)).bool
    rw [eA, eB]
    exact cmpO_sh (x := -a) (y := -b) (u := b) (v := a) hk (by omega)
  · show (opMn (8 + k) (opMn 6 (lA.mn env) (lX.mn env)) (opMn 6 (lB.mn env) (lX.mn env))).bool = (opMn (8 + k) (lA.mn env) (lB.mn env)).bool
    rw [eA, eB, eX]
    exact cmpO_sh (x := a + x) (y := b + x) (u := a) (v := b) hk (by omega)
  · show (opMn (8 + k) (opMn 7 (lA.mn env) (opMn 7 (lB.mn env) (lX.mn env))) (lP.mn env)).bool = (opMn (8 + k) (opMn 6 (lA.mn env) (lX.mn env)) (opMn 6 (lP.mn env) (lB.mn env))).bool
    rw [eA, eB, eX, eP]
    exact cmpO_sh (x := a - (b - x)) (y := p) (u := a + x) (v := p + b) hk (by omega)
end
/- EvalOrder, its walk. -/
section
open Go.RowKit

/-- the twelve sentences in memory -/
structure TwS (w : World) (b : Nat) (S : Nat → ByteArray) : Prop where
  lt : b < w.heap.size
  at_ : ∀ j, j < 12 → w.cell? ⟨b, j, none⟩ = some (.string (S j))
theorem TwS.call {w w' : World} {b : Nat} {S : Nat → ByteArray} (h : TwS w b S) (hb : Below w.heap.size w w') : TwS w' b S := ⟨Nat.lt_of_lt_of_le h.lt hb.size, fun j hj => (hb.cell (p := ⟨b, j, none⟩) h.lt).trans (h.at_ j hj)⟩
theorem opS6_sz (k : Nat) : (opS6 k).size ≤ 2 := by unfold opS6; split <;> decide
theorem opC6_sz (k : Nat) : (opC6 k).size ≤ 2 := by unfold opC6; split <;> decide
theorem snC_sz (k i : Nat) : (snC (opS6 k) (opC6 k) i).size ≤ 100 := by
  have h1 := opS6_sz k
  have h2 := opC6_sz k
  generalize opS6 k = c at h1 ⊢
  generalize opC6 k = d at h2 ⊢
  have hA : ∀ a b : ByteArray, a.size ≤ 12 → b.size ≤ 12 → (a ++ c ++ b).size ≤ 100 := fun a b ha hb => by rw [ByteArray.size_append, ByteArray.size_append]; omega
  have hB : ∀ a b : ByteArray, a.size ≤ 12 → b.size ≤ 12 → (a ++ d ++ b).size ≤ 100 := fun a b ha hb => by rw [ByteArray.size_append, ByteArray.size_append]; omega
  unfold snC
  split
  · exact hA _ _ (by decide) (by decide)
  · exact hB _ _ (by decide) (by decide)
  · exact hA _ _ (by decide) (by decide)
  · exact hA _ _ (by decide) (by decide)
  · exact hA _ _ (by decide) (by decide)
  · exact hA _ _ (by decide) (by decide)
  · exact hA _ _ (by decide) (by decide)
  · exact hA _ _ (by decide) (by decide)
  · exact hA _ _ (by decide) (by decide)
  · exact hA _ _ (by decide) (by decide)
  · exact hA _ _ (by decide) (by decide)
  · exact hA _ _ (by decide) (by decide)
theorem wp_at3 {P : Program} {Q : Exit → Act → World → Prop} {a : Act} {c : Code} {w0 : World} {o1 o2 o3 : Obj} (T : World → Prop) (h1 : T (((w0.alloc o1).alloc o2).alloc o3)) (h2 : ∀ W, T W → c.wp P Q a W) : c.wp P Q a (((w0.alloc o1).alloc o2).alloc o3) := h2 _ h1
theorem tws_new {w : World} {o1 o2 : Obj} {cs : Array Value} {T : TypeId} {S : Nat → ByteArray} (h : ∀ j, j < 12 → cs[j]? = some (.string (S j))) : TwS (((w.alloc o1).alloc o2).alloc (.cells cs T)) (w.heap.size + 1 + 1) S := by
  have e : w.heap.size + 1 + 1 = ((w.alloc o1).alloc o2).heap.size := by simp
  refine ⟨by simp, fun j hj => ?_⟩
  rw [e, World.cell?_alloc_new]
  exact h j hj
/-- what a run of holds says of a sentence of the law -/
theorem hl_ord (g : Nat → Nat) (k i : Nat) (hk : k < 6) (hi : i < 12) : hlS g (snC (opS6 k) (opC6 k) i) = ordV (envB (bnds g 7)) k i ∧ decide ((cmpl (snC (opS6 k) (opC6 k) i) vars7).2 = 0) = true := by
  have h := ord_cmpl k i hk hi
  refine ⟨?_, ?_⟩
  · unfold hlS ordV
    rw [h, if_pos rfl]
  · rw [h]; rfl
set_option maxRecDepth 100000 in
set_option maxHeartbeats 16000000 in
theorem eord_any (w : World) (A : Option Addr) (n cap : Nat) (f : Nat → Nat) (m : Nat) (hm256 : m < 256) (hc : n ≤ cap) (hf : ∀ i, f i < 2 ^ 128) (hA : ValsB w A n f) (hy : Syms w) (hy2 : SymY w) (hy3 : TypY w) :
    Calls Tryd.prog 5 #[.slice A n cap, .int .u8 (m : Int)] w (RetX (.bool true) w) := by
  have HY1 := Lib.hid hy
  have HY2 := Lib.hid hy2
  have HY3 := Lib.hid hy3
  have HF := Lib.hid hf
  have HA := Lib.hid hA
  have hlt1 := hy2.lt
  have hlt2 := hy3.lt
  clear hy hy2 hy3 hf hA
  obtain ⟨k, hk⟩ : ∃ k, k = m % 6 := ⟨_, rfl⟩
  have hk6 : k < 6 := by omega
  have hm1 : (m : Int).tmod 6 = (k : Int) := by rw [Int.tmod_eq_emod_of_nonneg (by omega), hk]; omega
  have hm2 : (m : Int) % 6 = (k : Int) := by omega
  have KH : Hid (∀ W, Below w.heap.size w W → ∀ i, i < 12 → Calls Tryd.prog 15 #[.string (snC (opS6 k) (opC6 k) i), .slice A n cap] W (RetX (.tuple #[.bool (ordV (envB (bnds (fun i => if i < n then f i else 0) 7)) k i), .bool true]) W)) := Lib.hid fun W hW i hi => by
    have h := lb_holds W (snC (opS6 k) (opC6 k) i) (by have := snC_sz k i; omega) A n cap f hc HF.out (HA.out.below hW) (HY1.out.below hW HY1.out.lt) (HY2.out.below hW HY2.out.lt) (HY3.out.below hW HY3.out.lt)
    obtain ⟨h1, h2⟩ := hl_ord (fun i => if i < n then f i else 0) k i hk6 hi
    rw [h1, h2] at h
    exact h
  obtain ⟨V, hV⟩ : ∃ V : Nat → Bool, V = ordV (envB (bnds (fun i => if i < n then f i else 0) 7)) k := ⟨_, rfl⟩
  have HP : Hid (∀ i, i < 6 → V (2 * i) = V (2 * i + 1)) := Lib.hid fun i hi => by
    rw [hV]
    exact ord_pair (envB_rg _) k i hk6 hi
  rw [← hV] at KH
  obtain ⟨Sx, hSx⟩ : ∃ Sx : Nat → ByteArray, Sx = snC (opS6 k) (opC6 k) := ⟨_, rfl⟩
  rw [← hSx] at KH
  have KBg : Hid (∀ W, Below w.heap.size w W → Calls Tryd.prog 16 #[] W (RetX (.bool true) W)) := Lib.hid fun W hW => eb_begun W (HY1.out.below hW HY1.out.lt) (HY2.out.below hW HY2.out.lt) (HY3.out.below hW HY3.out.lt)
  clear hV hk
  have hkc : k = 0 ∨ k = 1 ∨ k = 2 ∨ k = 3 ∨ k = 4 ∨ k = 5 := by omega
  rcases hkc with rfl | rfl | rfl | rfl | rfl | rfl
  all_goals
    go_enter Tryd.func5, Tryd.ntmps5
    go_upto_region 4 with fail
    refine wp_at3 (fun W => TwS W (w.heap.size + 1 + 1) Sx ∧ Below w.heap.size w W) ⟨tws_new (fun j hj => ?_), (((Below.refl _ _).alloc (Nat.le_refl _) _).alloc (by simp) _).alloc (by simp; omega) _⟩ ?_
    · rw [hSx]
      have hjc : j = 0 ∨ j = 1 ∨ j = 2 ∨ j = 3 ∨ j = 4 ∨ j = 5 ∨ j = 6 ∨ j = 7 ∨ j = 8 ∨ j = 9 ∨ j = 10 ∨ j = 11 := by omega
      rcases hjc with rfl | rfl | rfl | rfl | rfl | rfl | rfl | rfl | rfl | rfl | rfl | rfl <;> rfl
    · rintro W ⟨hT, hB⟩
      have HT := Lib.hid hT
      have HB := Lib.hid hB
      clear hT hB hSx hm1 hm2 hk6
      generalize w.heap.size + 1 + 1 = b3 at HT ⊢
      go_loopw [67] (fun i w' => ∃ q : Nat, q ≤ 6 ∧ i = .int .i64 q ∧ Below w.heap.size w w' ∧ TwS w' b3 Sx) (fun i _ => 6 - (intOf i).toNat)
      case atStart => exact ⟨0, by omega, rfl, HB.out, HT.out⟩
      case round =>
        clear HB HT
        obtain ⟨q, hq, rfl, hB, hT⟩ := hrel
        have HB := Lib.hid hB
        have HT := Lib.hid hT
        have hsz := hB.size
        by_cases hlt : q < 6
        · have hqI : (q : Int) < 6 := by omega
          have hq0 : 0 ≤ (q : Int) := by omega
          have t0 := hT.at_ (q * 2) (by omega)
          have t1 := hT.at_ (q * 2 + 1) (by omega)
          have hpair := HP.out q hlt
          rw [show 2 * q = q * 2 by omega] at hpair
          have K0 : Hid (∀ W, Below w.heap.size w W → Calls Tryd.prog 15 #[.string (Sx (q * 2)), .slice A n cap] W (RetX (.tuple #[.bool (V (q * 2)), .bool true]) W)) := Lib.hid fun W hW => KH.out W hW (q * 2) (by omega)
          have K1 : Hid (∀ W, Below w.heap.size w W → Calls Tryd.prog 15 #[.string (Sx (q * 2 + 1)), .slice A n cap] W (RetX (.tuple #[.bool (V (q * 2)), .bool true]) W)) := Lib.hid fun W hW => by
            rw [hpair]
            exact KH.out W hW (q * 2 + 1) (by omega)
          generalize Sx (q * 2) = s0 at t0 K0
          generalize Sx (q * 2 + 1) = s1 at t1 K1
          generalize V (q * 2) = v at K0 K1
          clear hB hT hpair
          have HBn : Hid (Below w.heap.size w (wr.alloc (.cells #[.string s0, .string s1] 55))) := Lib.hid (HB.out.alloc hsz _)
          have HTn : Hid (TwS (wr.alloc (.cells #[.string s0, .string s1] 55)) b3 Sx) := Lib.hid (HT.out.call ((Below.refl _ _).alloc (Nat.le_refl _) _))
          have d0 : (wr.alloc (.cells #[.string s0, .string s1] 55)).cell? ⟨wr.heap.size, 0, none⟩ = some (.string s0) := by rw [World.cell?_alloc_new]; rfl
          have d1 : (wr.alloc (.cells #[.string s0, .string s1] 55)).cell? ⟨wr.heap.size, 1, none⟩ = some (.string s1) := by rw [World.cell?_alloc_new]; rfl
          have hxl : wr.heap.size < (wr.alloc (.cells #[.string s0, .string s1] 55)).heap.size := by simp
          go_upto_region 6 with fail
          generalize wr.alloc (.cells #[.string s0, .string s1] 55) = Wn at HBn HTn d0 d1 hxl ⊢
          generalize wr.heap.size = bx at d0 d1 hxl ⊢
          clear t0 t1 HB HT
          go_wp2_with fail
          go_at_call 15
          refine (K0.out Wn HBn.out).mono ?_
          rintro e w2 ⟨rfl, hb2⟩
          have d2 : w2.cell? ⟨bx, 1, none⟩ = some (.string s1) := (hb2.cell (p := ⟨bx, 1, none⟩) hxl).trans d1
          have HB2 := Lib.hid (HBn.out.trans (hb2.mono HBn.out.size))
          have HT2 := Lib.hid (HTn.out.call hb2)
          clear hb2 d0 d1 hxl
          go_wp2_with fail
          go_at_call 15
          refine (K1.out w2 HB2.out).mono ?_
          rintro e w3 ⟨rfl, hb3⟩
          have HB3 := Lib.hid (HB2.out.trans (hb3.mono HB2.out.size))
          have HT3 := Lib.hid (HT2.out.call hb3)
          clear hb3 d2
          cases v
          all_goals
            go_wp2_with fail
            go_roundw
            case rel => (go_light; exact ⟨q + 1, by omega, by simp, HB3.out, HT3.out⟩)
            case measure => simp [intOf]; omega
        · obtain rfl : q = 6 := by omega
          have hqI : ¬ ((6 : Nat) : Int) < 6 := by omega
          go_wp2_with fail
          go_at_call 16
          refine (KBg.out wr HB.out).mono ?_
          rintro e w3 ⟨rfl, hb3⟩
          have HB3 := Lib.hid (HB.out.trans (hb3.mono HB.out.size))
          clear hb3
          go_wp2_with fail
          go_ret
          exact ⟨rfl, HB3.out⟩
end
end Go.Proofs.YtodmkmoglchoeaaDoor
