/- Layer 12: the trie in memory: a box, and a block a node; a step of Put, a step of Remove. -/
import Derived.Test.YtmlocfojmncghaaJVal
import Derived.Test.YtmlocfojmncghaaGLow
namespace Go.Proofs.Ytmlocfojmncghaa
open Go.RowKit
abbrev Pth := List Bool
def updU {α : Type} (f : Pth → α) (p : Pth) (x : α) : Pth → α := fun q => if q = p then x else f q
theorem updU_same {α : Type} (f : Pth → α) (p : Pth) (x : α) : updU f p x p = x := if_pos rfl
theorem updU_other {α : Type} (f : Pth → α) {p q : Pth} (x : α) (h : q ≠ p) : updU f p x q = f q := if_neg h
/-- the node that is in use -/
def lvU (A : Pth → Option Nat) (c : Pth → Nat) (p : Pth) : Option Nat := if 0 < c p then A p else none
def ptU (o : Option Nat) : Value := .pointer (o.map fun b => ⟨b, 0, none⟩)
def ndU (A : Pth → Option Nat) (c : Pth → Nat) (th : Pth → Bool) (id : Pth → Int) (p : Pth) : Array Value :=
  #[ptU (lvU A c (p ++ [false])), ptU (lvU A c (p ++ [true])), .int .i64 (c p), .bool (th p), .int .i64 (id p)]
/-- the trie in memory, also halfway through Put and Remove: c says how many prefixes begin so -/
structure TrieM (w : World) (X : Nat) (bits : Nat) (A : Pth → Option Nat) (c : Pth → Nat) (th : Pth → Bool) (id : Pth → Int) (N : Nat) : Prop where
  box : w.heap[X]? = some (.cells #[.int .i64 bits, ptU (lvU A c []), .int .i64 N] 128 (0, 0))
  node : ∀ p b, A p = some b → w.heap[b]? = some (.cells (ndU A c th id p) 137 (0, 0))
  inj : ∀ p q b, A p = some b → A q = some b → p = q
  ne : ∀ p b, A p = some b → b ≠ X
  has : ∀ p, 0 < c p → ∃ b, A p = some b
  num : ∃ Ns : List Pth, Ns.Nodup ∧ (∀ p, p ∈ Ns ↔ 0 < c p) ∧ N = Ns.length
theorem snoc_neU (p : Pth) (x : Bool) : p ++ [x] ≠ p := fun e => by
  have := congrArg List.length e
  simp at this
theorem snoc_injU {p q : Pth} {x y : Bool} (h : p ++ [x] = q ++ [y]) : p = q ∧ x = y := by
  have := List.append_inj' h rfl
  exact ⟨this.1, by simpa using this.2⟩
/-- what lies elsewhere makes no difference -/
theorem TrieM.aside {w w' : World} {X bits N : Nat} {A : Pth → Option Nat} {c : Pth → Nat} {th : Pth → Bool} {id : Pth → Int} (h : TrieM w X bits A c th id N) (hb : ∀ j, (j = X ∨ ∃ p, A p = some j) → w'.heap[j]? = w.heap[j]?) : TrieM w' X bits A c th id N :=
  ⟨(hb X (.inl rfl)).trans h.box, fun p b e => (hb b (.inr ⟨p, e⟩)).trans (h.node p b e), h.inj, h.ne, h.has, h.num⟩
theorem heap_ltU {w : World} {j : Nat} {o : Obj} (h : w.heap[j]? = some o) : j < w.heap.size := (Array.getElem?_eq_some_iff.1 h).1
theorem TrieM.below {w w' : World} {X bits N : Nat} {A : Pth → Option Nat} {c : Pth → Nat} {th : Pth → Bool} {id : Pth → Int} (h : TrieM w X bits A c th id N) (hb : Below w.heap.size w w') : TrieM w' X bits A c th id N :=
  h.aside fun j e => hb.block j (by
    rcases e with rfl | ⟨p, e⟩
    · exact heap_ltU h.box
    · exact heap_ltU (h.node p j e))
/-- whatever is cells lies as it lay -/
def CKU (D : Nat → Prop) (W W' : World) : Prop := W.heap.size ≤ W'.heap.size ∧ ∀ (j : Nat) (cs : Array Value) (T : TypeId) (fr : Nat × Nat), W.heap[j]? = some (.cells cs T fr) → ¬ D j → W'.heap[j]? = some (.cells cs T fr)
theorem TrieM.ck {w w' : World} {X bits N : Nat} {A : Pth → Option Nat} {c : Pth → Nat} {th : Pth → Bool} {id : Pth → Int} (h : TrieM w X bits A c th id N) {D : Nat → Prop} (hk : CKU D w w') (hX : ¬ D X) (hA : ∀ p b, A p = some b → ¬ D b) : TrieM w' X bits A c th id N :=
  ⟨hk.2 X _ _ _ h.box hX, fun p b e => hk.2 b _ _ _ (h.node p b e) (hA p b e), h.inj, h.ne, h.has, h.num⟩
theorem lvU_bump {A : Pth → Option Nat} {c : Pth → Nat} {r : Pth} (hc : 0 < c r) (n : Nat) (hn : 0 < n) (s : Pth) : lvU A (updU c r n) s = lvU A c s := by
  unfold lvU
  by_cases e : s = r
  · subst e
    rw [updU_same, if_pos hn, if_pos hc]
  · rw [updU_other _ _ e]
/-- the cells of a child -/
def ixU (x : Bool) : Nat := if x then 1 else 0
theorem nd_setU (A : Pth → Option Nat) (c : Pth → Nat) (th : Pth → Bool) (id : Pth → Int) (p : Pth) (x : Bool) {A' : Pth → Option Nat} {c' : Pth → Nat} (h1 : lvU A' c' (p ++ [!x]) = lvU A c (p ++ [!x])) (h2 : c' p = c p) :
    (ndU A c th id p).setIfInBounds (ixU x) (ptU (lvU A' c' (p ++ [x]))) = ndU A' c' th id p := by
  unfold ndU
  cases x
  · rw [show (!false) = true from rfl] at h1
    rw [h1, h2]; rfl
  · rw [show (!true) = false from rfl] at h1
    rw [h1, h2]; rfl
theorem setHU {w : World} {k j : Nat} {v : Value} {b : Nat} (h : b ≠ k) : (w.setCell ⟨k, j, none⟩ v).heap[b]? = w.heap[b]? := Below.heap_setCell w _ _ _ h
theorem bnotU {x y : Bool} (h : y ≠ x) : y = !x := by cases x <;> cases y <;> simp_all
/-- one more, at a child that is there -/
theorem TrieM.bump {w : World} {X bits N : Nat} {A : Pth → Option Nat} {c : Pth → Nat} {th : Pth → Bool} {id : Pth → Int} (h : TrieM w X bits A c th id N) (p : Pth) (x : Bool) {bp b : Nat} (hp : A p = some bp) (hb : A (p ++ [x]) = some b) (hc : 0 < c (p ++ [x])) (n : Nat) (hn : 0 < n) :
    TrieM ((w.setCell ⟨b, 2, none⟩ (.int .i64 n)).setCell ⟨bp, ixU x, none⟩ (ptU (some b))) X bits A (updU c (p ++ [x]) n) th id N := by
  have hne : b ≠ bp := fun e => snoc_neU p x (h.inj _ _ b hb (e ▸ hp))
  have hlv := lvU_bump (A := A) hc n hn
  have hlx : lvU A c (p ++ [x]) = some b := by unfold lvU; rw [if_pos hc, hb]
  refine ⟨?_, ?_, h.inj, h.ne, ?_, ?_⟩
  · rw [setHU (h.ne _ _ hp).symm, setHU (h.ne _ _ hb).symm, hlv]
    exact h.box
  · intro r k hk
    by_cases e1 : k = bp
    · subst e1
      obtain rfl := h.inj _ _ k hk hp
      have hq : (w.setCell ⟨b, 2, none⟩ (.int .i64 n)).heap[k]? = some (.cells (ndU A c th id r) 137 (0, 0)) := by
        rw [setHU hne.symm]; exact h.node r k hk
      rw [blk_set hq]
      rw [← nd_setU A c th id r x (hlv _) (updU_other _ _ (snoc_neU r x).symm), hlv, hlx]
    · rw [setHU e1]
      by_cases e2 : k = b
      · subst e2
        obtain rfl := h.inj _ _ k hk hb
        rw [blk_set (h.node _ k hk)]
        unfold ndU
        rw [hlv, hlv, updU_same]
        rfl
      · rw [setHU e2, h.node r k hk]
        unfold ndU
        rw [hlv, hlv, updU_other _ _ (fun e => e2 (by subst e; rw [hb] at hk; injection hk with hk; exact hk.symm))]
  · intro r hr
    by_cases e : r = p ++ [x]
    · exact ⟨b, e ▸ hb⟩
    · rw [updU_other _ _ e] at hr; exact h.has r hr
  · obtain ⟨Ns, h1, h2, h3⟩ := h.num
    refine ⟨Ns, h1, fun r => ?_, h3⟩
    by_cases e : r = p ++ [x]
    · subst e
      rw [updU_same, h2]
      exact ⟨fun _ => by omega, fun _ => hc⟩
    · rw [updU_other _ _ e, h2]
/-- one more, at the root that is there -/
theorem TrieM.bump0 {w : World} {X bits N : Nat} {A : Pth → Option Nat} {c : Pth → Nat} {th : Pth → Bool} {id : Pth → Int} (h : TrieM w X bits A c th id N) {b : Nat} (hb : A [] = some b) (hc : 0 < c []) (n : Nat) (hn : 0 < n) :
    TrieM ((w.setCell ⟨b, 2, none⟩ (.int .i64 n)).setCell ⟨X, 1, none⟩ (ptU (some b))) X bits A (updU c [] n) th id N := by
  have hlv := lvU_bump (A := A) hc n hn
  have hlx : lvU A c [] = some b := by unfold lvU; rw [if_pos hc, hb]
  refine ⟨?_, ?_, h.inj, h.ne, ?_, ?_⟩
  · have hq : (w.setCell ⟨b, 2, none⟩ (.int .i64 n)).heap[X]? = some (.cells #[.int .i64 bits, ptU (lvU A c []), .int .i64 N] 128 (0, 0)) := by
      rw [setHU (h.ne _ _ hb).symm]; exact h.box
    rw [blk_set hq, hlv, hlx]
    rfl
  · intro r k hk
    rw [setHU (h.ne _ _ hk)]
    by_cases e2 : k = b
    · subst e2
      obtain rfl := h.inj _ _ k hk hb
      rw [blk_set (h.node _ k hk)]
      unfold ndU
      rw [hlv, hlv, updU_same]
      rfl
    · rw [setHU e2, h.node r k hk]
      unfold ndU
      rw [hlv, hlv, updU_other _ _ (fun e => e2 (by subst e; rw [hb] at hk; injection hk with hk; exact hk.symm))]
  · intro r hr
    by_cases e : r = []
    · exact ⟨b, e ▸ hb⟩
    · rw [updU_other _ _ e] at hr; exact h.has r hr
  · obtain ⟨Ns, h1, h2, h3⟩ := h.num
    refine ⟨Ns, h1, fun r => ?_, h3⟩
    by_cases e : r = []
    · subst e
      rw [updU_same, h2]
      exact ⟨fun _ => by omega, fun _ => hc⟩
    · rw [updU_other _ _ e, h2]
/-- the world behind oneMore of nil -/
def newU (w : World) (X N : Nat) : World := (w.setCell ⟨X, 2, none⟩ (.int .i64 ((N : Int) + 1))).alloc (.cells #[.pointer none, .pointer none, .int .i64 1, .bool false, .int .i64 0] 137)
theorem newU_size (w : World) (X N : Nat) : (newU w X N).heap.size = w.heap.size + 1 := by unfold newU; simp
theorem newU_old {w : World} {X N j : Nat} (hj : j < w.heap.size) (hne : j ≠ X) : (newU w X N).heap[j]? = w.heap[j]? := by
  unfold newU
  rw [heap_alloc_old _ _ (by simp; exact hj), setHU hne]
theorem newU_new {w : World} {X N : Nat} : (newU w X N).heap[w.heap.size]? = some (.cells #[.pointer none, .pointer none, .int .i64 1, .bool false, .int .i64 0] 137 (0, 0)) := by
  have h := heap_alloc_new (w.setCell ⟨X, 2, none⟩ (.int .i64 ((N : Int) + 1))) (.cells #[.pointer none, .pointer none, .int .i64 1, .bool false, .int .i64 0] 137)
  rwa [World.size_setCell] at h
theorem newU_box {w : World} {X N : Nat} {u v z : Value} {T : TypeId} (hX : w.heap[X]? = some (.cells #[u, v, z] T (0, 0))) : (newU w X N).heap[X]? = some (.cells #[u, v, .int .i64 (N + 1 : Nat)] T (0, 0)) := by
  unfold newU
  rw [heap_alloc_old _ _ (by simp; exact heap_ltU hX), blk_set hX]
  rfl
theorem lvU_new {A : Pth → Option Nat} {c : Pth → Nat} {r : Pth} (k : Nat) (s : Pth) : lvU (updU A r (some k)) (updU c r 1) s = if s = r then some k else lvU A c s := by
  unfold lvU
  by_cases e : s = r
  · subst e
    rw [updU_same, updU_same, if_pos rfl, if_pos (by decide)]
  · rw [updU_other _ _ e, updU_other _ _ e, if_neg e]
theorem TrieM.ltA {w : World} {X bits N : Nat} {A : Pth → Option Nat} {c : Pth → Nat} {th : Pth → Bool} {id : Pth → Int} (h : TrieM w X bits A c th id N) {r : Pth} {k : Nat} (hk : A r = some k) : k < w.heap.size := heap_ltU (h.node r k hk)
/-- one more, at a child that is not there -/
theorem TrieM.grow {w : World} {X bits N : Nat} {A : Pth → Option Nat} {c : Pth → Nat} {th : Pth → Bool} {id : Pth → Int} (h : TrieM w X bits A c th id N) (p : Pth) (x : Bool) {bp : Nat} (hp : A p = some bp) (hc : c (p ++ [x]) = 0) (ht : th (p ++ [x]) = false) (hk : ∀ y, c (p ++ [x] ++ [y]) = 0) :
    TrieM ((newU w X N).setCell ⟨bp, ixU x, none⟩ (ptU (some w.heap.size))) X bits (updU A (p ++ [x]) (some w.heap.size)) (updU c (p ++ [x]) 1) th (updU id (p ++ [x]) 0) (N + 1) := by
  have hX := heap_ltU h.box
  have hbp := h.ltA hp
  have hlv := lvU_new (A := A) (c := c) (r := p ++ [x]) w.heap.size
  have hsn : ([] : Pth) ≠ p ++ [x] := by simp
  refine ⟨?_, ?_, ?_, ?_, ?_, ?_⟩
  · rw [setHU (h.ne _ _ hp).symm, newU_box h.box, hlv, if_neg hsn]
  · intro r k hr
    by_cases e : r = p ++ [x]
    · subst e
      rw [updU_same] at hr
      injection hr with hr
      subst hr
      rw [setHU (by omega), newU_new]
      unfold ndU
      rw [hlv, hlv, if_neg (snoc_neU _ _), if_neg (snoc_neU _ _), updU_same, updU_same, ht]
      unfold lvU
      rw [hk, hk]
      rfl
    · rw [updU_other _ _ e] at hr
      have hklt := h.ltA hr
      have hkX := h.ne _ _ hr
      by_cases e1 : k = bp
      · subst e1
        obtain rfl := h.inj _ _ k hr hp
        have hq : (newU w X N).heap[k]? = some (.cells (ndU A c th id r) 137 (0, 0)) := (newU_old hklt hkX).trans (h.node r k hr)
        have hnx : r ++ [!x] ≠ r ++ [x] := fun e => by have := (snoc_injU e).2; cases x <;> simp at this
        rw [blk_set hq]
        have h5 := nd_setU A c th id r x (A' := updU A (r ++ [x]) (some w.heap.size)) (c' := updU c (r ++ [x]) 1) (by rw [hlv, if_neg hnx]) (updU_other _ _ (snoc_neU r x).symm)
        rw [hlv, if_pos rfl] at h5
        rw [h5]
        unfold ndU
        rw [updU_other id 0 (snoc_neU r x).symm]
      · rw [setHU e1, newU_old hklt hkX, h.node r k hr]
        have hy : ∀ y, r ++ [y] ≠ p ++ [x] := fun y e2 => e1 (by obtain ⟨rfl, _⟩ := snoc_injU e2; rw [hp] at hr; injection hr with hr; exact hr.symm)
        unfold ndU
        rw [hlv, hlv, if_neg (hy _), if_neg (hy _), updU_other _ _ e, updU_other _ _ e]
  · intro r q b hr hq
    by_cases e : r = p ++ [x] <;> by_cases e2 : q = p ++ [x]
    · rw [e, e2]
    · subst e
      rw [updU_same] at hr; injection hr with hr
      rw [updU_other _ _ e2] at hq
      have := h.ltA hq; omega
    · subst e2
      rw [updU_same] at hq; injection hq with hq
      rw [updU_other _ _ e] at hr
      have := h.ltA hr; omega
    · rw [updU_other _ _ e] at hr; rw [updU_other _ _ e2] at hq
      exact h.inj _ _ _ hr hq
  · intro r b hr
    by_cases e : r = p ++ [x]
    · subst e
      rw [updU_same] at hr; injection hr with hr
      omega
    · rw [updU_other _ _ e] at hr; exact h.ne _ _ hr
  · intro r hr
    by_cases e : r = p ++ [x]
    · exact ⟨_, by rw [e, updU_same]⟩
    · rw [updU_other _ _ e] at hr ⊢; exact h.has r hr
  · obtain ⟨Ns, h1, h2, h3⟩ := h.num
    refine ⟨(p ++ [x]) :: Ns, List.nodup_cons.2 ⟨fun hm => by have := (h2 _).1 hm; omega, h1⟩, fun r => ?_, by rw [h3]; rfl⟩
    rw [List.mem_cons, h2]
    by_cases e : r = p ++ [x]
    · subst e
      rw [updU_same]
      exact ⟨fun _ => by decide, fun _ => .inl rfl⟩
    · rw [updU_other _ _ e]
      exact ⟨fun h => h.resolve_left e, .inr⟩
theorem TrieM.grow0 {w : World} {X bits N : Nat} {A : Pth → Option Nat} {c : Pth → Nat} {th : Pth → Bool} {id : Pth → Int} (h : TrieM w X bits A c th id N) (hc : c [] = 0) (ht : th [] = false) (hk : ∀ y, c ([] ++ [y]) = 0) :
    TrieM ((newU w X N).setCell ⟨X, 1, none⟩ (ptU (some w.heap.size))) X bits (updU A [] (some w.heap.size)) (updU c [] 1) th (updU id [] 0) (N + 1) := by
  have hX := heap_ltU h.box
  have hlv := lvU_new (A := A) (c := c) (r := []) w.heap.size
  refine ⟨?_, ?_, ?_, ?_, ?_, ?_⟩
  · rw [blk_set (newU_box h.box), hlv, if_pos rfl]
    rfl
  · intro r k hr
    by_cases e : r = []
    · subst e
      rw [updU_same] at hr
      injection hr with hr
      subst hr
      rw [setHU (by omega), newU_new]
      unfold ndU
      rw [hlv, hlv, if_neg (snoc_neU _ _), if_neg (snoc_neU _ _), updU_same, updU_same, ht]
      unfold lvU
      rw [hk, hk]
      rfl
    · rw [updU_other _ _ e] at hr
      have hklt := h.ltA hr
      have hkX := h.ne _ _ hr
      rw [setHU hkX, newU_old hklt hkX, h.node r k hr]
      have hy : ∀ y, r ++ [y] ≠ [] := fun y => by simp
      unfold ndU
      rw [hlv, hlv, if_neg (hy _), if_neg (hy _), updU_other _ _ e, updU_other _ _ e]
  · intro r q b hr hq
    by_cases e : r = [] <;> by_cases e2 : q = []
    · rw [e, e2]
    · subst e
      rw [updU_same] at hr; injection hr with hr
      rw [updU_other _ _ e2] at hq
      have := h.ltA hq; omega
    · subst e2
      rw [updU_same] at hq; injection hq with hq
      rw [updU_other _ _ e] at hr
      have := h.ltA hr; omega
    · rw [updU_other _ _ e] at hr; rw [updU_other _ _ e2] at hq
      exact h.inj _ _ _ hr hq
  · intro r b hr
    by_cases e : r = []
    · subst e
      rw [updU_same] at hr; injection hr with hr
      omega
    · rw [updU_other _ _ e] at hr; exact h.ne _ _ hr
  · intro r hr
    by_cases e : r = []
    · exact ⟨_, by rw [e, updU_same]⟩
    · rw [updU_other _ _ e] at hr ⊢; exact h.has r hr
  · obtain ⟨Ns, h1, h2, h3⟩ := h.num
    refine ⟨[] :: Ns, List.nodup_cons.2 ⟨fun hm => by have := (h2 _).1 hm; omega, h1⟩, fun r => ?_, by rw [h3]; rfl⟩
    rw [List.mem_cons, h2]
    by_cases e : r = []
    · subst e
      rw [updU_same]
      exact ⟨fun _ => by decide, fun _ => .inl rfl⟩
    · rw [updU_other _ _ e]
      exact ⟨fun h => h.resolve_left e, .inr⟩
theorem lvU_drop {A : Pth → Option Nat} {c : Pth → Nat} {r : Pth} (s : Pth) : lvU A (updU c r 0) s = if s = r then none else lvU A c s := by
  unfold lvU
  by_cases e : s = r
  · subst e
    rw [updU_same, if_pos rfl, if_neg (by decide)]
  · rw [updU_other _ _ e, if_neg e]
theorem num_dropU {c : Pth → Nat} {N : Nat} (r : Pth) (hc : 0 < c r) (h : ∃ Ns : List Pth, Ns.Nodup ∧ (∀ p, p ∈ Ns ↔ 0 < c p) ∧ N = Ns.length) : ∃ Ns : List Pth, Ns.Nodup ∧ (∀ p, p ∈ Ns ↔ 0 < updU c r 0 p) ∧ N - 1 = Ns.length := by
  obtain ⟨Ns, h1, h2, h3⟩ := h
  refine ⟨Ns.erase r, h1.erase r, fun s => ?_, by rw [List.length_erase_of_mem ((h2 r).2 hc), h3]⟩
  rw [h1.mem_erase_iff, h2]
  by_cases e : s = r
  · subst e
    rw [updU_same]
    exact ⟨fun h => absurd rfl h.1, fun h => absurd h (by decide)⟩
  · rw [updU_other _ _ e]
    exact ⟨fun h => h.2, fun h => ⟨e, h⟩⟩
/-- the last one goes, at a child -/
theorem TrieM.drop {w : World} {X bits N : Nat} {A : Pth → Option Nat} {c : Pth → Nat} {th : Pth → Bool} {id : Pth → Int} (h : TrieM w X bits A c th id N) (p : Pth) (x : Bool) {bp b : Nat} (hp : A p = some bp) (hb : A (p ++ [x]) = some b) (hc : 0 < c (p ++ [x])) :
    TrieM (((w.setCell ⟨b, 2, none⟩ (.int .i64 (0 : Nat))).setCell ⟨X, 2, none⟩ (.int .i64 (N - 1 : Nat))).setCell ⟨bp, ixU x, none⟩ (ptU none)) X bits A (updU c (p ++ [x]) 0) th id (N - 1) := by
  have hne : b ≠ bp := fun e => snoc_neU p x (h.inj _ _ b hb (e ▸ hp))
  have hlv := lvU_drop (A := A) (c := c) (r := p ++ [x])
  have hsn : ([] : Pth) ≠ p ++ [x] := by simp
  refine ⟨?_, ?_, h.inj, h.ne, ?_, num_dropU _ hc h.num⟩
  · have hq : (w.setCell ⟨b, 2, none⟩ (.int .i64 (0 : Nat))).heap[X]? = some (.cells #[.int .i64 bits, ptU (lvU A c []), .int .i64 N] 128 (0, 0)) := by
      rw [setHU (h.ne _ _ hb).symm]; exact h.box
    rw [setHU (h.ne _ _ hp).symm, blk_set hq, hlv, if_neg hsn]
    rfl
  · intro r k hk
    have hkX := h.ne _ _ hk
    by_cases e1 : k = bp
    · subst e1
      obtain rfl := h.inj _ _ k hk hp
      have hq : ((w.setCell ⟨b, 2, none⟩ (.int .i64 (0 : Nat))).setCell ⟨X, 2, none⟩ (.int .i64 (N - 1 : Nat))).heap[k]? = some (.cells (ndU A c th id r) 137 (0, 0)) := by
        rw [setHU hkX, setHU hne.symm]; exact h.node r k hk
      have hnx : r ++ [!x] ≠ r ++ [x] := fun e => by have := (snoc_injU e).2; cases x <;> simp at this
      rw [blk_set hq]
      have h5 := nd_setU A c th id r x (A' := A) (c' := updU c (r ++ [x]) 0) (by rw [hlv, if_neg hnx]) (updU_other _ _ (snoc_neU r x).symm)
      rw [hlv, if_pos rfl] at h5
      rw [h5]
    · rw [setHU e1, setHU hkX]
      have hy : ∀ y, r ++ [y] ≠ p ++ [x] := fun y e2 => e1 (by obtain ⟨rfl, _⟩ := snoc_injU e2; rw [hp] at hk; injection hk with hk; exact hk.symm)
      by_cases e2 : k = b
      · subst e2
        obtain rfl := h.inj _ _ k hk hb
        rw [blk_set (h.node _ k hk)]
        unfold ndU
        rw [hlv, hlv, if_neg (hy _), if_neg (hy _), updU_same]
        rfl
      · rw [setHU e2, h.node r k hk]
        unfold ndU
        rw [hlv, hlv, if_neg (hy _), if_neg (hy _), updU_other _ _ (fun e => e2 (by subst e; rw [hb] at hk; injection hk with hk; exact hk.symm))]
  · intro r hr
    by_cases e : r = p ++ [x]
    · exact ⟨b, e ▸ hb⟩
    · rw [updU_other _ _ e] at hr; exact h.has r hr
theorem TrieM.drop0 {w : World} {X bits N : Nat} {A : Pth → Option Nat} {c : Pth → Nat} {th : Pth → Bool} {id : Pth → Int} (h : TrieM w X bits A c th id N) {b : Nat} (hb : A [] = some b) (hc : 0 < c []) :
    TrieM (((w.setCell ⟨b, 2, none⟩ (.int .i64 (0 : Nat))).setCell ⟨X, 2, none⟩ (.int .i64 (N - 1 : Nat))).setCell ⟨X, 1, none⟩ (ptU none)) X bits A (updU c [] 0) th id (N - 1) := by
  have hlv := lvU_drop (A := A) (c := c) (r := [])
  refine ⟨?_, ?_, h.inj, h.ne, ?_, num_dropU _ hc h.num⟩
  · have hq : (w.setCell ⟨b, 2, none⟩ (.int .i64 (0 : Nat))).heap[X]? = some (.cells #[.int .i64 bits, ptU (lvU A c []), .int .i64 N] 128 (0, 0)) := by
      rw [setHU (h.ne _ _ hb).symm]; exact h.box
    have hq2 := blk_set hq 2 (.int .i64 (N - 1 : Nat))
    rw [blk_set hq2, hlv, if_pos rfl]
    rfl
  · intro r k hk
    have hkX := h.ne _ _ hk
    have hy : ∀ y, r ++ [y] ≠ [] := fun y => by simp
    rw [setHU hkX, setHU hkX]
    by_cases e2 : k = b
    · subst e2
      obtain rfl := h.inj _ _ k hk hb
      rw [blk_set (h.node _ k hk)]
      unfold ndU
      rw [hlv, hlv, if_neg (hy _), if_neg (hy _), updU_same]
      rfl
    · rw [setHU e2, h.node r k hk]
      unfold ndU
      rw [hlv, hlv, if_neg (hy _), if_neg (hy _), updU_other _ _ (fun e => e2 (by subst e; rw [hb] at hk; injection hk with hk; exact hk.symm))]
  · intro r hr
    by_cases e : r = []
    · exact ⟨b, e ▸ hb⟩
    · rw [updU_other _ _ e] at hr; exact h.has r hr
/-- the mark of a node, and its number -/
theorem TrieM.mark {w : World} {X bits N : Nat} {A : Pth → Option Nat} {c : Pth → Nat} {th : Pth → Bool} {id : Pth → Int} (h : TrieM w X bits A c th id N) (q : Pth) {b : Nat} (hb : A q = some b) (t : Bool) : TrieM (w.setCell ⟨b, 3, none⟩ (.bool t)) X bits A c (updU th q t) id N := by
  refine ⟨?_, fun r k hk => ?_, h.inj, h.ne, h.has, h.num⟩
  · rw [setHU (h.ne _ _ hb).symm]; exact h.box
  · by_cases e : k = b
    · subst e
      obtain rfl := h.inj _ _ k hk hb
      rw [blk_set (h.node _ k hk)]
      unfold ndU
      rw [updU_same]
      rfl
    · rw [setHU e, h.node r k hk]
      unfold ndU
      rw [updU_other _ _ (fun e2 => e (by subst e2; rw [hb] at hk; injection hk with hk; exact hk.symm))]
theorem TrieM.name {w : World} {X bits N : Nat} {A : Pth → Option Nat} {c : Pth → Nat} {th : Pth → Bool} {id : Pth → Int} (h : TrieM w X bits A c th id N) (q : Pth) {b : Nat} (hb : A q = some b) (t : Int) : TrieM (w.setCell ⟨b, 4, none⟩ (.int .i64 t)) X bits A c th (updU id q t) N := by
  refine ⟨?_, fun r k hk => ?_, h.inj, h.ne, h.has, h.num⟩
  · rw [setHU (h.ne _ _ hb).symm]; exact h.box
  · by_cases e : k = b
    · subst e
      obtain rfl := h.inj _ _ k hk hb
      rw [blk_set (h.node _ k hk)]
      unfold ndU
      rw [updU_same]
      rfl
    · rw [setHU e, h.node r k hk]
      unfold ndU
      rw [updU_other _ _ (fun e2 => e (by subst e2; rw [hb] at hk; injection hk with hk; exact hk.symm))]
end Go.Proofs.Ytmlocfojmncghaa
