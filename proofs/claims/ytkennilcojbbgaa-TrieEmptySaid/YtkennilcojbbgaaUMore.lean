/- Layer 12: oneMore and oneLess at a node of the trie; what else stays. -/
import Derived.Test.YtkennilcojbbgaaUFind
namespace Go.Proofs.Ytkennilcojbbgaa
open Go.RowKit
/-- nothing but what lies in F has changed -/
structure FrU (F : Nat → Prop) (w w' : World) : Prop where
  os : w'.os = w.os
  tape : w'.tape = w.tape
  output : w'.output = w.output
  size : w.heap.size ≤ w'.heap.size
  block : ∀ j, j < w.heap.size → ¬ F j → w'.heap[j]? = w.heap[j]?
theorem FrU.refl (F : Nat → Prop) (w : World) : FrU F w w := ⟨rfl, rfl, rfl, Nat.le_refl _, fun _ _ _ => rfl⟩
theorem FrU.trans {F F' : Nat → Prop} {a b c : World} (h : FrU F a b) (k : FrU F' b c) (hf : ∀ j, F' j → F j ∨ a.heap.size ≤ j) : FrU F a c :=
  ⟨k.os.trans h.os, k.tape.trans h.tape, k.output.trans h.output, Nat.le_trans h.size k.size, fun j hj hn => (k.block j (Nat.lt_of_lt_of_le hj h.size) (fun e => by rcases hf j e with e | e; exact hn e; omega)).trans (h.block j hj hn)⟩
theorem FrU.of_below {F : Nat → Prop} {w w' : World} (h : Below w.heap.size w w') : FrU F w w' := ⟨h.os, h.tape, h.output, h.size, fun j hj _ => h.block j hj⟩
theorem FrU.below {F : Nat → Prop} {B : Nat} {w w' : World} (h : FrU F w w') (hB : B ≤ w.heap.size) (hF : ∀ j, F j → B ≤ j) : Below B w w' :=
  ⟨h.os, h.tape, h.output, h.size, fun j hj => h.block j (by omega) (fun e => by have := hF j e; omega)⟩
theorem FrU.set {F : Nat → Prop} {w w' : World} (h : FrU F w w') {k : Nat} (hk : F k ∨ w.heap.size ≤ k) (j : Nat) (v : Value) : FrU F w (w'.setCell ⟨k, j, none⟩ v) :=
  ⟨h.os, h.tape, h.output, by simp; exact h.size, fun i hi hn => (setHU (fun e => by subst e; rcases hk with hk | hk; exact hn hk; omega)).trans (h.block i hi hn)⟩
theorem FrU.mono {F F' : Nat → Prop} {w w' : World} (h : FrU F w w') (hf : ∀ j, F j → F' j) : FrU F' w w' := ⟨h.os, h.tape, h.output, h.size, fun j hj hn => h.block j hj fun e => hn (hf j e)⟩
theorem FrU.drew {F : Nat → Prop} {w w' : World} (h : FrU F w w') : FrU F w w'.drew := ⟨h.os, h.tape, h.output, h.size, h.block⟩
theorem FrU.putU {F : Nat → Prop} {w w' : World} (h : FrU F w w') (D : Nat) (o : Obj) (hD : w.heap.size ≤ D) : FrU F w (w'.putObj D o) :=
  ⟨h.os, h.tape, h.output, by simp; exact h.size, fun j hj hn => (World.putObj_heap_other (by omega)).trans (h.block j hj hn)⟩
/-- where everything that could change is cells, whatever is no cells stays -/
theorem FrU.others {F : Nat → Prop} {w w' : World} (h : FrU F w w') (hF : ∀ j o, F j → w.heap[j]? = some o → o.isCells = true) : KeepsOthers w w' :=
  ⟨h.size, fun k o hk ho => (h.block k (heap_ltU hk) (fun e => by have := hF k o e hk; rw [ho] at this; cases this)).trans hk⟩
theorem TrieM.notA {w : World} {X bits N : Nat} {A : Pth → Option Nat} {c : Pth → Nat} {th : Pth → Bool} {id : Pth → Int} (h : TrieM w X bits A c th id N) {j : Nat} {cs : Array Value} {T : TypeId} {fr : Nat × Nat} (hj : w.heap[j]? = some (.cells cs T fr)) (hs : cs.size ≤ 2) : j ≠ X ∧ ∀ p, A p ≠ some j := by
  constructor
  · rintro rfl
    rw [h.box] at hj
    injection hj with hj
    injection hj with hj
    subst hj
    simp at hs
  · intro p hp
    rw [h.node p j hp] at hj
    injection hj with hj
    injection hj with hj
    subst hj
    simp [ndU] at hs
/-- the blocks of a trie -/
def FtU (X : Nat) (A : Pth → Option Nat) (j : Nat) : Prop := j = X ∨ ∃ p, A p = some j
theorem TrieM.cells {w : World} {X bits N : Nat} {A : Pth → Option Nat} {c : Pth → Nat} {th : Pth → Bool} {id : Pth → Int} (h : TrieM w X bits A c th id N) (j : Nat) (o : Obj) (hj : FtU X A j) (ho : w.heap[j]? = some o) : o.isCells = true := by
  rcases hj with rfl | ⟨p, hp⟩
  · rw [h.box] at ho; injection ho with ho; subst ho; rfl
  · rw [h.node p j hp] at ho; injection ho with ho; subst ho; rfl
/-- what oneMore leaves, ahead of the store of its answer into the block P (cell i) -/
structure MoreU (w w' : World) (X bits : Nat) (A : Pth → Option Nat) (c : Pth → Nat) (th : Pth → Bool) (id : Pth → Int) (N P i : Nat) (q : Pth) (b : Nat) : Prop where
  ex : ∃ A' id' N', TrieM (w'.setCell ⟨P, i, none⟩ (.pointer (some ⟨b, 0, none⟩))) X bits A' (updU c q (c q + 1)) th id' N' ∧ A' q = some b ∧ N' ≤ N + 1 ∧ (∀ p b', A' p = some b' → A p = some b' ∨ w.heap.size ≤ b') ∧ (∀ p, th p = true → id' p = id p) ∧ (∀ p, p ≠ q → A' p = A p)
  fr : FrU (FtU X A) w w'
  at_ : ∃ cs T v, w'.heap[P]? = some (.cells cs T (0, 0)) ∧ cs[i]? = some v
theorem newU_fr (w : World) (X N : Nat) (A : Pth → Option Nat) : FrU (FtU X A) w (newU w X N) :=
  ⟨rfl, rfl, rfl, by rw [newU_size]; omega, fun j hj hn => newU_old hj (fun e => hn (.inl e))⟩
theorem ix_ndU (A : Pth → Option Nat) (c : Pth → Nat) (th : Pth → Bool) (id : Pth → Int) (p : Pth) (x : Bool) : ∃ v, (ndU A c th id p)[ixU x]? = some v := by
  cases x
  · exact ⟨_, rfl⟩
  · exact ⟨_, rfl⟩
theorem ut_moreAt {w : World} {X bits N : Nat} {A : Pth → Option Nat} {c : Pth → Nat} {th : Pth → Bool} {id : Pth → Int} (h : TrieM w X bits A c th id N) (p : Pth) (x : Bool) {bp : Nat} (hp : A p = some bp) (hth : c (p ++ [x]) = 0 → th (p ++ [x]) = false) (hk : c (p ++ [x]) = 0 → ∀ y, c (p ++ [x] ++ [y]) = 0) (hcb : c (p ++ [x]) < 1000000000) (hN : N < 1000000000) :
    Calls Try.prog 66 #[.pointer (some ⟨X, 0, none⟩), ptU (lvU A c (p ++ [x]))] w fun e w' => ∃ b, e = .returned (.pointer (some ⟨b, 0, none⟩)) ∧ MoreU w w' X bits A c th id N bp (ixU x) (p ++ [x]) b := by
  obtain ⟨v, hv⟩ := ix_ndU A c th id p x
  by_cases hc : 0 < c (p ++ [x])
  · obtain ⟨b, hl, hb⟩ := h.lv hc
    rw [hl]
    refine (ut_more (h.node _ _ hb) rfl hcb).mono ?_
    rintro e w' ⟨rfl, rfl⟩
    have hne : bp ≠ b := fun e => snoc_neU p x (h.inj _ _ b hb (e ▸ hp))
    refine ⟨b, rfl, ⟨A, id, N, h.bump p x hp hb hc _ (by omega), hb, by omega, fun _ _ h => .inl h, fun _ _ => rfl, fun _ _ => rfl⟩, (FrU.refl _ _).set (.inl (.inr ⟨_, hb⟩)) _ _, _, _, v, by rw [setHU hne]; exact h.node p bp hp, hv⟩
  · have hl : lvU A c (p ++ [x]) = none := if_neg hc
    have h0 : c (p ++ [x]) = 0 := by omega
    rw [hl]
    refine (ut_moreNew h.box hN).mono ?_
    rintro e w' ⟨rfl, rfl⟩
    refine ⟨_, rfl, ⟨_, _, _, by rw [h0]; exact h.grow p x hp h0 (hth h0) (hk h0), updU_same _ _ _, Nat.le_refl _, fun r b' hr => ?_, fun r hr => ?_, fun r hr => updU_other _ _ hr⟩, newU_fr _ _ _ _, _, _, v, (newU_old (h.ltA hp) (h.ne _ _ hp)).trans (h.node p bp hp), hv⟩
    · by_cases e : r = p ++ [x]
      · subst e
        rw [updU_same] at hr; injection hr with hr
        exact .inr (by omega)
      · rw [updU_other _ _ e] at hr; exact .inl hr
    · by_cases e : r = p ++ [x]
      · subst e
        rw [hth h0] at hr; cases hr
      · rw [updU_other _ _ e]
theorem ut_moreRoot {w : World} {X bits N : Nat} {A : Pth → Option Nat} {c : Pth → Nat} {th : Pth → Bool} {id : Pth → Int} (h : TrieM w X bits A c th id N) (hth : c [] = 0 → th [] = false) (hk : c [] = 0 → ∀ y, c ([] ++ [y]) = 0) (hcb : c [] < 1000000000) (hN : N < 1000000000) :
    Calls Try.prog 66 #[.pointer (some ⟨X, 0, none⟩), ptU (lvU A c [])] w fun e w' => ∃ b, e = .returned (.pointer (some ⟨b, 0, none⟩)) ∧ MoreU w w' X bits A c th id N X 1 [] b := by
  by_cases hc : 0 < c []
  · obtain ⟨b, hl, hb⟩ := h.lv hc
    have hx := h.box
    rw [hl] at hx ⊢
    refine (ut_more (h.node _ _ hb) rfl hcb).mono ?_
    rintro e w' ⟨rfl, rfl⟩
    refine ⟨b, rfl, ⟨A, id, N, h.bump0 hb hc _ (by omega), hb, by omega, fun _ _ h => .inl h, fun _ _ => rfl, fun _ _ => rfl⟩, (FrU.refl _ _).set (.inl (.inr ⟨_, hb⟩)) _ _, _, _, _, by rw [setHU (h.ne _ _ hb).symm]; exact hx, rfl⟩
  · have hl : lvU A c [] = none := if_neg hc
    have h0 : c [] = 0 := by omega
    have hx := h.box
    rw [hl] at hx ⊢
    refine (ut_moreNew hx hN).mono ?_
    rintro e w' ⟨rfl, rfl⟩
    refine ⟨_, rfl, ⟨_, _, _, by rw [h0]; exact h.grow0 h0 (hth h0) (hk h0), updU_same _ _ _, Nat.le_refl _, fun r b' hr => ?_, fun r hr => ?_, fun r hr => updU_other _ _ hr⟩, newU_fr _ _ _ _, _, _, _, newU_box hx, rfl⟩
    · by_cases e : r = []
      · subst e
        rw [updU_same] at hr; injection hr with hr
        exact .inr (by omega)
      · rw [updU_other _ _ e] at hr; exact .inl hr
    · by_cases e : r = []
      · subst e
        rw [hth h0] at hr; cases hr
      · rw [updU_other _ _ e]
/-- what oneLess leaves, ahead of the store of its answer -/
structure LessU (w w' : World) (X bits : Nat) (A : Pth → Option Nat) (c : Pth → Nat) (th : Pth → Bool) (id : Pth → Int) (P i : Nat) (q : Pth) (u : Value) : Prop where
  ex : ∃ N', TrieM (w'.setCell ⟨P, i, none⟩ u) X bits A (updU c q (c q - 1)) th id N'
  fr : FrU (FtU X A) w w'
  at_ : ∃ cs T v, w'.heap[P]? = some (.cells cs T (0, 0)) ∧ cs[i]? = some v
theorem ut_lessAt {w : World} {X bits N : Nat} {A : Pth → Option Nat} {c : Pth → Nat} {th : Pth → Bool} {id : Pth → Int} (h : TrieM w X bits A c th id N) (p : Pth) (x : Bool) {bp b : Nat} (hp : A p = some bp) (hb : A (p ++ [x]) = some b) (hc : 0 < c (p ++ [x])) (hcb : c (p ++ [x]) < 1000000000) (hN : N < 1000000000) :
    Calls Try.prog 70 #[.pointer (some ⟨X, 0, none⟩), .pointer (some ⟨b, 0, none⟩)] w fun e w' => ∃ o : Option Addr, e = .returned (.pointer o) ∧ LessU w w' X bits A c th id bp (ixU x) (p ++ [x]) (.pointer o) := by
  obtain ⟨v, hv⟩ := ix_ndU A c th id p x
  have hne : bp ≠ b := fun e => snoc_neU p x (h.inj _ _ b hb (e ▸ hp))
  obtain ⟨k, hk⟩ : ∃ k, c (p ++ [x]) = k + 1 := ⟨c (p ++ [x]) - 1, by omega⟩
  have hnode := h.node _ _ hb
  by_cases hk0 : 0 < k
  · refine (ut_less (n := k) hnode (by rw [← hk]; rfl) hk0 (by omega)).mono ?_
    rintro e w' ⟨rfl, rfl⟩
    exact ⟨_, rfl, ⟨N, by rw [hk, Nat.add_sub_cancel]; exact h.bump p x hp hb hc k hk0⟩, (FrU.refl _ _).set (.inl (.inr ⟨_, hb⟩)) _ _, _, _, v, by rw [setHU hne]; exact h.node p bp hp, hv⟩
  · obtain rfl : k = 0 := by omega
    obtain ⟨Ns, n1, n2, n3⟩ := h.num
    have hNp : 0 < N := by rw [n3]; exact List.length_pos_of_mem ((n2 _).2 hc)
    have hn1 : (ndU A c th id (p ++ [x]))[2]? = some (.int .i64 1) := by show some (Value.int .i64 (c (p ++ [x]) : Nat)) = _; rw [hk]; rfl
    refine (ut_less0 hnode hn1 h.box (h.ne _ _ hb).symm hN hNp).mono ?_
    rintro e w' ⟨rfl, rfl⟩
    exact ⟨none, rfl, ⟨N - 1, by rw [hk, Nat.add_sub_cancel]; exact h.drop p x hp hb hc⟩, ((FrU.refl _ _).set (.inl (.inr ⟨_, hb⟩)) _ _).set (.inl (.inl rfl)) _ _, _, _, v, by rw [setHU (h.ne _ _ hp), setHU hne]; exact h.node p bp hp, hv⟩
theorem ut_lessRoot {w : World} {X bits N : Nat} {A : Pth → Option Nat} {c : Pth → Nat} {th : Pth → Bool} {id : Pth → Int} (h : TrieM w X bits A c th id N) {b : Nat} (hb : A [] = some b) (hc : 0 < c []) (hcb : c [] < 1000000000) (hN : N < 1000000000) :
    Calls Try.prog 70 #[.pointer (some ⟨X, 0, none⟩), .pointer (some ⟨b, 0, none⟩)] w fun e w' => ∃ o : Option Addr, e = .returned (.pointer o) ∧ LessU w w' X bits A c th id X 1 [] (.pointer o) := by
  obtain ⟨k, hk⟩ : ∃ k, c [] = k + 1 := ⟨c [] - 1, by omega⟩
  have hnode := h.node _ _ hb
  by_cases hk0 : 0 < k
  · refine (ut_less (n := k) hnode (by rw [← hk]; rfl) hk0 (by omega)).mono ?_
    rintro e w' ⟨rfl, rfl⟩
    exact ⟨_, rfl, ⟨N, by rw [hk, Nat.add_sub_cancel]; exact h.bump0 hb hc k hk0⟩, (FrU.refl _ _).set (.inl (.inr ⟨_, hb⟩)) _ _, _, _, _, by rw [setHU (h.ne _ _ hb).symm]; exact h.box, rfl⟩
  · obtain rfl : k = 0 := by omega
    obtain ⟨Ns, n1, n2, n3⟩ := h.num
    have hNp : 0 < N := by rw [n3]; exact List.length_pos_of_mem ((n2 _).2 hc)
    have hn1 : (ndU A c th id [])[2]? = some (.int .i64 1) := by show some (Value.int .i64 (c [] : Nat)) = _; rw [hk]; rfl
    refine (ut_less0 hnode hn1 h.box (h.ne _ _ hb).symm hN hNp).mono ?_
    rintro e w' ⟨rfl, rfl⟩
    have hq : (w.setCell ⟨b, 2, none⟩ (.int .i64 (0 : Nat))).heap[X]? = some (.cells #[.int .i64 bits, ptU (lvU A c []), .int .i64 N] 131 (0, 0)) := by
      rw [setHU (h.ne _ _ hb).symm]; exact h.box
    exact ⟨none, rfl, ⟨N - 1, by rw [hk, Nat.add_sub_cancel]; exact h.drop0 hb hc⟩, ((FrU.refl _ _).set (.inl (.inr ⟨_, hb⟩)) _ _).set (.inl (.inl rfl)) _ _, _, _, _, blk_set hq 2 _, rfl⟩
end Go.Proofs.Ytkennilcojbbgaa
