/- Contracts, joined: EBndM, EBnd. -/
import Derived.Test.YtodmkmoglchoeaaDoorEHold
import Derived.Test.YtodmkmoglchoeaaDoorTBeg
import Derived.Test.YtodmkmoglchoeaaDoorNBegun
import Derived.Test.YtodmkmoglchoeaaDoorJYProg
namespace Go.Proofs.YtodmkmoglchoeaaDoor
/- Layer 9's laws, 'bound': regions that draw their order and append to two rows, by an invariant over their slots. -/
section
open Go.RowKit

def setS (a : Act) : List Nat → (Nat → Value) → Act
  | [], _ => a
  | s :: r, v => setS { a with tmps := a.tmps.setIfInBounds s (v s) } r v
section
variable {P : Program} {ops : Array Oper} {Q : Exit → Act → World → Prop} {md : Region.Mode} {a0 : Act} {slots : List Nat}
theorem wpAny_S (J : Array Bool → World → (Nat → Value) → Prop)
    (hstep : ∀ listed w v i, J listed w v → i ∈ Region.ready md ops listed → wpOp P ops Q i (fun a' w' => ∃ v', a' = setS a0 slots v' ∧ J (listed.setIfInBounds i true) w' v') (setS a0 slots v) w)
    (hend : ∀ listed w v, J listed w v → Region.ready md ops listed = [] → Q .normal (setS a0 slots v) w) :
    ∀ (fuel : Nat) (listed : Array Bool) (v : Nat → Value) (w : World), leftN ops listed ≤ fuel → J listed w v → wpAny P md ops Q fuel listed (setS a0 slots v) w
  | 0, listed, v, w, hf, hI => by
    have hr : Region.ready md ops listed = [] := by
      cases e : Region.ready md ops listed with
      | nil => rfl
      | cons i rs =>
        obtain ⟨h1, h2⟩ := ready_subN (md := md) (ops := ops) (listed := listed) (i := i) (by rw [e]; exact List.mem_cons_self ..)
        have := leftN_set h1 h2
        omega
    exact ⟨hr, hend listed w v hI hr⟩
  | fuel + 1, listed, v, w, hf, hI => by
    refine ⟨fun hr => hend listed w v hI hr, fun i hi => ?_⟩
    obtain ⟨h1, h2⟩ := ready_subN hi
    have hlt := leftN_set h1 h2
    refine wpOp_mono (fun a' w' h' => ?_) (hstep listed w v i hI hi)
    obtain ⟨v', rfl, hJ⟩ := h'
    exact wpAny_S J hstep hend fuel _ v' w' (by omega) hJ
theorem wp_region_S {id : Nat} {W : World} (slots : List Nat) (J : Array Bool → World → (Nat → Value) → Prop) (hm : P.follows .mixedOrders = true)
    (ha : a0 = setS a0 slots (fun i => a0.tmps[i]?.getD undef))
    (h0 : J (Array.replicate ops.size false) W.drew (fun i => a0.tmps[i]?.getD undef))
    (hstep : ∀ listed w v i, J listed w v → i ∈ Region.ready .any ops listed → wpOp P ops Q i (fun a' w' => ∃ v', a' = setS a0 slots v' ∧ J (listed.setIfInBounds i true) w' v') (setS a0 slots v) w)
    (hend : ∀ listed w v, J listed w v → Region.ready .any ops listed = [] → Q .normal (setS a0 slots v) w) : (Code.region id ops true).wp P Q a0 W := by
  refine wp_region_any hm ?_
  have h := wpAny_S (a0 := a0) (slots := slots) J hstep hend ops.size (Array.replicate ops.size false) _ W.drew (Nat.le_trans (List.length_filter_le _ _) (by simp)) h0
  rw [← ha] at h
  exact h
end
/-- what is known while operations come up: two of them, p and q, append to a row each; those from M on come behind both -/
structure JR (N M p q : Nat) (s1 s2 : Nat) (R1 R2 : Value) (slot : Nat → Nat) (G : Nat → World → Value → Prop) (I Ra Rb : World → Prop) (listed : Array Bool) (w : World) (v : Nat → Value) : Prop where
  size : listed.size = N
  inv : I w
  f : ∀ i, i < N → listed.getD i false = true → G i w (v (slot i))
  a : listed.getD p false = false → Ra w
  b : listed.getD q false = false → Rb w
  d : ∀ i, M ≤ i → listed.getD i false = true → listed.getD p false = true ∧ (M < i → listed.getD q false = true)
  e1 : listed.getD s1 false = false → v (slot M) = R1
  e2 : listed.getD s2 false = false → v (slot (M + 1)) = R2
theorem JR.step {N M p q s1 s2 : Nat} {R1 R2 : Value} {slot : Nat → Nat} {G : Nat → World → Value → Prop} {I Ra Rb : World → Prop} {listed : Array Bool} {w w' : World} {v : Nat → Value} (h : JR N M p q s1 s2 R1 R2 slot G I Ra Rb listed w v) {i : Nat} (hi : i < N) (hs : ∀ j, j < N → j ≠ i → slot j ≠ slot i) (hI : I w → I w')
    (hG : ∀ j x, j ≠ i → (M ≤ j → listed.getD p false = true ∧ (M < j → listed.getD q false = true)) → G j w x → G j w' x) (hA : i ≠ p → Ra w → Ra w') (hB : i ≠ q → Rb w → Rb w') (hd : M ≤ i → listed.getD p false = true ∧ (M < i → listed.getD q false = true)) (hM : M + 1 < N) (h1 : i = M → listed.getD s1 false = true) (h2 : i = M + 1 → listed.getD s2 false = true) {x : Value} (hx : G i w' x) :
    JR N M p q s1 s2 R1 R2 slot G I Ra Rb (listed.setIfInBounds i true) w' (updv v (slot i) x) := by
  have hz : i < listed.size := by rw [h.size]; exact hi
  have mono : ∀ k, listed.getD k false = true → (listed.setIfInBounds i true).getD k false = true := fun k hk => by
    rw [getD_setN hz]
    split
    · rfl
    · exact hk
  refine ⟨by rw [Array.size_setIfInBounds]; exact h.size, hI h.inv, fun j hj hlj => ?_, fun hp => ?_, fun hq => ?_, fun j hj hlj => ?_, fun hh => ?_, fun hh => ?_⟩
  · rw [getD_setN hz] at hlj
    by_cases e : j = i
    · subst e
      rw [updv, if_pos rfl]; exact hx
    · rw [if_neg (Ne.symm e)] at hlj
      rw [updv, if_neg (hs j hj e)]
      exact hG j _ e (fun hM => h.d j hM hlj) (h.f j hj hlj)
  · rw [getD_setN hz] at hp
    split at hp
    · cases hp
    · rename_i e; exact hA e (h.a hp)
  · rw [getD_setN hz] at hq
    split at hq
    · cases hq
    · rename_i e; exact hB e (h.b hq)
  · rw [getD_setN hz] at hlj
    by_cases e : i = j
    · obtain ⟨k1, k2⟩ := hd (by omega)
      exact ⟨mono _ k1, fun hh => mono _ (k2 (by omega))⟩
    · rw [if_neg e] at hlj
      obtain ⟨k1, k2⟩ := h.d j hj hlj
      exact ⟨mono _ k1, fun hh => mono _ (k2 hh)⟩
  · have hf : listed.getD s1 false = false := by
      cases hl : listed.getD s1 false
      · rfl
      · rw [mono _ hl] at hh; cases hh
    have hne : i ≠ M := fun e => by rw [h1 e] at hf; cases hf
    rw [updv, if_neg (hs M (by omega) (Ne.symm hne))]
    exact h.e1 hf
  · have hf : listed.getD s2 false = false := by
      cases hl : listed.getD s2 false
      · rfl
      · rw [mono _ hl] at hh; cases hh
    have hne : i ≠ M + 1 := fun e => by rw [h2 e] at hf; cases hf
    rw [updv, if_neg (hs (M + 1) hM (Ne.symm hne))]
    exact h.e2 hf
theorem own_otherB {w w' : World} {B B' e e' sz sz' n n' : Nat} {v v' : Value} {l l' : List Value} (h : w.ownsRow B e sz v n l) (k : w.ownsRow B' e' sz' v' n' l') (hne : e ≠ e') (hg : w.grownBy w' v'.ownBlock) : w'.ownsRow B e sz v n l := by
  refine h.kept hg ?_
  cases hv : v.ownBlock with
  | none => exact .inl rfl
  | some g =>
    refine .inr fun e2 => ?_
    obtain ⟨c, fz, h1⟩ := own_kindY h g hv
    obtain ⟨c', fz', h2⟩ := own_kindY k g e2.symm
    rw [h1] at h2
    injection h2 with h2
    injection h2 with _ h2 _
    exact hne h2
/-- a literal's block, made within the region -/
def TmpB (S : Nat) (T : TypeId) (cs : List Value) (w : World) (y : Value) : Prop := ∃ k, y = .slice (some ⟨k, 0, none⟩) 1 1 ∧ S ≤ k ∧ w.heap[k]? = some (.cells cs.toArray T (0, 0))
theorem TmpB.alloc {S : Nat} {T : TypeId} {cs : List Value} {w : World} {y : Value} (h : TmpB S T cs w y) (o : Obj) : TmpB S T cs (w.alloc o) y := by
  obtain ⟨k, h1, h2, h3⟩ := h
  exact ⟨k, h1, h2, (((Below.refl w.heap.size w).alloc (Nat.le_refl _) o).block k (Array.getElem?_eq_some_iff.1 h3).1).trans h3⟩
theorem TmpB.new {S : Nat} (T : TypeId) (cs : List Value) (w : World) (hS : S ≤ w.heap.size) : TmpB S T cs (w.alloc (.cells cs.toArray T)) (.slice (some ⟨w.heap.size, 0, none⟩) 1 1) := ⟨_, rfl, hS, heap_alloc_new _ _⟩
theorem TmpB.grown {S : Nat} {T : TypeId} {cs : List Value} {w w' : World} {y : Value} (h : TmpB S T cs w y) {row : Option Nat} (hg : w.grownBy w' row) (hr : ∀ g, row = some g → g < S) : TmpB S T cs w' y := by
  obtain ⟨k, h1, h2, h3⟩ := h
  exact ⟨k, h1, h2, (hg.block k (Array.getElem?_eq_some_iff.1 h3).1 (fun e => by have := hr k e.symm; omega)).trans h3⟩
/-- what lies beside the two rows -/
structure IRw (B S : Nat) (w0 : World) (bx mx : Nat) (x : ByteArray × ByteArray) (h l : Int) (Tc Td : TypeId) (zc zd : Nat) (rc rd : Value) (nc : Nat) (cc cd : List Value) (w : World) : Prop where
  below : Below B w0 w
  sz : S ≤ w.heap.size
  box : w.heap[bx]? = some (.cells #[.string x.1, .string x.2] 69 (0, 0))
  val : w.heap[mx]? = some (.cells #[.int .u64 h, .int .u64 l] 102 (0, 0))
  oc : w.ownsRow B Tc zc rc nc cc
  od : w.ownsRow B Td zd rd nc cd
theorem IRw.alloc {B S : Nat} {w0 : World} {bx mx : Nat} {x : ByteArray × ByteArray} {h l : Int} {Tc Td : TypeId} {zc zd : Nat} {rc rd : Value} {nc : Nat} {cc cd : List Value} {w : World} (k : IRw B S w0 bx mx x h l Tc Td zc zd rc rd nc cc cd w) (hB : B ≤ S) (o : Obj) : IRw B S w0 bx mx x h l Tc Td zc zd rc rd nc cc cd (w.alloc o) := by
  have hb := (Below.refl w.heap.size w).alloc (Nat.le_refl _) o
  exact ⟨k.below.alloc (Nat.le_trans hB k.sz) o, by have := k.sz; simp; omega, (hb.block _ (Array.getElem?_eq_some_iff.1 k.box).1).trans k.box, (hb.block _ (Array.getElem?_eq_some_iff.1 k.val).1).trans k.val, k.oc.alloc o, k.od.alloc o⟩
theorem IRw.grown {B S : Nat} {w0 : World} {bx mx : Nat} {x : ByteArray × ByteArray} {h l : Int} {Tc Td : TypeId} {zc zd : Nat} {rc rd : Value} {nc : Nat} {cc cd : List Value} {w w' : World} (k : IRw B S w0 bx mx x h l Tc Td zc zd rc rd nc cc cd w) (hB : B ≤ S) {Ta za na : Nat} {ra : Value} {ca : List Value} (ha : w.ownsRow B Ta za ra na ca) (h1 : Tc ≠ Ta) (h2 : Td ≠ Ta) (hbx : ra.ownBlock ≠ some bx) (hmx : ra.ownBlock ≠ some mx) (hg : w.grownBy w' ra.ownBlock) : IRw B S w0 bx mx x h l Tc Td zc zd rc rd nc cc cd w' :=
  ⟨k.below.grown hg (Nat.le_trans hB k.sz) (fun _ e => own_block_ge ha e), Nat.le_trans k.sz hg.size, (hg.block _ (Array.getElem?_eq_some_iff.1 k.box).1 (fun e => hbx e.symm)).trans k.box, (hg.block _ (Array.getElem?_eq_some_iff.1 k.val).1 (fun e => hmx e.symm)).trans k.val, own_otherB k.oc ha h1 hg, own_otherB k.od ha h2 hg⟩
theorem cells2_of {w : World} {k : Nat} {u v : Value} {T : TypeId} (h : w.heap[k]? = some (.cells #[u, v] T (0, 0))) : w.cell? ⟨k, 0, none⟩ = some u ∧ w.cell? ⟨k, 1, none⟩ = some v := by
  constructor <;> simp [World.cell?, h]
def bcell (b : BindN) : List Value := [.string b.name, .string b.attr, .int .u64 (hi b.val), .int .u64 (lo b.val)]
theorem bcell_one (b : BindN) : ∀ u ∈ bcell b, u.oneCell' = true := by
  intro u hu
  simp only [bcell, List.mem_cons, List.not_mem_nil, or_false] at hu
  rcases hu with rfl | rfl | rfl | rfl <;> rfl
def G11 (B S : Nat) (r1 r2 : Value) (n : Nat) (c1 c2 : List Value) (x : ByteArray × ByteArray) (_b : BindN) (bx : Nat) (i : Nat) (w : World) (y : Value) : Prop :=
  match i with
  | 0 => y = r1
  | 1 => y = .agg #[.string x.1, .string x.2]
  | 2 => TmpB S 69 [.string x.1, .string x.2] w y
  | 3 => w.ownsRow B 69 2 y (n + 1) (c1 ++ vcell x)
  | 4 => y = r2
  | 5 => y = .pointer (some ⟨bx, 0, none⟩)
  | 6 => y = .string x.1
  | 7 => y = .pointer (some ⟨bx, 1, none⟩)
  | 8 => y = .string x.2
  | 9 => y = .agg #[.string x.1, .string x.2]
  | 10 => TmpB S 64 [.string x.1, .string x.2] w y
  | 11 => w.ownsRow B 64 2 y (n + 1) (c2 ++ vcell x)
  | 12 => w.ownsRow B 69 2 y (n + 1) (c1 ++ vcell x)
  | 13 => w.ownsRow B 64 2 y (n + 1) (c2 ++ vcell x)
  | _ => True
theorem G11.alloc {B S : Nat} {r1 r2 : Value} {n : Nat} {c1 c2 : List Value} {x : ByteArray × ByteArray} {b : BindN} {bx : Nat} {w : World} (u : Obj) : ∀ (j : Nat) (y : Value), G11 B S r1 r2 n c1 c2 x b bx j w y → G11 B S r1 r2 n c1 c2 x b bx j (w.alloc u) y := by
  intro j y h
  unfold G11 at h ⊢
  split at h
  · exact h
  · exact h
  · exact TmpB.alloc h u
  · exact World.ownsRow.alloc h u
  · exact h
  · exact h
  · exact h
  · exact h
  · exact h
  · exact h
  · exact TmpB.alloc h u
  · exact World.ownsRow.alloc h u
  · exact World.ownsRow.alloc h u
  · exact World.ownsRow.alloc h u
  · trivial
theorem G11.appA {B S : Nat} {r1 r2 : Value} {n : Nat} {c1 c2 : List Value} {x : ByteArray × ByteArray} {b : BindN} {bx : Nat} {w w' : World} {ca : List Value} (ha : w.ownsRow B 69 2 r1 n ca) (hS : ∀ g, r1.ownBlock = some g → g < S) (hg : w.grownBy w' r1.ownBlock) : ∀ (j : Nat) (y : Value), j ≠ 3 → j < 12 → G11 B S r1 r2 n c1 c2 x b bx j w y → G11 B S r1 r2 n c1 c2 x b bx j w' y := by
  intro j y hj hM h
  unfold G11 at h ⊢
  split at h
  · exact h
  · exact h
  · exact TmpB.grown h hg hS
  · exact absurd rfl hj
  · exact h
  · exact h
  · exact h
  · exact h
  · exact h
  · exact h
  · exact TmpB.grown h hg hS
  · exact own_otherB h ha (by decide) hg
  · omega
  · omega
  · trivial
theorem G11.appB {B S : Nat} {r1 r2 : Value} {n : Nat} {c1 c2 : List Value} {x : ByteArray × ByteArray} {b : BindN} {bx : Nat} {w w' : World} {ca : List Value} (ha : w.ownsRow B 64 2 r2 n ca) (hS : ∀ g, r2.ownBlock = some g → g < S) (hg : w.grownBy w' r2.ownBlock) : ∀ (j : Nat) (y : Value), j ≠ 11 → j < 13 → G11 B S r1 r2 n c1 c2 x b bx j w y → G11 B S r1 r2 n c1 c2 x b bx j w' y := by
  intro j y hj hM h
  unfold G11 at h ⊢
  split at h
  · exact h
  · exact h
  · exact TmpB.grown h hg hS
  · exact own_otherB h ha (by decide) hg
  · exact h
  · exact h
  · exact h
  · exact h
  · exact h
  · exact h
  · exact TmpB.grown h hg hS
  · exact absurd rfl hj
  · exact own_otherB h ha (by decide) hg
  · omega
  · trivial
def sl11 (i : Nat) : Nat := if i < 12 then 35 + i else i - 6
theorem sl11_ne : ∀ i j, i < 14 → j < 14 → j ≠ i → sl11 j ≠ sl11 i := by
  intro i j hi hj h
  unfold sl11
  split <;> split <;> omega
def sL11 : List Nat := [35, 36, 37, 38, 39, 40, 41, 42, 43, 44, 45, 46, 6, 7]
def G12 (B S : Nat) (r1 r2 : Value) (n : Nat) (c1 c2 : List Value) (x : ByteArray × ByteArray) (b : BindN) (bx : Nat) (i : Nat) (w : World) (y : Value) : Prop :=
  match i with
  | 0 => y = r1
  | 1 => y = .pointer (some ⟨bx, 0, none⟩)
  | 2 => y = .string x.1
  | 3 => y = .pointer (some ⟨bx, 1, none⟩)
  | 4 => y = .string x.2
  | 5 => y = .agg #[.int .u64 (hi b.val), .int .u64 (lo b.val)]
  | 6 => y = .agg #[.string x.1, .string x.2, .int .u64 (hi b.val), .int .u64 (lo b.val)]
  | 7 => TmpB S 130 [.string x.1, .string x.2, .int .u64 (hi b.val), .int .u64 (lo b.val)] w y
  | 8 => w.ownsRow B 130 4 y (n + 1) (c1 ++ bcell b)
  | 9 => y = r2
  | 10 => y = .pointer (some ⟨bx, 0, none⟩)
  | 11 => y = .string x.1
  | 12 => y = .pointer (some ⟨bx, 1, none⟩)
  | 13 => y = .string x.2
  | 14 => y = .agg #[.int .u64 (hi b.val), .int .u64 (lo b.val)]
  | 15 => y = .agg #[.string x.1, .string x.2, .int .u64 (hi b.val), .int .u64 (lo b.val)]
  | 16 => TmpB S 131 [.string x.1, .string x.2, .int .u64 (hi b.val), .int .u64 (lo b.val)] w y
  | 17 => w.ownsRow B 131 4 y (n + 1) (c2 ++ bcell b)
  | 18 => w.ownsRow B 130 4 y (n + 1) (c1 ++ bcell b)
  | 19 => w.ownsRow B 131 4 y (n + 1) (c2 ++ bcell b)
  | _ => True
theorem G12.alloc {B S : Nat} {r1 r2 : Value} {n : Nat} {c1 c2 : List Value} {x : ByteArray × ByteArray} {b : BindN} {bx : Nat} {w : World} (u : Obj) : ∀ (j : Nat) (y : Value), G12 B S r1 r2 n c1 c2 x b bx j w y → G12 B S r1 r2 n c1 c2 x b bx j (w.alloc u) y := by
  intro j y h
  unfold G12 at h ⊢
  split at h
  · exact h
  · exact h
  · exact h
  · exact h
  · exact h
  · exact h
  · exact h
  · exact TmpB.alloc h u
  · exact World.ownsRow.alloc h u
  · exact h
  · exact h
  · exact h
  · exact h
  · exact h
  · exact h
  · exact h
  · exact TmpB.alloc h u
  · exact World.ownsRow.alloc h u
  · exact World.ownsRow.alloc h u
  · exact World.ownsRow.alloc h u
  · trivial
theorem G12.appA {B S : Nat} {r1 r2 : Value} {n : Nat} {c1 c2 : List Value} {x : ByteArray × ByteArray} {b : BindN} {bx : Nat} {w w' : World} {ca : List Value} (ha : w.ownsRow B 130 4 r1 n ca) (hS : ∀ g, r1.ownBlock = some g → g < S) (hg : w.grownBy w' r1.ownBlock) : ∀ (j : Nat) (y : Value), j ≠ 8 → j < 18 → G12 B S r1 r2 n c1 c2 x b bx j w y → G12 B S r1 r2 n c1 c2 x b bx j w' y := by
  intro j y hj hM h
  unfold G12 at h ⊢
  split at h
  · exact h
  · exact h
  · exact h
  · exact h
  · exact h
  · exact h
  · exact h
  · exact TmpB.grown h hg hS
  · exact absurd rfl hj
  · exact h
  · exact h
  · exact h
  · exact h
  · exact h
  · exact h
  · exact h
  · exact TmpB.grown h hg hS
  · exact own_otherB h ha (by decide) hg
  · omega
  · omega
  · trivial
theorem G12.appB {B S : Nat} {r1 r2 : Value} {n : Nat} {c1 c2 : List Value} {x : ByteArray × ByteArray} {b : BindN} {bx : Nat} {w w' : World} {ca : List Value} (ha : w.ownsRow B 131 4 r2 n ca) (hS : ∀ g, r2.ownBlock = some g → g < S) (hg : w.grownBy w' r2.ownBlock) : ∀ (j : Nat) (y : Value), j ≠ 17 → j < 19 → G12 B S r1 r2 n c1 c2 x b bx j w y → G12 B S r1 r2 n c1 c2 x b bx j w' y := by
  intro j y hj hM h
  unfold G12 at h ⊢
  split at h
  · exact h
  · exact h
  · exact h
  · exact h
  · exact h
  · exact h
  · exact h
  · exact TmpB.grown h hg hS
  · exact own_otherB h ha (by decide) hg
  · exact h
  · exact h
  · exact h
  · exact h
  · exact h
  · exact h
  · exact h
  · exact TmpB.grown h hg hS
  · exact absurd rfl hj
  · exact own_otherB h ha (by decide) hg
  · omega
  · trivial
def sl12 (i : Nat) : Nat := if i < 18 then 47 + i else i - 10
theorem sl12_ne : ∀ i j, i < 20 → j < 20 → j ≠ i → sl12 j ≠ sl12 i := by
  intro i j hi hj h
  unfold sl12
  split <;> split <;> omega
def sL12 : List Nat := [47, 48, 49, 50, 51, 52, 53, 54, 55, 56, 57, 58, 59, 60, 61, 62, 63, 64, 8, 9]
end
/- Layer 9's laws, 'bound': its walk. -/
section
open Go.RowKit

set_option maxRecDepth 100000 in
theorem info_varRE : ∃ i, Tryd.prog.info? 64 = some i ∧ i.zero = some (.agg #[.string ⟨#[]⟩, .string ⟨#[]⟩]) ∧ i.size = 2 ∧ i.bytes = 32 := by
  have h : (Tryd.prog.info? 64).map (fun i => (i.zero, i.size, i.bytes)) = some (some (.agg #[.string ⟨#[]⟩, .string ⟨#[]⟩]), 2, 32) := by kernel_rfl
  cases hi : Tryd.prog.info? 64 with
  | none => rw [hi] at h; cases h
  | some i =>
    rw [hi] at h
    simp only [Option.map_some, Option.some.injEq, Prod.mk.injEq] at h
    exact ⟨i, rfl, h.1, h.2.1, h.2.2⟩
set_option maxRecDepth 100000 in
theorem info_bind : ∃ i, Tryd.prog.info? 130 = some i ∧ i.zero = some (.agg #[.string ⟨#[]⟩, .string ⟨#[]⟩, .int .u64 0, .int .u64 0]) ∧ i.size = 4 ∧ i.bytes = 48 := by
  have h : (Tryd.prog.info? 130).map (fun i => (i.zero, i.size, i.bytes)) = some (some (.agg #[.string ⟨#[]⟩, .string ⟨#[]⟩, .int .u64 0, .int .u64 0]), 4, 48) := by kernel_rfl
  cases hi : Tryd.prog.info? 130 with
  | none => rw [hi] at h; cases h
  | some i =>
    rw [hi] at h
    simp only [Option.map_some, Option.some.injEq, Prod.mk.injEq] at h
    exact ⟨i, rfl, h.1, h.2.1, h.2.2⟩
set_option maxRecDepth 100000 in
theorem info_bindR : ∃ i, Tryd.prog.info? 131 = some i ∧ i.zero = some (.agg #[.string ⟨#[]⟩, .string ⟨#[]⟩, .int .u64 0, .int .u64 0]) ∧ i.size = 4 ∧ i.bytes = 48 := by
  have h : (Tryd.prog.info? 131).map (fun i => (i.zero, i.size, i.bytes)) = some (some (.agg #[.string ⟨#[]⟩, .string ⟨#[]⟩, .int .u64 0, .int .u64 0]), 4, 48) := by kernel_rfl
  cases hi : Tryd.prog.info? 131 with
  | none => rw [hi] at h; cases h
  | some i =>
    rw [hi] at h
    simp only [Option.map_some, Option.some.injEq, Prod.mk.injEq] at h
    exact ⟨i, rfl, h.1, h.2.1, h.2.2⟩
def vars7 : List (ByteArray × ByteArray) := [(⟨#[97]⟩, ⟨#[]⟩), (⟨#[98]⟩, ⟨#[]⟩), (⟨#[100]⟩, sPrefix), (⟨#[101]⟩, sMask), (⟨#[102]⟩, sHigh), (sPrio, ⟨#[]⟩), (⟨#[120]⟩, ⟨#[]⟩)]
def lit14 : Array Value := #[.string ⟨#[97]⟩, .string ⟨#[]⟩, .string ⟨#[98]⟩, .string ⟨#[]⟩, .string ⟨#[100]⟩, .string sPrefix, .string ⟨#[101]⟩, .string sMask, .string ⟨#[102]⟩, .string sHigh, .string sPrio, .string ⟨#[]⟩, .string ⟨#[120]⟩, .string ⟨#[]⟩]
theorem vars7_sz : ∀ v ∈ vars7, v.1.size ≤ 13 ∧ v.2.size ≤ 13 := by
  intro v hv
  simp only [vars7, List.mem_cons, List.not_mem_nil, or_false] at hv
  rcases hv with rfl | rfl | rfl | rfl | rfl | rfl | rfl <;> exact ⟨by decide, by decide⟩
def var7 (i : Nat) : ByteArray × ByteArray := vars7.getD i (⟨#[]⟩, ⟨#[]⟩)
theorem var7_sz (i : Nat) : (var7 i).1.size ≤ maxLen ∧ (var7 i).2.size ≤ maxLen := by
  unfold var7
  rw [List.getD_eq_getElem?_getD]
  cases h : vars7[i]? with
  | none => exact ⟨Nat.zero_le _, Nat.zero_le _⟩
  | some v =>
    have := vars7_sz v (List.mem_of_getElem? h)
    unfold maxLen
    show v.1.size ≤ _ ∧ v.2.size ≤ _
    omega
theorem var7_at : ∀ k, k < 7 → vars7[k]? = some (var7 k) ∧ lit14[k * 2]? = some (.string (var7 k).1) ∧ lit14[k * 2 + 1]? = some (.string (var7 k).2) := by
  intro k hk
  have : k = 0 ∨ k = 1 ∨ k = 2 ∨ k = 3 ∨ k = 4 ∨ k = 5 ∨ k = 6 := by omega
  rcases this with rfl | rfl | rfl | rfl | rfl | rfl | rfl <;> exact ⟨rfl, rfl, rfl⟩
def bnd7 (g : Nat → Nat) (i : Nat) : BindN := ⟨(var7 i).1, (var7 i).2, g i % 340282366920938463463374607431768211456, (var7_sz i).1, (var7_sz i).2, Nat.mod_lt _ (by decide)⟩
def bnds (g : Nat → Nat) (k : Nat) : List BindN := (List.range k).map (bnd7 g)
theorem bnds_succ (g : Nat → Nat) (k : Nat) : bnds g (k + 1) = bnds g k ++ [bnd7 g k] := by simp [bnds, List.range_succ]
theorem bnds_len (g : Nat → Nat) (k : Nat) : (bnds g k).length = k := by simp [bnds]
def bcells (l : List BindN) : List Value := l.flatMap bcell
theorem bcells_snoc (l : List BindN) (b : BindN) : bcells (l ++ [b]) = bcells l ++ bcell b := by simp [bcells]
theorem bcells_len (l : List BindN) : (bcells l).length = l.length * 4 := by
  induction l with
  | nil => rfl
  | cons t r ih =>
    show (bcell t ++ bcells r).length = _
    rw [List.length_append, ih, List.length_cons]
    show 4 + _ = _
    omega
theorem bcells_at (l : List BindN) : ∀ (k j : Nat) (hk : k < l.length), j < 4 → (bcells l)[k * 4 + j]? = (bcell (l[k]'hk))[j]? := by
  induction l with
  | nil => intro k j hk; simp at hk
  | cons t r ih =>
    intro k j hk hj
    show (bcell t ++ bcells r)[k * 4 + j]? = _
    cases k with
    | zero =>
      rw [Nat.zero_mul, Nat.zero_add, List.getElem?_append_left (by show j < 4; exact hj)]
      rfl
    | succ k =>
      rw [List.getElem?_append_right (by show 4 ≤ _; omega)]
      have := ih k j (by simp at hk; omega) hj
      rw [show (k + 1) * 4 + j - (bcell t).length = k * 4 + j by show _ - 4 = _; omega, this]
      rfl
theorem biR_own {w : World} {B e : Nat} {A : Option Addr} {cap n : Nat} {l : List BindN} (h : w.ownsRow B e 4 (.slice A n cap) n (bcells l)) (hn : l.length = n) : BiR w A l := by
  by_cases h0 : l = []
  · exact ⟨.inl h0⟩
  · have hp : 0 < n := by rw [← hn]; exact List.length_pos_iff.2 h0
    obtain ⟨g, c, hv, hge, hl⟩ := h.form hp
    injection hv with e1 e2 e3
    subst e1
    refine ⟨.inr ⟨g, rfl, hl, fun k v hv => ?_⟩⟩
    obtain ⟨hk, rfl⟩ := List.getElem?_eq_some_iff.1 hv
    have h1 := bcells_at l k 0 hk (by decide)
    rw [Nat.add_zero] at h1
    exact ⟨by rw [h.cellAt (k * 4) (by omega), h1]; rfl, by rw [h.cellAt (k * 4 + 1) (by omega), bcells_at l k 1 hk (by decide)]; rfl, by rw [h.cellAt (k * 4 + 2) (by omega), bcells_at l k 2 hk (by decide)]; rfl, by rw [h.cellAt (k * 4 + 3) (by omega), bcells_at l k 3 hk (by decide)]; rfl⟩
/-- the four rows, of k each -/
structure BdR (W0 : World) (g : Nat → Nat) (k : Nat) (r1 r2 r3 r4 : Value) (w : World) : Prop where
  below : Below W0.heap.size W0 w
  o1 : w.ownsRow W0.heap.size 69 2 r1 k (vcells (vars7.take k))
  o2 : w.ownsRow W0.heap.size 64 2 r2 k (vcells (vars7.take k))
  o3 : w.ownsRow W0.heap.size 130 4 r3 k (bcells (bnds g k))
  o4 : w.ownsRow W0.heap.size 131 4 r4 k (bcells (bnds g k))
theorem vars7_snoc {k : Nat} (hk : k < 7) : vars7.take (k + 1) = vars7.take k ++ [var7 k] := by
  have h := (var7_at k hk).1
  obtain ⟨h1, h2⟩ := List.getElem?_eq_some_iff.1 h
  rw [List.take_succ_eq_append_getElem h1, h2]
theorem IRw.drew {B S : Nat} {w0 : World} {bx mx : Nat} {x : ByteArray × ByteArray} {h l : Int} {Tc Td : TypeId} {zc zd : Nat} {rc rd : Value} {nc : Nat} {cc cd : List Value} {w : World} (k : IRw B S w0 bx mx x h l Tc Td zc zd rc rd nc cc cd w) : IRw B S w0 bx mx x h l Tc Td zc zd rc rd nc cc cd w.drew := ⟨k.below.drew, k.sz, k.box, k.val, k.oc.drew, k.od.drew⟩
theorem JR.begun {N M p q s1 s2 : Nat} {R1 R2 : Value} {slot : Nat → Nat} {G : Nat → World → Value → Prop} {I Ra Rb : World → Prop} {w : World} {v : Nat → Value} (hI : I w) (hA : Ra w) (hB : Rb w) (h1 : v (slot M) = R1) (h2 : v (slot (M + 1)) = R2) : JR N M p q s1 s2 R1 R2 slot G I Ra Rb (Array.replicate N false) w v := by
  have h : ∀ i, (Array.replicate N false).getD i false = false := fun i => by
    rw [Array.getD_eq_getD_getElem?, Array.getElem?_replicate]
    split <;> rfl
  exact ⟨by simp, hI, fun i _ hl => by (rw [h] at hl; cases hl), fun _ => hA, fun _ => hB, fun i _ hl => by (rw [h] at hl; cases hl), fun _ => h1, fun _ => h2⟩
def RetBd (g : Nat → Nat) (w : World) (e : Ending) (w' : World) : Prop := ∃ A1 c1 A2 c2 A3 c3 A4 c4, e = .returned (.tuple #[.slice A1 7 c1, .slice A2 7 c2, .slice A3 7 c3, .slice A4 7 c4]) ∧ 7 ≤ c1 ∧ 7 ≤ c2 ∧ 7 ≤ c3 ∧ 7 ≤ c4 ∧ VarR w' A1 vars7 ∧ VarR w' A2 vars7 ∧ BiR w' A3 (bnds g 7) ∧ BiR w' A4 (bnds g 7) ∧ Below w.heap.size w w'
theorem unl {listed : Array Bool} {N i : Nat} (hs : listed.size = N) (hi : i < N) (h : listed.getD i true = false) : listed.getD i false = false := by
  rw [Array.getD_eq_getD_getElem?, Array.getElem?_eq_getElem (by omega)] at h ⊢
  exact h
theorem own_apartE {w : World} {B e sz n bx mx S : Nat} {v : Value} {l : List Value} (h : w.ownsRow B e sz v n l) (h1 : w.heap.size ≤ bx) (h2 : w.heap.size ≤ mx) (h3 : w.heap.size ≤ S) : v.ownBlock ≠ some bx ∧ v.ownBlock ≠ some mx ∧ ∀ q, v.ownBlock = some q → q < S := by
  have hl : ∀ q, v.ownBlock = some q → q < w.heap.size := fun q hq => (h.lt q hq).2
  exact ⟨fun e => by have := hl _ e; omega, fun e => by have := hl _ e; omega, fun q hq => by have := hl _ hq; omega⟩
set_option maxRecDepth 100000 in
set_option maxHeartbeats 16000000 in
theorem lb_bound (w : World) (A : Option Addr) (n c : Nat) (f : Nat → Nat) (hc : n ≤ c) (hf : ∀ i, f i < 2 ^ 128) (hA : ValsB w A n f) :
    Calls Tryd.prog 28 #[.slice A n c] w (RetBd (fun i => if i < n then f i else 0) w) := by
  obtain ⟨g, hg⟩ : ∃ g : Nat → Nat, g = fun i => if i < n then f i else 0 := ⟨_, rfl⟩
  rw [← hg]
  have HG := Lib.hid hg
  have HF := Lib.hid hf
  have HV := Lib.hid hA
  obtain ⟨i1, hi1, hz1, hy1, hx1⟩ := info_varT
  obtain ⟨i2, hi2, hz2, hy2, hx2⟩ := info_varRE
  obtain ⟨i3, hi3, hz3, hy3, hx3⟩ := info_bind
  obtain ⟨i4, hi4, hz4, hy4, hx4⟩ := info_bindR
  have HI1 := Lib.hid hi1
  have HZ1 := Lib.hid hz1
  have HY1 := Lib.hid hy1
  have HX1 := Lib.hid hx1
  have HI2 := Lib.hid hi2
  have HZ2 := Lib.hid hz2
  have HY2 := Lib.hid hy2
  have HX2 := Lib.hid hx2
  have HI3 := Lib.hid hi3
  have HZ3 := Lib.hid hz3
  have HY3 := Lib.hid hy3
  have HX3 := Lib.hid hx3
  have HI4 := Lib.hid hi4
  have HZ4 := Lib.hid hz4
  have HY4 := Lib.hid hy4
  have HX4 := Lib.hid hx4
  clear hg hf hA hi1 hz1 hy1 hx1 hi2 hz2 hy2 hx2 hi3 hz3 hy3 hx3 hi4 hz4 hy4 hx4
  go_enter Tryd.func28, Tryd.ntmps28
  go_upto_region 6 with fail
  obtain ⟨W0, hW0⟩ : ∃ W, W = w.alloc (.cells lit14 69) := ⟨_, rfl⟩
  have hsz0 : W0.heap.size = w.heap.size + 1 := by rw [hW0]; simp
  have HSZ0 := Lib.hid hsz0
  have HC0 : Hid (∀ i, W0.cell? ⟨w.heap.size, i, none⟩ = lit14[i]?) := Lib.hid fun i => by rw [hW0, World.cell?_alloc_new]
  have HBW : Hid (Below w.heap.size w W0) := Lib.hid (by rw [hW0]; exact (Below.refl _ _).alloc (Nat.le_refl _) _)
  change Code.wp _ _ _ _ (w.alloc (.cells lit14 69))
  rw [← hW0]
  clear hW0 hsz0
  go_wp2_with fail
  go_loopw [6, 7, 8, 9, 22] (fun v1 v2 v3 v4 i w' => ∃ (k : Nat) (r1 r2 r3 r4 : Value), k ≤ 7 ∧ i = .int .i64 k ∧ r1 = v1 ∧ r2 = v2 ∧ r3 = v3 ∧ r4 = v4 ∧ BdR W0 g k r1 r2 r3 r4 w') (fun _ _ _ _ i _ => 7 - (intOf i).toNat)
  case atStart => exact ⟨0, _, _, _, _, by omega, rfl, rfl, rfl, rfl, rfl, ⟨Below.refl _ _, World.ownsRow_nil _ _ _ _, World.ownsRow_nil _ _ _ _, World.ownsRow_nil _ _ _ _, World.ownsRow_nil _ _ _ _⟩⟩
  case round =>
    obtain ⟨k, r1, r2, r3, r4, hk, rfl, e1, e2, e3, e4, hR⟩ := hrel
    subst e1 e2 e3 e4
    have HR := Lib.hid hR
    have hsz := hR.below.size
    have hz0 := HSZ0.out
    clear hR
    by_cases hlt : k < 7
    · have hkI : (k : Int) < 7 := by omega
      have hk0 : 0 ≤ (k : Int) := by omega
      obtain ⟨hv7, hs2, hs3⟩ := var7_at k hlt
      obtain ⟨b, hb⟩ : ∃ b, b = bnd7 g k := ⟨_, rfl⟩
      have hbn : (var7 k).1 = b.name := by rw [hb]; rfl
      have hba : (var7 k).2 = b.attr := by rw [hb]; rfl
      have hbv : b.val = if k < n then f k else 0 := by
        rw [hb, HG.out]
        show (if k < n then f k else 0) % _ = _
        split
        · exact Nat.mod_eq_of_lt (HF.out k)
        · rfl
      have hv8 : var7 k = (b.name, b.attr) := by rw [← hbn, ← hba]
      rw [hbn] at hs2
      rw [hba] at hs3
      have HB7 := Lib.hid hb
      have HV8 := Lib.hid hv8
      clear hb hbn hba hv7 hv8
      have c0 : wr.cell? ⟨w.heap.size, k * 2, none⟩ = some (.string b.name) := by rw [HR.out.below.cell (p := ⟨w.heap.size, k * 2, none⟩) (by show w.heap.size < _; omega), HC0.out, hs2]
      have c1 : wr.cell? ⟨w.heap.size, k * 2 + 1, none⟩ = some (.string b.attr) := by rw [HR.out.below.cell (p := ⟨w.heap.size, k * 2 + 1, none⟩) (by show w.heap.size < _; omega), HC0.out, hs3]
      clear hs2 hs3 hz0
      obtain ⟨WB, hWB⟩ : ∃ W, W = (wr.alloc (.cells #[.string b.name, .string b.attr] 69)).alloc (.cells #[.int .u64 (hi b.val), .int .u64 (lo b.val)] 102) := ⟨_, rfl⟩
      have hbox : WB.heap[wr.heap.size]? = some (.cells #[.string b.name, .string b.attr] 69 (0, 0)) := by
        rw [hWB]
        exact (((Below.refl _ _).alloc (Nat.le_refl _) _).block wr.heap.size (by simp)).trans (heap_alloc_new _ _)
      have hval : WB.heap[wr.heap.size + 1]? = some (.cells #[.int .u64 (hi b.val), .int .u64 (lo b.val)] 102 (0, 0)) := by
        rw [hWB, show wr.heap.size + 1 = (wr.alloc (.cells #[.string b.name, .string b.attr] 69)).heap.size by simp]
        exact heap_alloc_new _ _
      have hszB : WB.heap.size = wr.heap.size + 2 := by rw [hWB]; simp
      have hBel : Below wr.heap.size wr WB := by rw [hWB]; exact ((Below.refl _ _).alloc (Nat.le_refl _) _).alloc (by simp) _
      have HBOX := Lib.hid hbox
      have HVAL := Lib.hid hval
      have HBEL := Lib.hid hBel
      have HSZB := Lib.hid hszB
      have HWB := Lib.hid hWB
      clear hbox hval hBel hszB hWB
      have hcont : ∀ (b8 : Bool), (if k < n then b8 = true else b8 = false) → True := fun _ _ => trivial
      clear hcont
      by_cases hkn : k < n
      · obtain ⟨g2, o2, hAe, hgl, hcs⟩ := (HV.out.below (HBW.out.trans (HR.out.below.mono (by have := HSZ0.out; omega)))).resolve_left (by omega)
        obtain ⟨d0, d1⟩ := hcs k hkn
        rw [if_pos hkn] at hbv
        rw [← hbv] at d0 d1
        subst hAe
        have hknI : (k : Int) < (n : Int) := by omega
        have hkcI : (k : Int) < (c : Int) := by omega
        clear hcs hbv
        go_upto_region 11 with fail
        change Code.wp _ _ _ _ ((wr.alloc (.cells #[.string b.name, .string b.attr] 69)).alloc (.cells #[.int .u64 (hi b.val), .int .u64 (lo b.val)] 102))
        rw [← HWB.out]
        clear c0 c1 d0 d1 HWB hkn hknI
        obtain ⟨bx, hbx⟩ : ∃ x, x = wr.heap.size := ⟨_, rfl⟩
        obtain ⟨mx, hmx⟩ : ∃ x, x = wr.heap.size + 1 := ⟨_, rfl⟩
        obtain ⟨S, hS⟩ : ∃ x, x = wr.heap.size + 2 := ⟨_, rfl⟩
        have hbxS : wr.heap.size ≤ bx := by omega
        have hmxS : wr.heap.size ≤ mx := by omega
        have hS1 : wr.heap.size ≤ S := by omega
        have HNr1 : Hid (r1.ownBlock ≠ some bx ∧ r1.ownBlock ≠ some mx ∧ ∀ q, r1.ownBlock = some q → q < S) := Lib.hid (own_apartE HR.out.o1 hbxS hmxS hS1)
        have HNr2 : Hid (r2.ownBlock ≠ some bx ∧ r2.ownBlock ≠ some mx ∧ ∀ q, r2.ownBlock = some q → q < S) := Lib.hid (own_apartE HR.out.o2 hbxS hmxS hS1)
        have HNr3 : Hid (r3.ownBlock ≠ some bx ∧ r3.ownBlock ≠ some mx ∧ ∀ q, r3.ownBlock = some q → q < S) := Lib.hid (own_apartE HR.out.o3 hbxS hmxS hS1)
        have HNr4 : Hid (r4.ownBlock ≠ some bx ∧ r4.ownBlock ≠ some mx ∧ ∀ q, r4.ownBlock = some q → q < S) := Lib.hid (own_apartE HR.out.o4 hbxS hmxS hS1)
        have HBS : Hid (W0.heap.size ≤ S) := Lib.hid (by omega)
        have HI : Hid (IRw W0.heap.size S W0 bx mx (b.name, b.attr) (hi b.val) (lo b.val) 130 131 4 4 r3 r4 k (bcells (bnds g k)) (bcells (bnds g k)) WB) := Lib.hid ⟨HR.out.below.trans (HBEL.out.mono hsz), by rw [HSZB.out]; omega, by rw [hbx]; exact HBOX.out, by rw [hmx]; exact HVAL.out, own_below2 HR.out.o3 HBEL.out, own_below2 HR.out.o4 HBEL.out⟩
        have HA := Lib.hid (own_below2 HR.out.o1 HBEL.out)
        have HB := Lib.hid (own_below2 HR.out.o2 HBEL.out)
        have HA3 := Lib.hid (own_below2 HR.out.o3 HBEL.out)
        rw [← hmx, ← hbx]
        clear HR HBEL HBOX HVAL HSZB HA3 hbxS hmxS hS1 hbx hmx hS hsz
        refine wp_region_S sL11 (JR 14 12 3 11 0 4 r1 r2 sl11 (G11 W0.heap.size S r1 r2 k (vcells (vars7.take k)) (vcells (vars7.take k)) (b.name, b.attr) b bx) (IRw W0.heap.size S W0 bx mx (b.name, b.attr) (hi b.val) (lo b.val) 130 131 4 4 r3 r4 k (bcells (bnds g k)) (bcells (bnds g k))) (fun u => u.ownsRow W0.heap.size 69 2 r1 k (vcells (vars7.take k))) (fun u => u.ownsRow W0.heap.size 64 2 r2 k (vcells (vars7.take k)))) (by kernel_rfl) ?_ ?_ ?_ ?_
        · simp [setS, sL11]
        · exact JR.begun HI.out.drew HA.out.drew HB.out.drew rfl rfl
        · clear HI HA HB
          intro listed w1 v i hJ hrd
          obtain ⟨hlt2, hun⟩ := ready_subN hrd
          have hlt3 : i < 14 := hlt2
          clear hlt2
          match i, hlt3 with
          | 0, _ =>
            have em : v 6 = r1 := hJ.e1 (unl hJ.size (by decide) hun)
            refine wpOp_step rfl (fun K' hK => ?_)
            simp only [setS, sL11, List.setIfInBounds_toArray, List.set_cons_succ, List.set_cons_zero]
            have HH := Lib.hid hK
            rw [em]
            clear hK hrd
            go_simp
            refine HH.out _ _ ⟨updv v (sl11 0) r1, by simp [setS, sL11, sl11, updv, em], hJ.step (by decide) (sl11_ne _ · (by decide)) (fun h => h) (fun _ _ _ _ h => h) (fun _ h => h) (fun _ h => h) (fun h => absurd h (by decide)) (by decide) (fun h => absurd h (by decide)) (fun h => absurd h (by decide)) rfl⟩
          | 1, _ =>
            obtain ⟨b0, b1⟩ := cells2_of hJ.inv.box
            refine wpOp_step rfl (fun K' hK => ?_)
            simp only [setS, sL11, List.setIfInBounds_toArray, List.set_cons_succ, List.set_cons_zero]
            have HH := Lib.hid hK
            clear hK hrd
            go_simp
            refine HH.out _ _ ⟨updv v (sl11 1) (.agg #[.string b.name, .string b.attr]), by simp [setS, sL11, sl11, updv], hJ.step (by decide) (sl11_ne _ · (by decide)) (fun h => h) (fun _ _ _ _ h => h) (fun _ h => h) (fun _ h => h) (fun h => absurd h (by decide)) (by decide) (fun h => absurd h (by decide)) (fun h => absurd h (by decide)) rfl⟩
          | 2, _ =>
            have e1 : v 36 = .agg #[.string b.name, .string b.attr] := hJ.f 1 (by decide) (ready_depN hrd rfl (e := ⟨1, .data⟩) (by simp) rfl)
            refine wpOp_step rfl (fun K' hK => ?_)
            simp only [setS, sL11, List.setIfInBounds_toArray, List.set_cons_succ, List.set_cons_zero]
            have HH := Lib.hid hK
            rw [e1]
            clear hK hrd
            go_simp
            refine HH.out _ _ ⟨updv v (sl11 2) (.slice (some ⟨w1.heap.size, 0, none⟩) 1 1), by simp [setS, sL11, sl11, updv, e1], hJ.step (by decide) (sl11_ne _ · (by decide)) (fun h => h.alloc HBS.out _) (fun j u _ _ h => h.alloc _) (fun _ h => World.ownsRow.alloc h _) (fun _ h => World.ownsRow.alloc h _) (fun h => absurd h (by decide)) (by decide) (fun h => absurd h (by decide)) (fun h => absurd h (by decide)) (TmpB.new 69 [.string b.name, .string b.attr] w1 hJ.inv.sz)⟩
          | 3, _ =>
            have e0 : v 35 = r1 := hJ.f 0 (by decide) (ready_depN hrd rfl (e := ⟨0, .data⟩) (by simp) rfl)
            obtain ⟨kk, e1, hkS, hkk⟩ : TmpB S 69 _ w1 (v 37) := hJ.f 2 (by decide) (ready_depN hrd rfl (e := ⟨2, .data⟩) (by simp) rfl)
            have hun2 : listed.getD 3 false = false := unl hJ.size (by decide) hun
            have hown := hJ.a hun2
            refine wpOp_step rfl (fun K' hK => ?_)
            have HH := Lib.hid hK
            clear hK hrd
            refine step_appY rfl (.tmp 35) (.tmp 37) 33 (by rfl) W0.heap.size 69 i1 _ 2 32 Tryd.underlying33 HI1.out HZ1.out HY1.out HX1.out rfl (by decide) r1 k _ (by simp [setS, sL11, Act.eval, e0]) hown ⟨kk, 0, none⟩ 1 1 (vcell (b.name, b.attr)) (by simp [setS, sL11, Act.eval, e1]) rfl (World.news_of_block hkk) (vcell_one _) (by unfold maxLen; omega) (by omega) (Nat.le_trans HBS.out hJ.inv.sz) ?_
            intro y w2 hO hg _
            clear e1
            refine HH.out _ _ ⟨updv v (sl11 3) y, by simp [Act.put, setS, sL11, sl11, updv], hJ.step (by decide) (sl11_ne _ · (by decide)) (fun h => h.grown HBS.out hown (by decide) (by decide) HNr1.out.1 HNr1.out.2.1 hg) (fun j u hj hM h => G11.appA hown HNr1.out.2.2 hg j u hj (Nat.lt_of_not_le fun hh => by have := (hM hh).1; rw [hun2] at this; cases this) h) (fun h => absurd rfl h) (fun _ h => own_otherB h hown (by decide) hg) (fun h => absurd h (by decide)) (by decide) (fun h => absurd h (by decide)) (fun h => absurd h (by decide)) hO⟩
          | 4, _ =>
            have em : v 7 = r2 := hJ.e2 (unl hJ.size (by decide) hun)
            refine wpOp_step rfl (fun K' hK => ?_)
            simp only [setS, sL11, List.setIfInBounds_toArray, List.set_cons_succ, List.set_cons_zero]
            have HH := Lib.hid hK
            rw [em]
            clear hK hrd
            go_simp
            refine HH.out _ _ ⟨updv v (sl11 4) r2, by simp [setS, sL11, sl11, updv, em], hJ.step (by decide) (sl11_ne _ · (by decide)) (fun h => h) (fun _ _ _ _ h => h) (fun _ h => h) (fun _ h => h) (fun h => absurd h (by decide)) (by decide) (fun h => absurd h (by decide)) (fun h => absurd h (by decide)) rfl⟩
          | 5, _ =>
            refine wpOp_step rfl (fun K' hK => ?_)
            simp only [setS, sL11, List.setIfInBounds_toArray, List.set_cons_succ, List.set_cons_zero]
            have HH := Lib.hid hK
            clear hK hrd
            go_simp
            refine HH.out _ _ ⟨updv v (sl11 5) (.pointer (some ⟨bx, 0, none⟩)), by simp [setS, sL11, sl11, updv], hJ.step (by decide) (sl11_ne _ · (by decide)) (fun h => h) (fun _ _ _ _ h => h) (fun _ h => h) (fun _ h => h) (fun h => absurd h (by decide)) (by decide) (fun h => absurd h (by decide)) (fun h => absurd h (by decide)) rfl⟩
          | 6, _ =>
            have e5 : v 40 = .pointer (some ⟨bx, 0, none⟩) := hJ.f 5 (by decide) (ready_depN hrd rfl (e := ⟨5, .data⟩) (by simp) rfl)
            obtain ⟨b0, b1⟩ := cells2_of hJ.inv.box
            refine wpOp_step rfl (fun K' hK => ?_)
            simp only [setS, sL11, List.setIfInBounds_toArray, List.set_cons_succ, List.set_cons_zero]
            have HH := Lib.hid hK
            rw [e5]
            clear hK hrd
            go_simp
            refine HH.out _ _ ⟨updv v (sl11 6) (.string b.name), by simp [setS, sL11, sl11, updv, e5], hJ.step (by decide) (sl11_ne _ · (by decide)) (fun h => h) (fun _ _ _ _ h => h) (fun _ h => h) (fun _ h => h) (fun h => absurd h (by decide)) (by decide) (fun h => absurd h (by decide)) (fun h => absurd h (by decide)) rfl⟩
          | 7, _ =>
            refine wpOp_step rfl (fun K' hK => ?_)
            simp only [setS, sL11, List.setIfInBounds_toArray, List.set_cons_succ, List.set_cons_zero]
            have HH := Lib.hid hK
            clear hK hrd
            go_simp
            refine HH.out _ _ ⟨updv v (sl11 7) (.pointer (some ⟨bx, 1, none⟩)), by simp [setS, sL11, sl11, updv], hJ.step (by decide) (sl11_ne _ · (by decide)) (fun h => h) (fun _ _ _ _ h => h) (fun _ h => h) (fun _ h => h) (fun h => absurd h (by decide)) (by decide) (fun h => absurd h (by decide)) (fun h => absurd h (by decide)) rfl⟩
          | 8, _ =>
            have e7 : v 42 = .pointer (some ⟨bx, 1, none⟩) := hJ.f 7 (by decide) (ready_depN hrd rfl (e := ⟨7, .data⟩) (by simp) rfl)
            obtain ⟨b0, b1⟩ := cells2_of hJ.inv.box
            refine wpOp_step rfl (fun K' hK => ?_)
            simp only [setS, sL11, List.setIfInBounds_toArray, List.set_cons_succ, List.set_cons_zero]
            have HH := Lib.hid hK
            rw [e7]
            clear hK hrd
            go_simp
            refine HH.out _ _ ⟨updv v (sl11 8) (.string b.attr), by simp [setS, sL11, sl11, updv, e7], hJ.step (by decide) (sl11_ne _ · (by decide)) (fun h => h) (fun _ _ _ _ h => h) (fun _ h => h) (fun _ h => h) (fun h => absurd h (by decide)) (by decide) (fun h => absurd h (by decide)) (fun h => absurd h (by decide)) rfl⟩
          | 9, _ =>
            have e6 : v 41 = .string b.name := hJ.f 6 (by decide) (ready_depN hrd rfl (e := ⟨6, .data⟩) (by simp) rfl)
            have e8 : v 43 = .string b.attr := hJ.f 8 (by decide) (ready_depN hrd rfl (e := ⟨8, .data⟩) (by simp) rfl)
            refine wpOp_step rfl (fun K' hK => ?_)
            simp only [setS, sL11, List.setIfInBounds_toArray, List.set_cons_succ, List.set_cons_zero]
            have HH := Lib.hid hK
            rw [e6, e8]
            clear hK hrd
            go_simp
            refine HH.out _ _ ⟨updv v (sl11 9) (.agg #[.string b.name, .string b.attr]), by simp [setS, sL11, sl11, updv, e6, e8], hJ.step (by decide) (sl11_ne _ · (by decide)) (fun h => h) (fun _ _ _ _ h => h) (fun _ h => h) (fun _ h => h) (fun h => absurd h (by decide)) (by decide) (fun h => absurd h (by decide)) (fun h => absurd h (by decide)) rfl⟩
          | 10, _ =>
            have e9 : v 44 = .agg #[.string b.name, .string b.attr] := hJ.f 9 (by decide) (ready_depN hrd rfl (e := ⟨9, .data⟩) (by simp) rfl)
            refine wpOp_step rfl (fun K' hK => ?_)
            simp only [setS, sL11, List.setIfInBounds_toArray, List.set_cons_succ, List.set_cons_zero]
            have HH := Lib.hid hK
            rw [e9]
            clear hK hrd
            go_simp
            refine HH.out _ _ ⟨updv v (sl11 10) (.slice (some ⟨w1.heap.size, 0, none⟩) 1 1), by simp [setS, sL11, sl11, updv, e9], hJ.step (by decide) (sl11_ne _ · (by decide)) (fun h => h.alloc HBS.out _) (fun j u _ _ h => h.alloc _) (fun _ h => World.ownsRow.alloc h _) (fun _ h => World.ownsRow.alloc h _) (fun h => absurd h (by decide)) (by decide) (fun h => absurd h (by decide)) (fun h => absurd h (by decide)) (TmpB.new 64 [.string b.name, .string b.attr] w1 hJ.inv.sz)⟩
          | 11, _ =>
            have e0 : v 39 = r2 := hJ.f 4 (by decide) (ready_depN hrd rfl (e := ⟨4, .data⟩) (by simp) rfl)
            obtain ⟨kk, e1, hkS, hkk⟩ : TmpB S 64 _ w1 (v 45) := hJ.f 10 (by decide) (ready_depN hrd rfl (e := ⟨10, .data⟩) (by simp) rfl)
            have hun2 : listed.getD 11 false = false := unl hJ.size (by decide) hun
            have hown := hJ.b hun2
            refine wpOp_step rfl (fun K' hK => ?_)
            have HH := Lib.hid hK
            clear hK hrd
            refine step_appY rfl (.tmp 39) (.tmp 45) 35 (by rfl) W0.heap.size 64 i2 _ 2 32 Tryd.underlying35 HI2.out HZ2.out HY2.out HX2.out rfl (by decide) r2 k _ (by simp [setS, sL11, Act.eval, e0]) hown ⟨kk, 0, none⟩ 1 1 (vcell (b.name, b.attr)) (by simp [setS, sL11, Act.eval, e1]) rfl (World.news_of_block hkk) (vcell_one _) (by unfold maxLen; omega) (by omega) (Nat.le_trans HBS.out hJ.inv.sz) ?_
            intro y w2 hO hg _
            clear e1
            refine HH.out _ _ ⟨updv v (sl11 11) y, by simp [Act.put, setS, sL11, sl11, updv], hJ.step (by decide) (sl11_ne _ · (by decide)) (fun h => h.grown HBS.out hown (by decide) (by decide) HNr2.out.1 HNr2.out.2.1 hg) (fun j u hj hM h => G11.appB hown HNr2.out.2.2 hg j u hj (Nat.lt_of_not_le fun hh => by have := (hM (by omega)).2 (by omega); rw [hun2] at this; cases this) h) (fun _ h => own_otherB h hown (by decide) hg) (fun h => absurd rfl h) (fun h => absurd h (by decide)) (by decide) (fun h => absurd h (by decide)) (fun h => absurd h (by decide)) hO⟩
          | 12, _ =>
            refine wpOp_step rfl (fun K' hK => ?_)
            simp only [setS, sL11, List.setIfInBounds_toArray, List.set_cons_succ, List.set_cons_zero]
            have HH := Lib.hid hK
            have hx := hJ.f 3 (by decide) (ready_depN hrd rfl (e := ⟨3, .data⟩) (by simp) rfl)
            have d1 := ready_depN hrd rfl (e := ⟨3, .phase⟩) (by simp) rfl
            have d3 := ready_depN hrd rfl (e := ⟨0, .phase⟩) (by simp) rfl
            clear hK hrd
            go_simp
            refine HH.out _ _ ⟨updv v (sl11 12) (v 38), by simp [setS, sL11, sl11, updv], hJ.step (by decide) (sl11_ne _ · (by decide)) (fun h => h) (fun _ _ _ _ h => h) (fun _ h => h) (fun _ h => h) (fun _ => ⟨d1, fun h => absurd h (by decide)⟩) (by decide) (fun _ => d3) (fun h => absurd h (by decide)) hx⟩
          | 13, _ =>
            refine wpOp_step rfl (fun K' hK => ?_)
            simp only [setS, sL11, List.setIfInBounds_toArray, List.set_cons_succ, List.set_cons_zero]
            have HH := Lib.hid hK
            have hx := hJ.f 11 (by decide) (ready_depN hrd rfl (e := ⟨11, .data⟩) (by simp) rfl)
            have d1 := ready_depN hrd rfl (e := ⟨3, .phase⟩) (by simp) rfl
            have d3 := ready_depN hrd rfl (e := ⟨4, .phase⟩) (by simp) rfl
            have d2 := ready_depN hrd rfl (e := ⟨11, .phase⟩) (by simp) rfl
            clear hK hrd
            go_simp
            refine HH.out _ _ ⟨updv v (sl11 13) (v 46), by simp [setS, sL11, sl11, updv], hJ.step (by decide) (sl11_ne _ · (by decide)) (fun h => h) (fun _ _ _ _ h => h) (fun _ h => h) (fun _ h => h) (fun _ => ⟨d1, fun _ => d2⟩) (by decide) (fun h => absurd h (by decide)) (fun _ => d3) hx⟩
          | _ + 14, h => exact absurd h (by omega)
        · intro listed w1 v hJ hr
          have hall := ready_allN (by kernel_rfl) hJ.size hr
          have ho1 := hJ.f 12 (by decide) (hall 12 (by decide))
          have ho2 := hJ.f 13 (by decide) (hall 13 (by decide))
          have hIn := hJ.inv
          clear hJ hr hall HI HA HB
          simp only [setS, sL11, List.setIfInBounds_toArray, List.set_cons_succ, List.set_cons_zero]
          have HA : Hid (w1.ownsRow W0.heap.size 130 4 r3 k (bcells (bnds g k))) := Lib.hid hIn.oc
          have HB : Hid (w1.ownsRow W0.heap.size 131 4 r4 k (bcells (bnds g k))) := Lib.hid hIn.od
          have q1 : w1.ownsRow W0.heap.size 69 2 (v 6) (k + 1) (vcells (vars7.take k) ++ vcell (b.name, b.attr)) := ho1
          have q2 : w1.ownsRow W0.heap.size 64 2 (v 7) (k + 1) (vcells (vars7.take k) ++ vcell (b.name, b.attr)) := ho2
          clear ho1 ho2
          generalize v 6 = s1 at q1 ⊢
          generalize v 7 = s2 at q2 ⊢
          have HI : Hid (IRw W0.heap.size S W0 bx mx (b.name, b.attr) (hi b.val) (lo b.val) 69 64 2 2 s1 s2 (k + 1) (vcells (vars7.take k) ++ vcell (b.name, b.attr)) (vcells (vars7.take k) ++ vcell (b.name, b.attr)) w1) := Lib.hid ⟨hIn.below, hIn.sz, hIn.box, hIn.val, q1, q2⟩
          clear hIn q1 q2 HNr1 HNr2
          go_upto_region 12 with fail
          refine wp_region_S sL12 (JR 20 18 8 17 0 9 r3 r4 sl12 (G12 W0.heap.size S r3 r4 k (bcells (bnds g k)) (bcells (bnds g k)) (b.name, b.attr) b bx) (IRw W0.heap.size S W0 bx mx (b.name, b.attr) (hi b.val) (lo b.val) 69 64 2 2 s1 s2 (k + 1) (vcells (vars7.take k) ++ vcell (b.name, b.attr)) (vcells (vars7.take k) ++ vcell (b.name, b.attr))) (fun u => u.ownsRow W0.heap.size 130 4 r3 k (bcells (bnds g k))) (fun u => u.ownsRow W0.heap.size 131 4 r4 k (bcells (bnds g k)))) (by kernel_rfl) ?_ ?_ ?_ ?_
          · simp [setS, sL12]
          · exact JR.begun HI.out.drew HA.out.drew HB.out.drew rfl rfl
          · clear HI HA HB
            intro listed w1 v i hJ hrd
            obtain ⟨hlt2, hun⟩ := ready_subN hrd
            have hlt3 : i < 20 := hlt2
            clear hlt2
            match i, hlt3 with
            | 0, _ =>
              have em : v 8 = r3 := hJ.e1 (unl hJ.size (by decide) hun)
              refine wpOp_step rfl (fun K' hK => ?_)
              simp only [setS, sL12, List.setIfInBounds_toArray, List.set_cons_succ, List.set_cons_zero]
              have HH := Lib.hid hK
              rw [em]
              clear hK hrd
              go_simp
              refine HH.out _ _ ⟨updv v (sl12 0) r3, by simp [setS, sL12, sl12, updv, em], hJ.step (by decide) (sl12_ne _ · (by decide)) (fun h => h) (fun _ _ _ _ h => h) (fun _ h => h) (fun _ h => h) (fun h => absurd h (by decide)) (by decide) (fun h => absurd h (by decide)) (fun h => absurd h (by decide)) rfl⟩
            | 1, _ =>
              refine wpOp_step rfl (fun K' hK => ?_)
              simp only [setS, sL12, List.setIfInBounds_toArray, List.set_cons_succ, List.set_cons_zero]
              have HH := Lib.hid hK
              clear hK hrd
              go_simp
              refine HH.out _ _ ⟨updv v (sl12 1) (.pointer (some ⟨bx, 0, none⟩)), by simp [setS, sL12, sl12, updv], hJ.step (by decide) (sl12_ne _ · (by decide)) (fun h => h) (fun _ _ _ _ h => h) (fun _ h => h) (fun _ h => h) (fun h => absurd h (by decide)) (by decide) (fun h => absurd h (by decide)) (fun h => absurd h (by decide)) rfl⟩
            | 2, _ =>
              have e1 : v 48 = .pointer (some ⟨bx, 0, none⟩) := hJ.f 1 (by decide) (ready_depN hrd rfl (e := ⟨1, .data⟩) (by simp) rfl)
              obtain ⟨b0, b1⟩ := cells2_of hJ.inv.box
              refine wpOp_step rfl (fun K' hK => ?_)
              simp only [setS, sL12, List.setIfInBounds_toArray, List.set_cons_succ, List.set_cons_zero]
              have HH := Lib.hid hK
              rw [e1]
              clear hK hrd
              go_simp
              refine HH.out _ _ ⟨updv v (sl12 2) (.string b.name), by simp [setS, sL12, sl12, updv, e1], hJ.step (by decide) (sl12_ne _ · (by decide)) (fun h => h) (fun _ _ _ _ h => h) (fun _ h => h) (fun _ h => h) (fun h => absurd h (by decide)) (by decide) (fun h => absurd h (by decide)) (fun h => absurd h (by decide)) rfl⟩
            | 3, _ =>
              refine wpOp_step rfl (fun K' hK => ?_)
              simp only [setS, sL12, List.setIfInBounds_toArray, List.set_cons_succ, List.set_cons_zero]
              have HH := Lib.hid hK
              clear hK hrd
              go_simp
              refine HH.out _ _ ⟨updv v (sl12 3) (.pointer (some ⟨bx, 1, none⟩)), by simp [setS, sL12, sl12, updv], hJ.step (by decide) (sl12_ne _ · (by decide)) (fun h => h) (fun _ _ _ _ h => h) (fun _ h => h) (fun _ h => h) (fun h => absurd h (by decide)) (by decide) (fun h => absurd h (by decide)) (fun h => absurd h (by decide)) rfl⟩
            | 4, _ =>
              have e3 : v 50 = .pointer (some ⟨bx, 1, none⟩) := hJ.f 3 (by decide) (ready_depN hrd rfl (e := ⟨3, .data⟩) (by simp) rfl)
              obtain ⟨b0, b1⟩ := cells2_of hJ.inv.box
              refine wpOp_step rfl (fun K' hK => ?_)
              simp only [setS, sL12, List.setIfInBounds_toArray, List.set_cons_succ, List.set_cons_zero]
              have HH := Lib.hid hK
              rw [e3]
              clear hK hrd
              go_simp
              refine HH.out _ _ ⟨updv v (sl12 4) (.string b.attr), by simp [setS, sL12, sl12, updv, e3], hJ.step (by decide) (sl12_ne _ · (by decide)) (fun h => h) (fun _ _ _ _ h => h) (fun _ h => h) (fun _ h => h) (fun h => absurd h (by decide)) (by decide) (fun h => absurd h (by decide)) (fun h => absurd h (by decide)) rfl⟩
            | 5, _ =>
              obtain ⟨b0, b1⟩ := cells2_of hJ.inv.val
              refine wpOp_step rfl (fun K' hK => ?_)
              simp only [setS, sL12, List.setIfInBounds_toArray, List.set_cons_succ, List.set_cons_zero]
              have HH := Lib.hid hK
              clear hK hrd
              go_simp
              refine HH.out _ _ ⟨updv v (sl12 5) (.agg #[.int .u64 (hi b.val), .int .u64 (lo b.val)]), by simp [setS, sL12, sl12, updv], hJ.step (by decide) (sl12_ne _ · (by decide)) (fun h => h) (fun _ _ _ _ h => h) (fun _ h => h) (fun _ h => h) (fun h => absurd h (by decide)) (by decide) (fun h => absurd h (by decide)) (fun h => absurd h (by decide)) rfl⟩
            | 6, _ =>
              have e2 : v 49 = .string b.name := hJ.f 2 (by decide) (ready_depN hrd rfl (e := ⟨2, .data⟩) (by simp) rfl)
              have e4 : v 51 = .string b.attr := hJ.f 4 (by decide) (ready_depN hrd rfl (e := ⟨4, .data⟩) (by simp) rfl)
              have e5 : v 52 = .agg #[.int .u64 (hi b.val), .int .u64 (lo b.val)] := hJ.f 5 (by decide) (ready_depN hrd rfl (e := ⟨5, .data⟩) (by simp) rfl)
              refine wpOp_step rfl (fun K' hK => ?_)
              simp only [setS, sL12, List.setIfInBounds_toArray, List.set_cons_succ, List.set_cons_zero]
              have HH := Lib.hid hK
              rw [e2, e4, e5]
              clear hK hrd
              go_simp
              refine HH.out _ _ ⟨updv v (sl12 6) (.agg #[.string b.name, .string b.attr, .int .u64 (hi b.val), .int .u64 (lo b.val)]), by simp [setS, sL12, sl12, updv, e2, e4, e5], hJ.step (by decide) (sl12_ne _ · (by decide)) (fun h => h) (fun _ _ _ _ h => h) (fun _ h => h) (fun _ h => h) (fun h => absurd h (by decide)) (by decide) (fun h => absurd h (by decide)) (fun h => absurd h (by decide)) rfl⟩
            | 7, _ =>
              have e6 : v 53 = .agg #[.string b.name, .string b.attr, .int .u64 (hi b.val), .int .u64 (lo b.val)] := hJ.f 6 (by decide) (ready_depN hrd rfl (e := ⟨6, .data⟩) (by simp) rfl)
              refine wpOp_step rfl (fun K' hK => ?_)
              simp only [setS, sL12, List.setIfInBounds_toArray, List.set_cons_succ, List.set_cons_zero]
              have HH := Lib.hid hK
              rw [e6]
              clear hK hrd
              go_simp
              refine HH.out _ _ ⟨updv v (sl12 7) (.slice (some ⟨w1.heap.size, 0, none⟩) 1 1), by simp [setS, sL12, sl12, updv, e6], hJ.step (by decide) (sl12_ne _ · (by decide)) (fun h => h.alloc HBS.out _) (fun j u _ _ h => h.alloc _) (fun _ h => World.ownsRow.alloc h _) (fun _ h => World.ownsRow.alloc h _) (fun h => absurd h (by decide)) (by decide) (fun h => absurd h (by decide)) (fun h => absurd h (by decide)) (TmpB.new 130 [.string b.name, .string b.attr, .int .u64 (hi b.val), .int .u64 (lo b.val)] w1 hJ.inv.sz)⟩
            | 8, _ =>
              have e0 : v 47 = r3 := hJ.f 0 (by decide) (ready_depN hrd rfl (e := ⟨0, .data⟩) (by simp) rfl)
              obtain ⟨kk, e1, hkS, hkk⟩ : TmpB S 130 _ w1 (v 54) := hJ.f 7 (by decide) (ready_depN hrd rfl (e := ⟨7, .data⟩) (by simp) rfl)
              have hun2 : listed.getD 8 false = false := unl hJ.size (by decide) hun
              have hown := hJ.a hun2
              refine wpOp_step rfl (fun K' hK => ?_)
              have HH := Lib.hid hK
              clear hK hrd
              refine step_appY rfl (.tmp 47) (.tmp 54) 91 (by rfl) W0.heap.size 130 i3 _ 4 48 Tryd.underlying91 HI3.out HZ3.out HY3.out HX3.out rfl (by decide) r3 k _ (by simp [setS, sL12, Act.eval, e0]) hown ⟨kk, 0, none⟩ 1 1 (bcell b) (by simp [setS, sL12, Act.eval, e1]) rfl (World.news_of_block hkk) (bcell_one _) (by unfold maxLen; omega) (by omega) (Nat.le_trans HBS.out hJ.inv.sz) ?_
              intro y w2 hO hg _
              clear e1
              refine HH.out _ _ ⟨updv v (sl12 8) y, by simp [Act.put, setS, sL12, sl12, updv], hJ.step (by decide) (sl12_ne _ · (by decide)) (fun h => h.grown HBS.out hown (by decide) (by decide) HNr3.out.1 HNr3.out.2.1 hg) (fun j u hj hM h => G12.appA hown HNr3.out.2.2 hg j u hj (Nat.lt_of_not_le fun hh => by have := (hM hh).1; rw [hun2] at this; cases this) h) (fun h => absurd rfl h) (fun _ h => own_otherB h hown (by decide) hg) (fun h => absurd h (by decide)) (by decide) (fun h => absurd h (by decide)) (fun h => absurd h (by decide)) hO⟩
            | 9, _ =>
              have em : v 9 = r4 := hJ.e2 (unl hJ.size (by decide) hun)
              refine wpOp_step rfl (fun K' hK => ?_)
              simp only [setS, sL12, List.setIfInBounds_toArray, List.set_cons_succ, List.set_cons_zero]
              have HH := Lib.hid hK
              rw [em]
              clear hK hrd
              go_simp
              refine HH.out _ _ ⟨updv v (sl12 9) r4, by simp [setS, sL12, sl12, updv, em], hJ.step (by decide) (sl12_ne _ · (by decide)) (fun h => h) (fun _ _ _ _ h => h) (fun _ h => h) (fun _ h => h) (fun h => absurd h (by decide)) (by decide) (fun h => absurd h (by decide)) (fun h => absurd h (by decide)) rfl⟩
            | 10, _ =>
              refine wpOp_step rfl (fun K' hK => ?_)
              simp only [setS, sL12, List.setIfInBounds_toArray, List.set_cons_succ, List.set_cons_zero]
              have HH := Lib.hid hK
              clear hK hrd
              go_simp
              refine HH.out _ _ ⟨updv v (sl12 10) (.pointer (some ⟨bx, 0, none⟩)), by simp [setS, sL12, sl12, updv], hJ.step (by decide) (sl12_ne _ · (by decide)) (fun h => h) (fun _ _ _ _ h => h) (fun _ h => h) (fun _ h => h) (fun h => absurd h (by decide)) (by decide) (fun h => absurd h (by decide)) (fun h => absurd h (by decide)) rfl⟩
            | 11, _ =>
              have e10 : v 57 = .pointer (some ⟨bx, 0, none⟩) := hJ.f 10 (by decide) (ready_depN hrd rfl (e := ⟨10, .data⟩) (by simp) rfl)
              obtain ⟨b0, b1⟩ := cells2_of hJ.inv.box
              refine wpOp_step rfl (fun K' hK => ?_)
              simp only [setS, sL12, List.setIfInBounds_toArray, List.set_cons_succ, List.set_cons_zero]
              have HH := Lib.hid hK
              rw [e10]
              clear hK hrd
              go_simp
              refine HH.out _ _ ⟨updv v (sl12 11) (.string b.name), by simp [setS, sL12, sl12, updv, e10], hJ.step (by decide) (sl12_ne _ · (by decide)) (fun h => h) (fun _ _ _ _ h => h) (fun _ h => h) (fun _ h => h) (fun h => absurd h (by decide)) (by decide) (fun h => absurd h (by decide)) (fun h => absurd h (by decide)) rfl⟩
            | 12, _ =>
              refine wpOp_step rfl (fun K' hK => ?_)
              simp only [setS, sL12, List.setIfInBounds_toArray, List.set_cons_succ, List.set_cons_zero]
              have HH := Lib.hid hK
              clear hK hrd
              go_simp
              refine HH.out _ _ ⟨updv v (sl12 12) (.pointer (some ⟨bx, 1, none⟩)), by simp [setS, sL12, sl12, updv], hJ.step (by decide) (sl12_ne _ · (by decide)) (fun h => h) (fun _ _ _ _ h => h) (fun _ h => h) (fun _ h => h) (fun h => absurd h (by decide)) (by decide) (fun h => absurd h (by decide)) (fun h => absurd h (by decide)) rfl⟩
            | 13, _ =>
              have e12 : v 59 = .pointer (some ⟨bx, 1, none⟩) := hJ.f 12 (by decide) (ready_depN hrd rfl (e := ⟨12, .data⟩) (by simp) rfl)
              obtain ⟨b0, b1⟩ := cells2_of hJ.inv.box
              refine wpOp_step rfl (fun K' hK => ?_)
              simp only [setS, sL12, List.setIfInBounds_toArray, List.set_cons_succ, List.set_cons_zero]
              have HH := Lib.hid hK
              rw [e12]
              clear hK hrd
              go_simp
              refine HH.out _ _ ⟨updv v (sl12 13) (.string b.attr), by simp [setS, sL12, sl12, updv, e12], hJ.step (by decide) (sl12_ne _ · (by decide)) (fun h => h) (fun _ _ _ _ h => h) (fun _ h => h) (fun _ h => h) (fun h => absurd h (by decide)) (by decide) (fun h => absurd h (by decide)) (fun h => absurd h (by decide)) rfl⟩
            | 14, _ =>
              obtain ⟨b0, b1⟩ := cells2_of hJ.inv.val
              refine wpOp_step rfl (fun K' hK => ?_)
              simp only [setS, sL12, List.setIfInBounds_toArray, List.set_cons_succ, List.set_cons_zero]
              have HH := Lib.hid hK
              clear hK hrd
              go_simp
              refine HH.out _ _ ⟨updv v (sl12 14) (.agg #[.int .u64 (hi b.val), .int .u64 (lo b.val)]), by simp [setS, sL12, sl12, updv], hJ.step (by decide) (sl12_ne _ · (by decide)) (fun h => h) (fun _ _ _ _ h => h) (fun _ h => h) (fun _ h => h) (fun h => absurd h (by decide)) (by decide) (fun h => absurd h (by decide)) (fun h => absurd h (by decide)) rfl⟩
            | 15, _ =>
              have e11 : v 58 = .string b.name := hJ.f 11 (by decide) (ready_depN hrd rfl (e := ⟨11, .data⟩) (by simp) rfl)
              have e13 : v 60 = .string b.attr := hJ.f 13 (by decide) (ready_depN hrd rfl (e := ⟨13, .data⟩) (by simp) rfl)
              have e14 : v 61 = .agg #[.int .u64 (hi b.val), .int .u64 (lo b.val)] := hJ.f 14 (by decide) (ready_depN hrd rfl (e := ⟨14, .data⟩) (by simp) rfl)
              refine wpOp_step rfl (fun K' hK => ?_)
              simp only [setS, sL12, List.setIfInBounds_toArray, List.set_cons_succ, List.set_cons_zero]
              have HH := Lib.hid hK
              rw [e11, e13, e14]
              clear hK hrd
              go_simp
              refine HH.out _ _ ⟨updv v (sl12 15) (.agg #[.string b.name, .string b.attr, .int .u64 (hi b.val), .int .u64 (lo b.val)]), by simp [setS, sL12, sl12, updv, e11, e13, e14], hJ.step (by decide) (sl12_ne _ · (by decide)) (fun h => h) (fun _ _ _ _ h => h) (fun _ h => h) (fun _ h => h) (fun h => absurd h (by decide)) (by decide) (fun h => absurd h (by decide)) (fun h => absurd h (by decide)) rfl⟩
            | 16, _ =>
              have e15 : v 62 = .agg #[.string b.name, .string b.attr, .int .u64 (hi b.val), .int .u64 (lo b.val)] := hJ.f 15 (by decide) (ready_depN hrd rfl (e := ⟨15, .data⟩) (by simp) rfl)
              refine wpOp_step rfl (fun K' hK => ?_)
              simp only [setS, sL12, List.setIfInBounds_toArray, List.set_cons_succ, List.set_cons_zero]
              have HH := Lib.hid hK
              rw [e15]
              clear hK hrd
              go_simp
              refine HH.out _ _ ⟨updv v (sl12 16) (.slice (some ⟨w1.heap.size, 0, none⟩) 1 1), by simp [setS, sL12, sl12, updv, e15], hJ.step (by decide) (sl12_ne _ · (by decide)) (fun h => h.alloc HBS.out _) (fun j u _ _ h => h.alloc _) (fun _ h => World.ownsRow.alloc h _) (fun _ h => World.ownsRow.alloc h _) (fun h => absurd h (by decide)) (by decide) (fun h => absurd h (by decide)) (fun h => absurd h (by decide)) (TmpB.new 131 [.string b.name, .string b.attr, .int .u64 (hi b.val), .int .u64 (lo b.val)] w1 hJ.inv.sz)⟩
            | 17, _ =>
              have e0 : v 56 = r4 := hJ.f 9 (by decide) (ready_depN hrd rfl (e := ⟨9, .data⟩) (by simp) rfl)
              obtain ⟨kk, e1, hkS, hkk⟩ : TmpB S 131 _ w1 (v 63) := hJ.f 16 (by decide) (ready_depN hrd rfl (e := ⟨16, .data⟩) (by simp) rfl)
              have hun2 : listed.getD 17 false = false := unl hJ.size (by decide) hun
              have hown := hJ.b hun2
              refine wpOp_step rfl (fun K' hK => ?_)
              have HH := Lib.hid hK
              clear hK hrd
              refine step_appY rfl (.tmp 56) (.tmp 63) 92 (by rfl) W0.heap.size 131 i4 _ 4 48 Tryd.underlying92 HI4.out HZ4.out HY4.out HX4.out rfl (by decide) r4 k _ (by simp [setS, sL12, Act.eval, e0]) hown ⟨kk, 0, none⟩ 1 1 (bcell b) (by simp [setS, sL12, Act.eval, e1]) rfl (World.news_of_block hkk) (bcell_one _) (by unfold maxLen; omega) (by omega) (Nat.le_trans HBS.out hJ.inv.sz) ?_
              intro y w2 hO hg _
              clear e1
              refine HH.out _ _ ⟨updv v (sl12 17) y, by simp [Act.put, setS, sL12, sl12, updv], hJ.step (by decide) (sl12_ne _ · (by decide)) (fun h => h.grown HBS.out hown (by decide) (by decide) HNr4.out.1 HNr4.out.2.1 hg) (fun j u hj hM h => G12.appB hown HNr4.out.2.2 hg j u hj (Nat.lt_of_not_le fun hh => by have := (hM (by omega)).2 (by omega); rw [hun2] at this; cases this) h) (fun _ h => own_otherB h hown (by decide) hg) (fun h => absurd rfl h) (fun h => absurd h (by decide)) (by decide) (fun h => absurd h (by decide)) (fun h => absurd h (by decide)) hO⟩
            | 18, _ =>
              refine wpOp_step rfl (fun K' hK => ?_)
              simp only [setS, sL12, List.setIfInBounds_toArray, List.set_cons_succ, List.set_cons_zero]
              have HH := Lib.hid hK
              have hx := hJ.f 8 (by decide) (ready_depN hrd rfl (e := ⟨8, .data⟩) (by simp) rfl)
              have d1 := ready_depN hrd rfl (e := ⟨8, .phase⟩) (by simp) rfl
              have d3 := ready_depN hrd rfl (e := ⟨0, .phase⟩) (by simp) rfl
              clear hK hrd
              go_simp
              refine HH.out _ _ ⟨updv v (sl12 18) (v 55), by simp [setS, sL12, sl12, updv], hJ.step (by decide) (sl12_ne _ · (by decide)) (fun h => h) (fun _ _ _ _ h => h) (fun _ h => h) (fun _ h => h) (fun _ => ⟨d1, fun h => absurd h (by decide)⟩) (by decide) (fun _ => d3) (fun h => absurd h (by decide)) hx⟩
            | 19, _ =>
              refine wpOp_step rfl (fun K' hK => ?_)
              simp only [setS, sL12, List.setIfInBounds_toArray, List.set_cons_succ, List.set_cons_zero]
              have HH := Lib.hid hK
              have hx := hJ.f 17 (by decide) (ready_depN hrd rfl (e := ⟨17, .data⟩) (by simp) rfl)
              have d1 := ready_depN hrd rfl (e := ⟨8, .phase⟩) (by simp) rfl
              have d3 := ready_depN hrd rfl (e := ⟨9, .phase⟩) (by simp) rfl
              have d2 := ready_depN hrd rfl (e := ⟨17, .phase⟩) (by simp) rfl
              clear hK hrd
              go_simp
              refine HH.out _ _ ⟨updv v (sl12 19) (v 64), by simp [setS, sL12, sl12, updv], hJ.step (by decide) (sl12_ne _ · (by decide)) (fun h => h) (fun _ _ _ _ h => h) (fun _ h => h) (fun _ h => h) (fun _ => ⟨d1, fun _ => d2⟩) (by decide) (fun h => absurd h (by decide)) (fun _ => d3) hx⟩
            | _ + 20, h => exact absurd h (by omega)
          · intro listed w1 v hJ hr
            have hall := ready_allN (by kernel_rfl) hJ.size hr
            have ho1 := hJ.f 18 (by decide) (hall 18 (by decide))
            have ho2 := hJ.f 19 (by decide) (hall 19 (by decide))
            have hIn := hJ.inv
            clear hJ hr hall HI HA HB
            simp only [setS, sL12, List.setIfInBounds_toArray, List.set_cons_succ, List.set_cons_zero]
            have q3 : w1.ownsRow W0.heap.size 130 4 (v 8) (k + 1) (bcells (bnds g k) ++ bcell b) := ho1
            have q4 : w1.ownsRow W0.heap.size 131 4 (v 9) (k + 1) (bcells (bnds g k) ++ bcell b) := ho2
            clear ho1 ho2
            generalize v 8 = s3 at q3 ⊢
            generalize v 9 = s4 at q4 ⊢
            have HQ3 := Lib.hid q3
            have HQ4 := Lib.hid q4
            have HIN := Lib.hid hIn
            clear q3 q4 hIn
            go_wp2_with fail
            go_roundw
            case rel =>
              go_light
              refine ⟨k + 1, _, _, _, _, by omega, by simp, rfl, rfl, rfl, rfl, ⟨HIN.out.below, ?_, ?_, ?_, ?_⟩⟩
              · rw [vars7_snoc hlt, vcells_snoc, HV8.out]; exact HIN.out.oc
              · rw [vars7_snoc hlt, vcells_snoc, HV8.out]; exact HIN.out.od
              · rw [bnds_succ, bcells_snoc, ← HB7.out]; exact HQ3.out
              · rw [bnds_succ, bcells_snoc, ← HB7.out]; exact HQ4.out
            case measure => simp [intOf]; omega
      · have hknI : ¬ (k : Int) < (n : Int) := by omega
        rw [if_neg hkn] at hbv
        have hh0 : hi b.val = 0 := by rw [hbv]; rfl
        have hl0 : lo b.val = 0 := by rw [hbv]; rfl
        go_upto_region 11 with fail
        have HW2 := HWB.out
        rw [hh0, hl0] at HW2
        change Code.wp _ _ _ _ ((wr.alloc (.cells #[.string b.name, .string b.attr] 69)).alloc (.cells #[.int .u64 0, .int .u64 0] 102))
        rw [← HW2]
        clear c0 c1 HWB HW2 hkn hknI hh0 hl0 hbv
        obtain ⟨bx, hbx⟩ : ∃ x, x = wr.heap.size := ⟨_, rfl⟩
        obtain ⟨mx, hmx⟩ : ∃ x, x = wr.heap.size + 1 := ⟨_, rfl⟩
        obtain ⟨S, hS⟩ : ∃ x, x = wr.heap.size + 2 := ⟨_, rfl⟩
        have hbxS : wr.heap.size ≤ bx := by omega
        have hmxS : wr.heap.size ≤ mx := by omega
        have hS1 : wr.heap.size ≤ S := by omega
        have HNr1 : Hid (r1.ownBlock ≠ some bx ∧ r1.ownBlock ≠ some mx ∧ ∀ q, r1.ownBlock = some q → q < S) := Lib.hid (own_apartE HR.out.o1 hbxS hmxS hS1)
        have HNr2 : Hid (r2.ownBlock ≠ some bx ∧ r2.ownBlock ≠ some mx ∧ ∀ q, r2.ownBlock = some q → q < S) := Lib.hid (own_apartE HR.out.o2 hbxS hmxS hS1)
        have HNr3 : Hid (r3.ownBlock ≠ some bx ∧ r3.ownBlock ≠ some mx ∧ ∀ q, r3.ownBlock = some q → q < S) := Lib.hid (own_apartE HR.out.o3 hbxS hmxS hS1)
        have HNr4 : Hid (r4.ownBlock ≠ some bx ∧ r4.ownBlock ≠ some mx ∧ ∀ q, r4.ownBlock = some q → q < S) := Lib.hid (own_apartE HR.out.o4 hbxS hmxS hS1)
        have HBS : Hid (W0.heap.size ≤ S) := Lib.hid (by omega)
        have HI : Hid (IRw W0.heap.size S W0 bx mx (b.name, b.attr) (hi b.val) (lo b.val) 130 131 4 4 r3 r4 k (bcells (bnds g k)) (bcells (bnds g k)) WB) := Lib.hid ⟨HR.out.below.trans (HBEL.out.mono hsz), by rw [HSZB.out]; omega, by rw [hbx]; exact HBOX.out, by rw [hmx]; exact HVAL.out, own_below2 HR.out.o3 HBEL.out, own_below2 HR.out.o4 HBEL.out⟩
        have HA := Lib.hid (own_below2 HR.out.o1 HBEL.out)
        have HB := Lib.hid (own_below2 HR.out.o2 HBEL.out)
        have HA3 := Lib.hid (own_below2 HR.out.o3 HBEL.out)
        rw [← hmx, ← hbx]
        clear HR HBEL HBOX HVAL HSZB HA3 hbxS hmxS hS1 hbx hmx hS hsz
        refine wp_region_S sL11 (JR 14 12 3 11 0 4 r1 r2 sl11 (G11 W0.heap.size S r1 r2 k (vcells (vars7.take k)) (vcells (vars7.take k)) (b.name, b.attr) b bx) (IRw W0.heap.size S W0 bx mx (b.name, b.attr) (hi b.val) (lo b.val) 130 131 4 4 r3 r4 k (bcells (bnds g k)) (bcells (bnds g k))) (fun u => u.ownsRow W0.heap.size 69 2 r1 k (vcells (vars7.take k))) (fun u => u.ownsRow W0.heap.size 64 2 r2 k (vcells (vars7.take k)))) (by kernel_rfl) ?_ ?_ ?_ ?_
        · simp [setS, sL11]
        · exact JR.begun HI.out.drew HA.out.drew HB.out.drew rfl rfl
        · clear HI HA HB
          intro listed w1 v i hJ hrd
          obtain ⟨hlt2, hun⟩ := ready_subN hrd
          have hlt3 : i < 14 := hlt2
          clear hlt2
          match i, hlt3 with
          | 0, _ =>
            have em : v 6 = r1 := hJ.e1 (unl hJ.size (by decide) hun)
            refine wpOp_step rfl (fun K' hK => ?_)
            simp only [setS, sL11, List.setIfInBounds_toArray, List.set_cons_succ, List.set_cons_zero]
            have HH := Lib.hid hK
            rw [em]
            clear hK hrd
            go_simp
            refine HH.out _ _ ⟨updv v (sl11 0) r1, by simp [setS, sL11, sl11, updv, em], hJ.step (by decide) (sl11_ne _ · (by decide)) (fun h => h) (fun _ _ _ _ h => h) (fun _ h => h) (fun _ h => h) (fun h => absurd h (by decide)) (by decide) (fun h => absurd h (by decide)) (fun h => absurd h (by decide)) rfl⟩
          | 1, _ =>
            obtain ⟨b0, b1⟩ := cells2_of hJ.inv.box
            refine wpOp_step rfl (fun K' hK => ?_)
            simp only [setS, sL11, List.setIfInBounds_toArray, List.set_cons_succ, List.set_cons_zero]
            have HH := Lib.hid hK
            clear hK hrd
            go_simp
            refine HH.out _ _ ⟨updv v (sl11 1) (.agg #[.string b.name, .string b.attr]), by simp [setS, sL11, sl11, updv], hJ.step (by decide) (sl11_ne _ · (by decide)) (fun h => h) (fun _ _ _ _ h => h) (fun _ h => h) (fun _ h => h) (fun h => absurd h (by decide)) (by decide) (fun h => absurd h (by decide)) (fun h => absurd h (by decide)) rfl⟩
          | 2, _ =>
            have e1 : v 36 = .agg #[.string b.name, .string b.attr] := hJ.f 1 (by decide) (ready_depN hrd rfl (e := ⟨1, .data⟩) (by simp) rfl)
            refine wpOp_step rfl (fun K' hK => ?_)
            simp only [setS, sL11, List.setIfInBounds_toArray, List.set_cons_succ, List.set_cons_zero]
            have HH := Lib.hid hK
            rw [e1]
            clear hK hrd
            go_simp
            refine HH.out _ _ ⟨updv v (sl11 2) (.slice (some ⟨w1.heap.size, 0, none⟩) 1 1), by simp [setS, sL11, sl11, updv, e1], hJ.step (by decide) (sl11_ne _ · (by decide)) (fun h => h.alloc HBS.out _) (fun j u _ _ h => h.alloc _) (fun _ h => World.ownsRow.alloc h _) (fun _ h => World.ownsRow.alloc h _) (fun h => absurd h (by decide)) (by decide) (fun h => absurd h (by decide)) (fun h => absurd h (by decide)) (TmpB.new 69 [.string b.name, .string b.attr] w1 hJ.inv.sz)⟩
          | 3, _ =>
            have e0 : v 35 = r1 := hJ.f 0 (by decide) (ready_depN hrd rfl (e := ⟨0, .data⟩) (by simp) rfl)
            obtain ⟨kk, e1, hkS, hkk⟩ : TmpB S 69 _ w1 (v 37) := hJ.f 2 (by decide) (ready_depN hrd rfl (e := ⟨2, .data⟩) (by simp) rfl)
            have hun2 : listed.getD 3 false = false := unl hJ.size (by decide) hun
            have hown := hJ.a hun2
            refine wpOp_step rfl (fun K' hK => ?_)
            have HH := Lib.hid hK
            clear hK hrd
            refine step_appY rfl (.tmp 35) (.tmp 37) 33 (by rfl) W0.heap.size 69 i1 _ 2 32 Tryd.underlying33 HI1.out HZ1.out HY1.out HX1.out rfl (by decide) r1 k _ (by simp [setS, sL11, Act.eval, e0]) hown ⟨kk, 0, none⟩ 1 1 (vcell (b.name, b.attr)) (by simp [setS, sL11, Act.eval, e1]) rfl (World.news_of_block hkk) (vcell_one _) (by unfold maxLen; omega) (by omega) (Nat.le_trans HBS.out hJ.inv.sz) ?_
            intro y w2 hO hg _
            clear e1
            refine HH.out _ _ ⟨updv v (sl11 3) y, by simp [Act.put, setS, sL11, sl11, updv], hJ.step (by decide) (sl11_ne _ · (by decide)) (fun h => h.grown HBS.out hown (by decide) (by decide) HNr1.out.1 HNr1.out.2.1 hg) (fun j u hj hM h => G11.appA hown HNr1.out.2.2 hg j u hj (Nat.lt_of_not_le fun hh => by have := (hM hh).1; rw [hun2] at this; cases this) h) (fun h => absurd rfl h) (fun _ h => own_otherB h hown (by decide) hg) (fun h => absurd h (by decide)) (by decide) (fun h => absurd h (by decide)) (fun h => absurd h (by decide)) hO⟩
          | 4, _ =>
            have em : v 7 = r2 := hJ.e2 (unl hJ.size (by decide) hun)
            refine wpOp_step rfl (fun K' hK => ?_)
            simp only [setS, sL11, List.setIfInBounds_toArray, List.set_cons_succ, List.set_cons_zero]
            have HH := Lib.hid hK
            rw [em]
            clear hK hrd
            go_simp
            refine HH.out _ _ ⟨updv v (sl11 4) r2, by simp [setS, sL11, sl11, updv, em], hJ.step (by decide) (sl11_ne _ · (by decide)) (fun h => h) (fun _ _ _ _ h => h) (fun _ h => h) (fun _ h => h) (fun h => absurd h (by decide)) (by decide) (fun h => absurd h (by decide)) (fun h => absurd h (by decide)) rfl⟩
          | 5, _ =>
            refine wpOp_step rfl (fun K' hK => ?_)
            simp only [setS, sL11, List.setIfInBounds_toArray, List.set_cons_succ, List.set_cons_zero]
            have HH := Lib.hid hK
            clear hK hrd
            go_simp
            refine HH.out _ _ ⟨updv v (sl11 5) (.pointer (some ⟨bx, 0, none⟩)), by simp [setS, sL11, sl11, updv], hJ.step (by decide) (sl11_ne _ · (by decide)) (fun h => h) (fun _ _ _ _ h => h) (fun _ h => h) (fun _ h => h) (fun h => absurd h (by decide)) (by decide) (fun h => absurd h (by decide)) (fun h => absurd h (by decide)) rfl⟩
          | 6, _ =>
            have e5 : v 40 = .pointer (some ⟨bx, 0, none⟩) := hJ.f 5 (by decide) (ready_depN hrd rfl (e := ⟨5, .data⟩) (by simp) rfl)
            obtain ⟨b0, b1⟩ := cells2_of hJ.inv.box
            refine wpOp_step rfl (fun K' hK => ?_)
            simp only [setS, sL11, List.setIfInBounds_toArray, List.set_cons_succ, List.set_cons_zero]
            have HH := Lib.hid hK
            rw [e5]
            clear hK hrd
            go_simp
            refine HH.out _ _ ⟨updv v (sl11 6) (.string b.name), by simp [setS, sL11, sl11, updv, e5], hJ.step (by decide) (sl11_ne _ · (by decide)) (fun h => h) (fun _ _ _ _ h => h) (fun _ h => h) (fun _ h => h) (fun h => absurd h (by decide)) (by decide) (fun h => absurd h (by decide)) (fun h => absurd h (by decide)) rfl⟩
          | 7, _ =>
            refine wpOp_step rfl (fun K' hK => ?_)
            simp only [setS, sL11, List.setIfInBounds_toArray, List.set_cons_succ, List.set_cons_zero]
            have HH := Lib.hid hK
            clear hK hrd
            go_simp
            refine HH.out _ _ ⟨updv v (sl11 7) (.pointer (some ⟨bx, 1, none⟩)), by simp [setS, sL11, sl11, updv], hJ.step (by decide) (sl11_ne _ · (by decide)) (fun h => h) (fun _ _ _ _ h => h) (fun _ h => h) (fun _ h => h) (fun h => absurd h (by decide)) (by decide) (fun h => absurd h (by decide)) (fun h => absurd h (by decide)) rfl⟩
          | 8, _ =>
            have e7 : v 42 = .pointer (some ⟨bx, 1, none⟩) := hJ.f 7 (by decide) (ready_depN hrd rfl (e := ⟨7, .data⟩) (by simp) rfl)
            obtain ⟨b0, b1⟩ := cells2_of hJ.inv.box
            refine wpOp_step rfl (fun K' hK => ?_)
            simp only [setS, sL11, List.setIfInBounds_toArray, List.set_cons_succ, List.set_cons_zero]
            have HH := Lib.hid hK
            rw [e7]
            clear hK hrd
            go_simp
            refine HH.out _ _ ⟨updv v (sl11 8) (.string b.attr), by simp [setS, sL11, sl11, updv, e7], hJ.step (by decide) (sl11_ne _ · (by decide)) (fun h => h) (fun _ _ _ _ h => h) (fun _ h => h) (fun _ h => h) (fun h => absurd h (by decide)) (by decide) (fun h => absurd h (by decide)) (fun h => absurd h (by decide)) rfl⟩
          | 9, _ =>
            have e6 : v 41 = .string b.name := hJ.f 6 (by decide) (ready_depN hrd rfl (e := ⟨6, .data⟩) (by simp) rfl)
            have e8 : v 43 = .string b.attr := hJ.f 8 (by decide) (ready_depN hrd rfl (e := ⟨8, .data⟩) (by simp) rfl)
            refine wpOp_step rfl (fun K' hK => ?_)
            simp only [setS, sL11, List.setIfInBounds_toArray, List.set_cons_succ, List.set_cons_zero]
            have HH := Lib.hid hK
            rw [e6, e8]
            clear hK hrd
            go_simp
            refine HH.out _ _ ⟨updv v (sl11 9) (.agg #[.string b.name, .string b.attr]), by simp [setS, sL11, sl11, updv, e6, e8], hJ.step (by decide) (sl11_ne _ · (by decide)) (fun h => h) (fun _ _ _ _ h => h) (fun _ h => h) (fun _ h => h) (fun h => absurd h (by decide)) (by decide) (fun h => absurd h (by decide)) (fun h => absurd h (by decide)) rfl⟩
          | 10, _ =>
            have e9 : v 44 = .agg #[.string b.name, .string b.attr] := hJ.f 9 (by decide) (ready_depN hrd rfl (e := ⟨9, .data⟩) (by simp) rfl)
            refine wpOp_step rfl (fun K' hK => ?_)
            simp only [setS, sL11, List.setIfInBounds_toArray, List.set_cons_succ, List.set_cons_zero]
            have HH := Lib.hid hK
            rw [e9]
            clear hK hrd
            go_simp
            refine HH.out _ _ ⟨updv v (sl11 10) (.slice (some ⟨w1.heap.size, 0, none⟩) 1 1), by simp [setS, sL11, sl11, updv, e9], hJ.step (by decide) (sl11_ne _ · (by decide)) (fun h => h.alloc HBS.out _) (fun j u _ _ h => h.alloc _) (fun _ h => World.ownsRow.alloc h _) (fun _ h => World.ownsRow.alloc h _) (fun h => absurd h (by decide)) (by decide) (fun h => absurd h (by decide)) (fun h => absurd h (by decide)) (TmpB.new 64 [.string b.name, .string b.attr] w1 hJ.inv.sz)⟩
          | 11, _ =>
            have e0 : v 39 = r2 := hJ.f 4 (by decide) (ready_depN hrd rfl (e := ⟨4, .data⟩) (by simp) rfl)
            obtain ⟨kk, e1, hkS, hkk⟩ : TmpB S 64 _ w1 (v 45) := hJ.f 10 (by decide) (ready_depN hrd rfl (e := ⟨10, .data⟩) (by simp) rfl)
            have hun2 : listed.getD 11 false = false := unl hJ.size (by decide) hun
            have hown := hJ.b hun2
            refine wpOp_step rfl (fun K' hK => ?_)
            have HH := Lib.hid hK
            clear hK hrd
            refine step_appY rfl (.tmp 39) (.tmp 45) 35 (by rfl) W0.heap.size 64 i2 _ 2 32 Tryd.underlying35 HI2.out HZ2.out HY2.out HX2.out rfl (by decide) r2 k _ (by simp [setS, sL11, Act.eval, e0]) hown ⟨kk, 0, none⟩ 1 1 (vcell (b.name, b.attr)) (by simp [setS, sL11, Act.eval, e1]) rfl (World.news_of_block hkk) (vcell_one _) (by unfold maxLen; omega) (by omega) (Nat.le_trans HBS.out hJ.inv.sz) ?_
            intro y w2 hO hg _
            clear e1
            refine HH.out _ _ ⟨updv v (sl11 11) y, by simp [Act.put, setS, sL11, sl11, updv], hJ.step (by decide) (sl11_ne _ · (by decide)) (fun h => h.grown HBS.out hown (by decide) (by decide) HNr2.out.1 HNr2.out.2.1 hg) (fun j u hj hM h => G11.appB hown HNr2.out.2.2 hg j u hj (Nat.lt_of_not_le fun hh => by have := (hM (by omega)).2 (by omega); rw [hun2] at this; cases this) h) (fun _ h => own_otherB h hown (by decide) hg) (fun h => absurd rfl h) (fun h => absurd h (by decide)) (by decide) (fun h => absurd h (by decide)) (fun h => absurd h (by decide)) hO⟩
          | 12, _ =>
            refine wpOp_step rfl (fun K' hK => ?_)
            simp only [setS, sL11, List.setIfInBounds_toArray, List.set_cons_succ, List.set_cons_zero]
            have HH := Lib.hid hK
            have hx := hJ.f 3 (by decide) (ready_depN hrd rfl (e := ⟨3, .data⟩) (by simp) rfl)
            have d1 := ready_depN hrd rfl (e := ⟨3, .phase⟩) (by simp) rfl
            have d3 := ready_depN hrd rfl (e := ⟨0, .phase⟩) (by simp) rfl
            clear hK hrd
            go_simp
            refine HH.out _ _ ⟨updv v (sl11 12) (v 38), by simp [setS, sL11, sl11, updv], hJ.step (by decide) (sl11_ne _ · (by decide)) (fun h => h) (fun _ _ _ _ h => h) (fun _ h => h) (fun _ h => h) (fun _ => ⟨d1, fun h => absurd h (by decide)⟩) (by decide) (fun _ => d3) (fun h => absurd h (by decide)) hx⟩
          | 13, _ =>
            refine wpOp_step rfl (fun K' hK => ?_)
            simp only [setS, sL11, List.setIfInBounds_toArray, List.set_cons_succ, List.set_cons_zero]
            have HH := Lib.hid hK
            have hx := hJ.f 11 (by decide) (ready_depN hrd rfl (e := ⟨11, .data⟩) (by simp) rfl)
            have d1 := ready_depN hrd rfl (e := ⟨3, .phase⟩) (by simp) rfl
            have d3 := ready_depN hrd rfl (e := ⟨4, .phase⟩) (by simp) rfl
            have d2 := ready_depN hrd rfl (e := ⟨11, .phase⟩) (by simp) rfl
            clear hK hrd
            go_simp
            refine HH.out _ _ ⟨updv v (sl11 13) (v 46), by simp [setS, sL11, sl11, updv], hJ.step (by decide) (sl11_ne _ · (by decide)) (fun h => h) (fun _ _ _ _ h => h) (fun _ h => h) (fun _ h => h) (fun _ => ⟨d1, fun _ => d2⟩) (by decide) (fun h => absurd h (by decide)) (fun _ => d3) hx⟩
          | _ + 14, h => exact absurd h (by omega)
        · intro listed w1 v hJ hr
          have hall := ready_allN (by kernel_rfl) hJ.size hr
          have ho1 := hJ.f 12 (by decide) (hall 12 (by decide))
          have ho2 := hJ.f 13 (by decide) (hall 13 (by decide))
          have hIn := hJ.inv
          clear hJ hr hall HI HA HB
          simp only [setS, sL11, List.setIfInBounds_toArray, List.set_cons_succ, List.set_cons_zero]
          have HA : Hid (w1.ownsRow W0.heap.size 130 4 r3 k (bcells (bnds g k))) := Lib.hid hIn.oc
          have HB : Hid (w1.ownsRow W0.heap.size 131 4 r4 k (bcells (bnds g k))) := Lib.hid hIn.od
          have q1 : w1.ownsRow W0.heap.size 69 2 (v 6) (k + 1) (vcells (vars7.take k) ++ vcell (b.name, b.attr)) := ho1
          have q2 : w1.ownsRow W0.heap.size 64 2 (v 7) (k + 1) (vcells (vars7.take k) ++ vcell (b.name, b.attr)) := ho2
          clear ho1 ho2
          generalize v 6 = s1 at q1 ⊢
          generalize v 7 = s2 at q2 ⊢
          have HI : Hid (IRw W0.heap.size S W0 bx mx (b.name, b.attr) (hi b.val) (lo b.val) 69 64 2 2 s1 s2 (k + 1) (vcells (vars7.take k) ++ vcell (b.name, b.attr)) (vcells (vars7.take k) ++ vcell (b.name, b.attr)) w1) := Lib.hid ⟨hIn.below, hIn.sz, hIn.box, hIn.val, q1, q2⟩
          clear hIn q1 q2 HNr1 HNr2
          go_upto_region 12 with fail
          refine wp_region_S sL12 (JR 20 18 8 17 0 9 r3 r4 sl12 (G12 W0.heap.size S r3 r4 k (bcells (bnds g k)) (bcells (bnds g k)) (b.name, b.attr) b bx) (IRw W0.heap.size S W0 bx mx (b.name, b.attr) (hi b.val) (lo b.val) 69 64 2 2 s1 s2 (k + 1) (vcells (vars7.take k) ++ vcell (b.name, b.attr)) (vcells (vars7.take k) ++ vcell (b.name, b.attr))) (fun u => u.ownsRow W0.heap.size 130 4 r3 k (bcells (bnds g k))) (fun u => u.ownsRow W0.heap.size 131 4 r4 k (bcells (bnds g k)))) (by kernel_rfl) ?_ ?_ ?_ ?_
          · simp [setS, sL12]
          · exact JR.begun HI.out.drew HA.out.drew HB.out.drew rfl rfl
          · clear HI HA HB
            intro listed w1 v i hJ hrd
            obtain ⟨hlt2, hun⟩ := ready_subN hrd
            have hlt3 : i < 20 := hlt2
            clear hlt2
            match i, hlt3 with
            | 0, _ =>
              have em : v 8 = r3 := hJ.e1 (unl hJ.size (by decide) hun)
              refine wpOp_step rfl (fun K' hK => ?_)
              simp only [setS, sL12, List.setIfInBounds_toArray, List.set_cons_succ, List.set_cons_zero]
              have HH := Lib.hid hK
              rw [em]
              clear hK hrd
              go_simp
              refine HH.out _ _ ⟨updv v (sl12 0) r3, by simp [setS, sL12, sl12, updv, em], hJ.step (by decide) (sl12_ne _ · (by decide)) (fun h => h) (fun _ _ _ _ h => h) (fun _ h => h) (fun _ h => h) (fun h => absurd h (by decide)) (by decide) (fun h => absurd h (by decide)) (fun h => absurd h (by decide)) rfl⟩
            | 1, _ =>
              refine wpOp_step rfl (fun K' hK => ?_)
              simp only [setS, sL12, List.setIfInBounds_toArray, List.set_cons_succ, List.set_cons_zero]
              have HH := Lib.hid hK
              clear hK hrd
              go_simp
              refine HH.out _ _ ⟨updv v (sl12 1) (.pointer (some ⟨bx, 0, none⟩)), by simp [setS, sL12, sl12, updv], hJ.step (by decide) (sl12_ne _ · (by decide)) (fun h => h) (fun _ _ _ _ h => h) (fun _ h => h) (fun _ h => h) (fun h => absurd h (by decide)) (by decide) (fun h => absurd h (by decide)) (fun h => absurd h (by decide)) rfl⟩
            | 2, _ =>
              have e1 : v 48 = .pointer (some ⟨bx, 0, none⟩) := hJ.f 1 (by decide) (ready_depN hrd rfl (e := ⟨1, .data⟩) (by simp) rfl)
              obtain ⟨b0, b1⟩ := cells2_of hJ.inv.box
              refine wpOp_step rfl (fun K' hK => ?_)
              simp only [setS, sL12, List.setIfInBounds_toArray, List.set_cons_succ, List.set_cons_zero]
              have HH := Lib.hid hK
              rw [e1]
              clear hK hrd
              go_simp
              refine HH.out _ _ ⟨updv v (sl12 2) (.string b.name), by simp [setS, sL12, sl12, updv, e1], hJ.step (by decide) (sl12_ne _ · (by decide)) (fun h => h) (fun _ _ _ _ h => h) (fun _ h => h) (fun _ h => h) (fun h => absurd h (by decide)) (by decide) (fun h => absurd h (by decide)) (fun h => absurd h (by decide)) rfl⟩
            | 3, _ =>
              refine wpOp_step rfl (fun K' hK => ?_)
              simp only [setS, sL12, List.setIfInBounds_toArray, List.set_cons_succ, List.set_cons_zero]
              have HH := Lib.hid hK
              clear hK hrd
              go_simp
              refine HH.out _ _ ⟨updv v (sl12 3) (.pointer (some ⟨bx, 1, none⟩)), by simp [setS, sL12, sl12, updv], hJ.step (by decide) (sl12_ne _ · (by decide)) (fun h => h) (fun _ _ _ _ h => h) (fun _ h => h) (fun _ h => h) (fun h => absurd h (by decide)) (by decide) (fun h => absurd h (by decide)) (fun h => absurd h (by decide)) rfl⟩
            | 4, _ =>
              have e3 : v 50 = .pointer (some ⟨bx, 1, none⟩) := hJ.f 3 (by decide) (ready_depN hrd rfl (e := ⟨3, .data⟩) (by simp) rfl)
              obtain ⟨b0, b1⟩ := cells2_of hJ.inv.box
              refine wpOp_step rfl (fun K' hK => ?_)
              simp only [setS, sL12, List.setIfInBounds_toArray, List.set_cons_succ, List.set_cons_zero]
              have HH := Lib.hid hK
              rw [e3]
              clear hK hrd
              go_simp
              refine HH.out _ _ ⟨updv v (sl12 4) (.string b.attr), by simp [setS, sL12, sl12, updv, e3], hJ.step (by decide) (sl12_ne _ · (by decide)) (fun h => h) (fun _ _ _ _ h => h) (fun _ h => h) (fun _ h => h) (fun h => absurd h (by decide)) (by decide) (fun h => absurd h (by decide)) (fun h => absurd h (by decide)) rfl⟩
            | 5, _ =>
              obtain ⟨b0, b1⟩ := cells2_of hJ.inv.val
              refine wpOp_step rfl (fun K' hK => ?_)
              simp only [setS, sL12, List.setIfInBounds_toArray, List.set_cons_succ, List.set_cons_zero]
              have HH := Lib.hid hK
              clear hK hrd
              go_simp
              refine HH.out _ _ ⟨updv v (sl12 5) (.agg #[.int .u64 (hi b.val), .int .u64 (lo b.val)]), by simp [setS, sL12, sl12, updv], hJ.step (by decide) (sl12_ne _ · (by decide)) (fun h => h) (fun _ _ _ _ h => h) (fun _ h => h) (fun _ h => h) (fun h => absurd h (by decide)) (by decide) (fun h => absurd h (by decide)) (fun h => absurd h (by decide)) rfl⟩
            | 6, _ =>
              have e2 : v 49 = .string b.name := hJ.f 2 (by decide) (ready_depN hrd rfl (e := ⟨2, .data⟩) (by simp) rfl)
              have e4 : v 51 = .string b.attr := hJ.f 4 (by decide) (ready_depN hrd rfl (e := ⟨4, .data⟩) (by simp) rfl)
              have e5 : v 52 = .agg #[.int .u64 (hi b.val), .int .u64 (lo b.val)] := hJ.f 5 (by decide) (ready_depN hrd rfl (e := ⟨5, .data⟩) (by simp) rfl)
              refine wpOp_step rfl (fun K' hK => ?_)
              simp only [setS, sL12, List.setIfInBounds_toArray, List.set_cons_succ, List.set_cons_zero]
              have HH := Lib.hid hK
              rw [e2, e4, e5]
              clear hK hrd
              go_simp
              refine HH.out _ _ ⟨updv v (sl12 6) (.agg #[.string b.name, .string b.attr, .int .u64 (hi b.val), .int .u64 (lo b.val)]), by simp [setS, sL12, sl12, updv, e2, e4, e5], hJ.step (by decide) (sl12_ne _ · (by decide)) (fun h => h) (fun _ _ _ _ h => h) (fun _ h => h) (fun _ h => h) (fun h => absurd h (by decide)) (by decide) (fun h => absurd h (by decide)) (fun h => absurd h (by decide)) rfl⟩
            | 7, _ =>
              have e6 : v 53 = .agg #[.string b.name, .string b.attr, .int .u64 (hi b.val), .int .u64 (lo b.val)] := hJ.f 6 (by decide) (ready_depN hrd rfl (e := ⟨6, .data⟩) (by simp) rfl)
              refine wpOp_step rfl (fun K' hK => ?_)
              simp only [setS, sL12, List.setIfInBounds_toArray, List.set_cons_succ, List.set_cons_zero]
              have HH := Lib.hid hK
              rw [e6]
              clear hK hrd
              go_simp
              refine HH.out _ _ ⟨updv v (sl12 7) (.slice (some ⟨w1.heap.size, 0, none⟩) 1 1), by simp [setS, sL12, sl12, updv, e6], hJ.step (by decide) (sl12_ne _ · (by decide)) (fun h => h.alloc HBS.out _) (fun j u _ _ h => h.alloc _) (fun _ h => World.ownsRow.alloc h _) (fun _ h => World.ownsRow.alloc h _) (fun h => absurd h (by decide)) (by decide) (fun h => absurd h (by decide)) (fun h => absurd h (by decide)) (TmpB.new 130 [.string b.name, .string b.attr, .int .u64 (hi b.val), .int .u64 (lo b.val)] w1 hJ.inv.sz)⟩
            | 8, _ =>
              have e0 : v 47 = r3 := hJ.f 0 (by decide) (ready_depN hrd rfl (e := ⟨0, .data⟩) (by simp) rfl)
              obtain ⟨kk, e1, hkS, hkk⟩ : TmpB S 130 _ w1 (v 54) := hJ.f 7 (by decide) (ready_depN hrd rfl (e := ⟨7, .data⟩) (by simp) rfl)
              have hun2 : listed.getD 8 false = false := unl hJ.size (by decide) hun
              have hown := hJ.a hun2
              refine wpOp_step rfl (fun K' hK => ?_)
              have HH := Lib.hid hK
              clear hK hrd
              refine step_appY rfl (.tmp 47) (.tmp 54) 91 (by rfl) W0.heap.size 130 i3 _ 4 48 Tryd.underlying91 HI3.out HZ3.out HY3.out HX3.out rfl (by decide) r3 k _ (by simp [setS, sL12, Act.eval, e0]) hown ⟨kk, 0, none⟩ 1 1 (bcell b) (by simp [setS, sL12, Act.eval, e1]) rfl (World.news_of_block hkk) (bcell_one _) (by unfold maxLen; omega) (by omega) (Nat.le_trans HBS.out hJ.inv.sz) ?_
              intro y w2 hO hg _
              clear e1
              refine HH.out _ _ ⟨updv v (sl12 8) y, by simp [Act.put, setS, sL12, sl12, updv], hJ.step (by decide) (sl12_ne _ · (by decide)) (fun h => h.grown HBS.out hown (by decide) (by decide) HNr3.out.1 HNr3.out.2.1 hg) (fun j u hj hM h => G12.appA hown HNr3.out.2.2 hg j u hj (Nat.lt_of_not_le fun hh => by have := (hM hh).1; rw [hun2] at this; cases this) h) (fun h => absurd rfl h) (fun _ h => own_otherB h hown (by decide) hg) (fun h => absurd h (by decide)) (by decide) (fun h => absurd h (by decide)) (fun h => absurd h (by decide)) hO⟩
            | 9, _ =>
              have em : v 9 = r4 := hJ.e2 (unl hJ.size (by decide) hun)
              refine wpOp_step rfl (fun K' hK => ?_)
              simp only [setS, sL12, List.setIfInBounds_toArray, List.set_cons_succ, List.set_cons_zero]
              have HH := Lib.hid hK
              rw [em]
              clear hK hrd
              go_simp
              refine HH.out _ _ ⟨updv v (sl12 9) r4, by simp [setS, sL12, sl12, updv, em], hJ.step (by decide) (sl12_ne _ · (by decide)) (fun h => h) (fun _ _ _ _ h => h) (fun _ h => h) (fun _ h => h) (fun h => absurd h (by decide)) (by decide) (fun h => absurd h (by decide)) (fun h => absurd h (by decide)) rfl⟩
            | 10, _ =>
              refine wpOp_step rfl (fun K' hK => ?_)
              simp only [setS, sL12, List.setIfInBounds_toArray, List.set_cons_succ, List.set_cons_zero]
              have HH := Lib.hid hK
              clear hK hrd
              go_simp
              refine HH.out _ _ ⟨updv v (sl12 10) (.pointer (some ⟨bx, 0, none⟩)), by simp [setS, sL12, sl12, updv], hJ.step (by decide) (sl12_ne _ · (by decide)) (fun h => h) (fun _ _ _ _ h => h) (fun _ h => h) (fun _ h => h) (fun h => absurd h (by decide)) (by decide) (fun h => absurd h (by decide)) (fun h => absurd h (by decide)) rfl⟩
            | 11, _ =>
              have e10 : v 57 = .pointer (some ⟨bx, 0, none⟩) := hJ.f 10 (by decide) (ready_depN hrd rfl (e := ⟨10, .data⟩) (by simp) rfl)
              obtain ⟨b0, b1⟩ := cells2_of hJ.inv.box
              refine wpOp_step rfl (fun K' hK => ?_)
              simp only [setS, sL12, List.setIfInBounds_toArray, List.set_cons_succ, List.set_cons_zero]
              have HH := Lib.hid hK
              rw [e10]
              clear hK hrd
              go_simp
              refine HH.out _ _ ⟨updv v (sl12 11) (.string b.name), by simp [setS, sL12, sl12, updv, e10], hJ.step (by decide) (sl12_ne _ · (by decide)) (fun h => h) (fun _ _ _ _ h => h) (fun _ h => h) (fun _ h => h) (fun h => absurd h (by decide)) (by decide) (fun h => absurd h (by decide)) (fun h => absurd h (by decide)) rfl⟩
            | 12, _ =>
              refine wpOp_step rfl (fun K' hK => ?_)
              simp only [setS, sL12, List.setIfInBounds_toArray, List.set_cons_succ, List.set_cons_zero]
              have HH := Lib.hid hK
              clear hK hrd
              go_simp
              refine HH.out _ _ ⟨updv v (sl12 12) (.pointer (some ⟨bx, 1, none⟩)), by simp [setS, sL12, sl12, updv], hJ.step (by decide) (sl12_ne _ · (by decide)) (fun h => h) (fun _ _ _ _ h => h) (fun _ h => h) (fun _ h => h) (fun h => absurd h (by decide)) (by decide) (fun h => absurd h (by decide)) (fun h => absurd h (by decide)) rfl⟩
            | 13, _ =>
              have e12 : v 59 = .pointer (some ⟨bx, 1, none⟩) := hJ.f 12 (by decide) (ready_depN hrd rfl (e := ⟨12, .data⟩) (by simp) rfl)
              obtain ⟨b0, b1⟩ := cells2_of hJ.inv.box
              refine wpOp_step rfl (fun K' hK => ?_)
              simp only [setS, sL12, List.setIfInBounds_toArray, List.set_cons_succ, List.set_cons_zero]
              have HH := Lib.hid hK
              rw [e12]
              clear hK hrd
              go_simp
              refine HH.out _ _ ⟨updv v (sl12 13) (.string b.attr), by simp [setS, sL12, sl12, updv, e12], hJ.step (by decide) (sl12_ne _ · (by decide)) (fun h => h) (fun _ _ _ _ h => h) (fun _ h => h) (fun _ h => h) (fun h => absurd h (by decide)) (by decide) (fun h => absurd h (by decide)) (fun h => absurd h (by decide)) rfl⟩
            | 14, _ =>
              obtain ⟨b0, b1⟩ := cells2_of hJ.inv.val
              refine wpOp_step rfl (fun K' hK => ?_)
              simp only [setS, sL12, List.setIfInBounds_toArray, List.set_cons_succ, List.set_cons_zero]
              have HH := Lib.hid hK
              clear hK hrd
              go_simp
              refine HH.out _ _ ⟨updv v (sl12 14) (.agg #[.int .u64 (hi b.val), .int .u64 (lo b.val)]), by simp [setS, sL12, sl12, updv], hJ.step (by decide) (sl12_ne _ · (by decide)) (fun h => h) (fun _ _ _ _ h => h) (fun _ h => h) (fun _ h => h) (fun h => absurd h (by decide)) (by decide) (fun h => absurd h (by decide)) (fun h => absurd h (by decide)) rfl⟩
            | 15, _ =>
              have e11 : v 58 = .string b.name := hJ.f 11 (by decide) (ready_depN hrd rfl (e := ⟨11, .data⟩) (by simp) rfl)
              have e13 : v 60 = .string b.attr := hJ.f 13 (by decide) (ready_depN hrd rfl (e := ⟨13, .data⟩) (by simp) rfl)
              have e14 : v 61 = .agg #[.int .u64 (hi b.val), .int .u64 (lo b.val)] := hJ.f 14 (by decide) (ready_depN hrd rfl (e := ⟨14, .data⟩) (by simp) rfl)
              refine wpOp_step rfl (fun K' hK => ?_)
              simp only [setS, sL12, List.setIfInBounds_toArray, List.set_cons_succ, List.set_cons_zero]
              have HH := Lib.hid hK
              rw [e11, e13, e14]
              clear hK hrd
              go_simp
              refine HH.out _ _ ⟨updv v (sl12 15) (.agg #[.string b.name, .string b.attr, .int .u64 (hi b.val), .int .u64 (lo b.val)]), by simp [setS, sL12, sl12, updv, e11, e13, e14], hJ.step (by decide) (sl12_ne _ · (by decide)) (fun h => h) (fun _ _ _ _ h => h) (fun _ h => h) (fun _ h => h) (fun h => absurd h (by decide)) (by decide) (fun h => absurd h (by decide)) (fun h => absurd h (by decide)) rfl⟩
            | 16, _ =>
              have e15 : v 62 = .agg #[.string b.name, .string b.attr, .int .u64 (hi b.val), .int .u64 (lo b.val)] := hJ.f 15 (by decide) (ready_depN hrd rfl (e := ⟨15, .data⟩) (by simp) rfl)
              refine wpOp_step rfl (fun K' hK => ?_)
              simp only [setS, sL12, List.setIfInBounds_toArray, List.set_cons_succ, List.set_cons_zero]
              have HH := Lib.hid hK
              rw [e15]
              clear hK hrd
              go_simp
              refine HH.out _ _ ⟨updv v (sl12 16) (.slice (some ⟨w1.heap.size, 0, none⟩) 1 1), by simp [setS, sL12, sl12, updv, e15], hJ.step (by decide) (sl12_ne _ · (by decide)) (fun h => h.alloc HBS.out _) (fun j u _ _ h => h.alloc _) (fun _ h => World.ownsRow.alloc h _) (fun _ h => World.ownsRow.alloc h _) (fun h => absurd h (by decide)) (by decide) (fun h => absurd h (by decide)) (fun h => absurd h (by decide)) (TmpB.new 131 [.string b.name, .string b.attr, .int .u64 (hi b.val), .int .u64 (lo b.val)] w1 hJ.inv.sz)⟩
            | 17, _ =>
              have e0 : v 56 = r4 := hJ.f 9 (by decide) (ready_depN hrd rfl (e := ⟨9, .data⟩) (by simp) rfl)
              obtain ⟨kk, e1, hkS, hkk⟩ : TmpB S 131 _ w1 (v 63) := hJ.f 16 (by decide) (ready_depN hrd rfl (e := ⟨16, .data⟩) (by simp) rfl)
              have hun2 : listed.getD 17 false = false := unl hJ.size (by decide) hun
              have hown := hJ.b hun2
              refine wpOp_step rfl (fun K' hK => ?_)
              have HH := Lib.hid hK
              clear hK hrd
              refine step_appY rfl (.tmp 56) (.tmp 63) 92 (by rfl) W0.heap.size 131 i4 _ 4 48 Tryd.underlying92 HI4.out HZ4.out HY4.out HX4.out rfl (by decide) r4 k _ (by simp [setS, sL12, Act.eval, e0]) hown ⟨kk, 0, none⟩ 1 1 (bcell b) (by simp [setS, sL12, Act.eval, e1]) rfl (World.news_of_block hkk) (bcell_one _) (by unfold maxLen; omega) (by omega) (Nat.le_trans HBS.out hJ.inv.sz) ?_
              intro y w2 hO hg _
              clear e1
              refine HH.out _ _ ⟨updv v (sl12 17) y, by simp [Act.put, setS, sL12, sl12, updv], hJ.step (by decide) (sl12_ne _ · (by decide)) (fun h => h.grown HBS.out hown (by decide) (by decide) HNr4.out.1 HNr4.out.2.1 hg) (fun j u hj hM h => G12.appB hown HNr4.out.2.2 hg j u hj (Nat.lt_of_not_le fun hh => by have := (hM (by omega)).2 (by omega); rw [hun2] at this; cases this) h) (fun _ h => own_otherB h hown (by decide) hg) (fun h => absurd rfl h) (fun h => absurd h (by decide)) (by decide) (fun h => absurd h (by decide)) (fun h => absurd h (by decide)) hO⟩
            | 18, _ =>
              refine wpOp_step rfl (fun K' hK => ?_)
              simp only [setS, sL12, List.setIfInBounds_toArray, List.set_cons_succ, List.set_cons_zero]
              have HH := Lib.hid hK
              have hx := hJ.f 8 (by decide) (ready_depN hrd rfl (e := ⟨8, .data⟩) (by simp) rfl)
              have d1 := ready_depN hrd rfl (e := ⟨8, .phase⟩) (by simp) rfl
              have d3 := ready_depN hrd rfl (e := ⟨0, .phase⟩) (by simp) rfl
              clear hK hrd
              go_simp
              refine HH.out _ _ ⟨updv v (sl12 18) (v 55), by simp [setS, sL12, sl12, updv], hJ.step (by decide) (sl12_ne _ · (by decide)) (fun h => h) (fun _ _ _ _ h => h) (fun _ h => h) (fun _ h => h) (fun _ => ⟨d1, fun h => absurd h (by decide)⟩) (by decide) (fun _ => d3) (fun h => absurd h (by decide)) hx⟩
            | 19, _ =>
              refine wpOp_step rfl (fun K' hK => ?_)
              simp only [setS, sL12, List.setIfInBounds_toArray, List.set_cons_succ, List.set_cons_zero]
              have HH := Lib.hid hK
              have hx := hJ.f 17 (by decide) (ready_depN hrd rfl (e := ⟨17, .data⟩) (by simp) rfl)
              have d1 := ready_depN hrd rfl (e := ⟨8, .phase⟩) (by simp) rfl
              have d3 := ready_depN hrd rfl (e := ⟨9, .phase⟩) (by simp) rfl
              have d2 := ready_depN hrd rfl (e := ⟨17, .phase⟩) (by simp) rfl
              clear hK hrd
              go_simp
              refine HH.out _ _ ⟨updv v (sl12 19) (v 64), by simp [setS, sL12, sl12, updv], hJ.step (by decide) (sl12_ne _ · (by decide)) (fun h => h) (fun _ _ _ _ h => h) (fun _ h => h) (fun _ h => h) (fun _ => ⟨d1, fun _ => d2⟩) (by decide) (fun h => absurd h (by decide)) (fun _ => d3) hx⟩
            | _ + 20, h => exact absurd h (by omega)
          · intro listed w1 v hJ hr
            have hall := ready_allN (by kernel_rfl) hJ.size hr
            have ho1 := hJ.f 18 (by decide) (hall 18 (by decide))
            have ho2 := hJ.f 19 (by decide) (hall 19 (by decide))
            have hIn := hJ.inv
            clear hJ hr hall HI HA HB
            simp only [setS, sL12, List.setIfInBounds_toArray, List.set_cons_succ, List.set_cons_zero]
            have q3 : w1.ownsRow W0.heap.size 130 4 (v 8) (k + 1) (bcells (bnds g k) ++ bcell b) := ho1
            have q4 : w1.ownsRow W0.heap.size 131 4 (v 9) (k + 1) (bcells (bnds g k) ++ bcell b) := ho2
            clear ho1 ho2
            generalize v 8 = s3 at q3 ⊢
            generalize v 9 = s4 at q4 ⊢
            have HQ3 := Lib.hid q3
            have HQ4 := Lib.hid q4
            have HIN := Lib.hid hIn
            clear q3 q4 hIn
            go_wp2_with fail
            go_roundw
            case rel =>
              go_light
              refine ⟨k + 1, _, _, _, _, by omega, by simp, rfl, rfl, rfl, rfl, ⟨HIN.out.below, ?_, ?_, ?_, ?_⟩⟩
              · rw [vars7_snoc hlt, vcells_snoc, HV8.out]; exact HIN.out.oc
              · rw [vars7_snoc hlt, vcells_snoc, HV8.out]; exact HIN.out.od
              · rw [bnds_succ, bcells_snoc, ← HB7.out]; exact HQ3.out
              · rw [bnds_succ, bcells_snoc, ← HB7.out]; exact HQ4.out
            case measure => simp [intOf]; omega
    · obtain rfl : k = 7 := by omega
      have hkI : ¬ ((7 : Nat) : Int) < 7 := by omega
      obtain ⟨A1, c1, rfl⟩ := own_shapeV HR.out.o1
      obtain ⟨A2, c2, rfl⟩ := own_shapeV HR.out.o2
      obtain ⟨A3, c3, rfl⟩ := own_shapeV HR.out.o3
      obtain ⟨A4, c4, rfl⟩ := own_shapeV HR.out.o4
      go_wp2_with fail
      have hR := HR.out
      refine bodyPost_ret (v := .tuple #[.slice A1 7 c1, .slice A2 7 c2, .slice A3 7 c3, .slice A4 7 c4]) (by simp [results, Tryd.results28, go_sem]) rfl ?_
      exact ⟨A1, c1, A2, c2, A3, c3, A4, c4, rfl, own_le hR.o1, own_le hR.o2, own_le hR.o3, own_le hR.o4, varR_own hR.o1 rfl, varR_own hR.o2 rfl, biR_own hR.o3 (bnds_len g 7), biR_own hR.o4 (bnds_len g 7), HBW.out.trans (hR.below.mono (by have := HSZ0.out; omega))⟩
end
end Go.Proofs.YtodmkmoglchoeaaDoor
