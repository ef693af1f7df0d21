/- matchguardref01.And, Or, Xor: what they return. -/
import Derived.Test.YtmlocfojmncghaaJBits
import Derived.Deep.DeepCutAuto
namespace Go.Proofs.Ytmlocfojmncghaa
open Go.RowKit

/-- Two arrays of bits have been made, in blocks x and y. -/
structure TwoAt (w : World) (f g : Nat → Bool) (x y : Nat) (w' : World) : Prop where
  below : Below w.heap.size w w'
  nx : w.heap.size + 3 ≤ x
  ny : w.heap.size + 3 ≤ y
  ne : x ≠ y
  arrx : BitsAt w' x f
  arry : BitsAt w' y g
  r0 : w'.cell? ⟨w.heap.size + 2, 0, none⟩ = some (.int .u64 0)
  r1 : w'.cell? ⟨w.heap.size + 2, 1, none⟩ = some (.int .u64 0)
  q0 : w'.frozen? ⟨w.heap.size + 2, 0, none⟩ = false
  q1 : w'.frozen? ⟨w.heap.size + 2, 1, none⟩ = false
theorem keep2 {W0 W : World} {p q : Nat} {x0 x1 y0 y1 : Value} (hp : p < W0.heap.size) (hq : q < W0.heap.size) (c0 : W0.cell? ⟨p, 0, none⟩ = some x0) (c1 : W0.cell? ⟨p, 1, none⟩ = some x1) (c2 : W0.cell? ⟨q, 0, none⟩ = some y0) (c3 : W0.cell? ⟨q, 1, none⟩ = some y1) (hb : Below W0.heap.size W0 W) :
    Below W0.heap.size W0 W ∧ W.cell? ⟨p, 0, none⟩ = some x0 ∧ W.cell? ⟨p, 1, none⟩ = some x1 ∧ W.cell? ⟨q, 0, none⟩ = some y0 ∧ W.cell? ⟨q, 1, none⟩ = some y1 :=
  ⟨hb, by rw [hb.cell (p := ⟨_, _, none⟩) hp]; exact c0, by rw [hb.cell (p := ⟨_, _, none⟩) hp]; exact c1, by rw [hb.cell (p := ⟨_, _, none⟩) hq]; exact c2, by rw [hb.cell (p := ⟨_, _, none⟩) hq]; exact c3⟩
theorem belowCall {W0 W W' : World} {R : Prop} (hx : Below W.heap.size W W') (h : Below W0.heap.size W0 W ∧ R) : Below W0.heap.size W0 W' := h.1.trans (hx.mono h.1.size)
theorem belowAlloc {W0 W : World} {R : Prop} (h : Below W0.heap.size W0 W ∧ R) (o : Obj) : Below W0.heap.size W0 (W.alloc o) := h.1.alloc h.1.size _
theorem sz_alloc (W : World) (o : Obj) : (W.alloc o).heap.size = W.heap.size + 1 := by simp
theorem twoDone {w W0 W : World} {f g : Nat → Bool} {x y : Nat} {R : Prop} (bl : Below w.heap.size w W0) (sz : W0.heap.size = w.heap.size + 3) (t5 : W.there x 0 128) (t6 : W.there y 0 128) (n5 : W0.heap.size ≤ x) (n6 : W0.heap.size ≤ y) (ne : x ≠ y)
    (h : Below W0.heap.size W0 ((W.setCells x 0 (bitsL f)).setCells y 0 (bitsL g)) ∧ R) (r0 : W0.cell? ⟨w.heap.size + 2, 0, none⟩ = some (.int .u64 0)) (r1 : W0.cell? ⟨w.heap.size + 2, 1, none⟩ = some (.int .u64 0))
    (q0 : W0.frozen? ⟨w.heap.size + 2, 0, none⟩ = false) (q1 : W0.frozen? ⟨w.heap.size + 2, 1, none⟩ = false) : TwoAt w f g x y ((W.setCells x 0 (bitsL f)).setCells y 0 (bitsL g)) where
  below := bl.trans (h.1.mono bl.size)
  nx := by omega
  ny := by omega
  ne := ne
  arrx := (BitsAt.stored t5 f).farAll (fun e => ne e.symm) 0 _
  arry := BitsAt.stored (World.there_setCells t6 x 0 _) g
  r0 := by rw [h.1.cell (p := ⟨_, _, none⟩) (by show w.heap.size + 2 < _; omega)]; exact r0
  r1 := by rw [h.1.cell (p := ⟨_, _, none⟩) (by show w.heap.size + 2 < _; omega)]; exact r1
  q0 := by rw [h.1.frozen (p := ⟨_, _, none⟩) (by show w.heap.size + 2 < _; omega)]; exact q0
  q1 := by rw [h.1.frozen (p := ⟨_, _, none⟩) (by show w.heap.size + 2 < _; omega)]; exact q1
theorem TwoAt.put {w : World} {f f' g : Nat → Bool} {x y : Nat} {W : World} (h : TwoAt w f g x y W) (k : Nat) (hk : k < 128) (v : Bool) (hg : ∀ i, i < 128 → f' i = if i = k then v else f i) : TwoAt w f' g x y (W.setCell ⟨x, k, none⟩ (.bool v)) where
  below := h.below.setCell (by have := h.nx; simp; omega) _
  nx := h.nx
  ny := h.ny
  ne := h.ne
  arrx := h.arrx.put k hk v hg
  arry := h.arry.far _ h.ne _
  r0 := by rw [World.cell?_setCell_far _ _ _ _ (by have := h.nx; simp; omega)]; exact h.r0
  r1 := by rw [World.cell?_setCell_far _ _ _ _ (by have := h.nx; simp; omega)]; exact h.r1
  q0 := by rw [World.frozen?_setCell]; exact h.q0
  q1 := by rw [World.frozen?_setCell]; exact h.q1
theorem TwoAt.congr {w : World} {f f' g : Nat → Bool} {x y : Nat} {W : World} (h : TwoAt w f g x y W) (hf : ∀ i, i < 128 → f i = f' i) : TwoAt w f' g x y W :=
  { h with arrx := h.arrx.congr hf }
theorem TwoAt.drew {w : World} {f g : Nat → Bool} {x y : Nat} {W : World} (h : TwoAt w f g x y W) : TwoAt w f g x y W.drew :=
  ⟨h.below.drew, h.nx, h.ny, h.ne, h.arrx.drew, h.arry.drew, h.r0, h.r1, h.q0, h.q1⟩
set_option maxRecDepth 100000 in
theorem step_if (f : Nat → Bool) (h : Nat → Bool) (k i : Nat) : (if i < k + 1 then h i else f i) = if i = k then h k else (if i < k then h i else f i) := by
  by_cases e : i = k
  · subst e; simp
  · rw [if_neg e]
    by_cases h' : i < k
    · rw [if_pos h', if_pos (by omega)]
    · rw [if_neg h', if_neg (by omega)]
set_option maxRecDepth 100000 in
theorem TwoAt.below_size {w : World} {f g : Nat → Bool} {x y : Nat} {W : World} (h : TwoAt w f g x y W) : w.heap.size + 3 ≤ W.heap.size := by
  have h1 := h.nx
  have h2 := World.block_lt_of_cell? W _ (h.arrx.cell 0 (by decide))
  simp at h2
  omega
/-- What And has in its first array at bit i. -/
def randBit (a b i : Nat) : Bool := a.testBit i && b.testBit i
set_option maxRecDepth 100000 in
theorem rand_of (a b : Nat) (_ha : a < 2 ^ 128) (hb : b < 2 ^ 128) : ofBits (fun i => if i < 128 then randBit a b i else a.testBit i) = a &&& b := by
  refine ofBits_eq (Nat.and_lt_two_pow _ hb) fun i hi => ?_
  rw [if_pos hi, Nat.testBit_and, randBit]
set_option maxRecDepth 100000 in
set_option maxHeartbeats 4000000 in
theorem rand_any (a b : Nat) (ha : a < 2 ^ 128) (hb : b < 2 ^ 128) (w : World) :
    Calls Try.prog 60 #[.agg #[.int .u64 (hi a), .int .u64 (lo a)], .agg #[.int .u64 (hi b), .int .u64 (lo b)]] w (RetV (a &&& b) w) := by
  have HO := Lib.hid (rand_of a b ha hb)
  clear ha hb
  go_enter Try.func60, Try.ntmps60
  go_upto_region 1 with fail
  have c0 : (((w.alloc (.cells #[.int .u64 (hi a), .int .u64 (lo a)] 29)).alloc (.cells #[.int .u64 (hi b), .int .u64 (lo b)] 29)).alloc (.cells #[.int .u64 0, .int .u64 0] 29)).cell? ⟨w.heap.size, 0, none⟩ = some (.int .u64 (hi a)) := by simp [go_sem]
  have c1 : (((w.alloc (.cells #[.int .u64 (hi a), .int .u64 (lo a)] 29)).alloc (.cells #[.int .u64 (hi b), .int .u64 (lo b)] 29)).alloc (.cells #[.int .u64 0, .int .u64 0] 29)).cell? ⟨w.heap.size, 1, none⟩ = some (.int .u64 (lo a)) := by simp [go_sem]
  have c2 : (((w.alloc (.cells #[.int .u64 (hi a), .int .u64 (lo a)] 29)).alloc (.cells #[.int .u64 (hi b), .int .u64 (lo b)] 29)).alloc (.cells #[.int .u64 0, .int .u64 0] 29)).cell? ⟨w.heap.size + 1, 0, none⟩ = some (.int .u64 (hi b)) := by simp [go_sem]
  have c3 : (((w.alloc (.cells #[.int .u64 (hi a), .int .u64 (lo a)] 29)).alloc (.cells #[.int .u64 (hi b), .int .u64 (lo b)] 29)).alloc (.cells #[.int .u64 0, .int .u64 0] 29)).cell? ⟨w.heap.size + 1, 1, none⟩ = some (.int .u64 (lo b)) := by simp [go_sem]
  have r0 : (((w.alloc (.cells #[.int .u64 (hi a), .int .u64 (lo a)] 29)).alloc (.cells #[.int .u64 (hi b), .int .u64 (lo b)] 29)).alloc (.cells #[.int .u64 0, .int .u64 0] 29)).cell? ⟨w.heap.size + 2, 0, none⟩ = some (.int .u64 0) := by simp [go_sem]
  have r1 : (((w.alloc (.cells #[.int .u64 (hi a), .int .u64 (lo a)] 29)).alloc (.cells #[.int .u64 (hi b), .int .u64 (lo b)] 29)).alloc (.cells #[.int .u64 0, .int .u64 0] 29)).cell? ⟨w.heap.size + 2, 1, none⟩ = some (.int .u64 0) := by simp [go_sem]
  have q0 : (((w.alloc (.cells #[.int .u64 (hi a), .int .u64 (lo a)] 29)).alloc (.cells #[.int .u64 (hi b), .int .u64 (lo b)] 29)).alloc (.cells #[.int .u64 0, .int .u64 0] 29)).frozen? ⟨w.heap.size + 2, 0, none⟩ = false := by simp [go_sem]
  have q1 : (((w.alloc (.cells #[.int .u64 (hi a), .int .u64 (lo a)] 29)).alloc (.cells #[.int .u64 (hi b), .int .u64 (lo b)] 29)).alloc (.cells #[.int .u64 0, .int .u64 0] 29)).frozen? ⟨w.heap.size + 2, 1, none⟩ = false := by simp [go_sem]
  have sz : (((w.alloc (.cells #[.int .u64 (hi a), .int .u64 (lo a)] 29)).alloc (.cells #[.int .u64 (hi b), .int .u64 (lo b)] 29)).alloc (.cells #[.int .u64 0, .int .u64 0] 29)).heap.size = w.heap.size + 3 := by simp
  have bl : Below w.heap.size w (((w.alloc (.cells #[.int .u64 (hi a), .int .u64 (lo a)] 29)).alloc (.cells #[.int .u64 (hi b), .int .u64 (lo b)] 29)).alloc (.cells #[.int .u64 0, .int .u64 0] 29)) := (((Below.refl _ _).alloc (by simp) _).alloc (by simp) _).alloc (by simp; omega) _
  generalize hW : (((w.alloc (.cells #[.int .u64 (hi a), .int .u64 (lo a)] 29)).alloc (.cells #[.int .u64 (hi b), .int .u64 (lo b)] 29)).alloc (.cells #[.int .u64 0, .int .u64 0] 29)) = W0 at c0 c1 c2 c3 r0 r1 q0 q1 sz bl ⊢
  clear hW
  have SZ := Lib.hid sz
  have R0 := Lib.hid r0
  have R1 := Lib.hid r1
  have Q0 := Lib.hid q0
  have Q1 := Lib.hid q1
  have hp : w.heap.size < W0.heap.size := by omega
  have hq : w.heap.size + 1 < W0.heap.size := by omega
  clear sz r0 r1 q0 q1
  go_cut [5, 6] (fun x y wx => ∃ bx b', x = .pointer (some ⟨bx, 0, none⟩) ∧ y = .pointer (some ⟨b', 0, none⟩) ∧ TwoAt w a.testBit b.testBit bx b' wx)
  case first =>
    have hinfo := info_bits
    have hlen := bitsL_len
    have o1 := bitsL_one a.testBit
    have o2 := bitsL_one b.testBit
    have hset : ∀ (W : World) (x y : Nat) (vs : List Value), W.there x 0 128 → (W.setCells y 0 vs).there x 0 128 := fun W x y vs h => World.there_setCells h y 0 vs
    have hnew : ∀ W : World, (W.alloc (.cells (bitsA fun _ => false) 141)).there W.heap.size 0 128 := fun W => (BitsAt.new W _ _).there
    have hal : ∀ (W : World) (x : Nat) (o : Obj), W.there x 0 128 → (W.alloc o).there x 0 128 := fun W x o h => there_below ((Below.refl _ _).alloc (Nat.le_refl _) _) h
    have hnew1 : ∀ (W : World) (o : Obj), ((W.alloc (.cells (bitsA fun _ => false) 141)).alloc o).there W.heap.size 0 128 := fun W o => hal _ _ _ (hnew W)
    have hnew2 : ∀ (W : World) (o : Obj), ((W.alloc o).alloc (.cells (bitsA fun _ => false) 141)).there (W.heap.size + 1) 0 128 := fun W o => by have := hnew (W.alloc o); rwa [sz_alloc] at this
    have hal2 : ∀ (W : World) (x : Nat) (o o' : Obj), W.there x 0 128 → ((W.alloc o).alloc o').there x 0 128 := fun W x o o' h => hal _ _ _ (hal _ _ _ h)
    have hsal : ∀ (W : World) (x y : Nat) (o : Obj) (vs : List Value), W.there x 0 128 → ((W.alloc o).setCells y 0 vs).there x 0 128 := fun W x y o vs h => hset _ _ _ _ (hal _ _ _ h)
    have hsnew : ∀ (W : World) (y : Nat) (vs : List Value), ((W.alloc (.cells (bitsA fun _ => false) 141)).setCells y 0 vs).there W.heap.size 0 128 := fun W y vs => hset _ _ _ _ (hnew W)
    have hsnew1 : ∀ (W : World) (y : Nat) (o : Obj) (vs : List Value), (((W.alloc (.cells (bitsA fun _ => false) 141)).alloc o).setCells y 0 vs).there W.heap.size 0 128 := fun W y o vs => hset _ _ _ _ (hnew1 W o)
    have hsnew2 : ∀ (W : World) (y : Nat) (o : Obj) (vs : List Value), (((W.alloc o).alloc (.cells (bitsA fun _ => false) 141)).setCells y 0 vs).there (W.heap.size + 1) 0 128 := fun W y o vs => hset _ _ _ _ (hnew2 W o)
    go_region_held3 (fun w' => Below W0.heap.size W0 w' ∧ w'.cell? ⟨w.heap.size, 0, none⟩ = some (.int .u64 (hi a)) ∧ w'.cell? ⟨w.heap.size, 1, none⟩ = some (.int .u64 (lo a)) ∧
        w'.cell? ⟨w.heap.size + 1, 0, none⟩ = some (.int .u64 (hi b)) ∧ w'.cell? ⟨w.heap.size + 1, 1, none⟩ = some (.int .u64 (lo b)))
      (first
        | exact keep2 hp hq c0 c1 c2 c3 (Below.drew (Below.refl _ _))
        | exact keep2 hp hq c0 c1 c2 c3 (belowCall (by assumption) (by assumption))
        | exact keep2 hp hq c0 c1 c2 c3 (belowAlloc (by assumption) _)
        | exact keep2 hp hq c0 c1 c2 c3 (Below.setCells (And.left (by assumption)) (by first | assumption | omega) _ _))
      (first
        | (go_at_call 70; (have _zz := tb1); refine (read_any _ _).mono ?_; rintro e w2 ⟨rfl, hx2⟩; have tb2 := fun x => there_below (b := x) (n := 128) hx2; have sz2 := hx2.size; (try simp only [sz_alloc] at sz2); (try have p20 : w2.there W0.heap.size 0 128 := tb2 _ (by first | exact p10 | exact hal _ _ _ p10 | exact hal _ _ _ (hal _ _ _ p10))); (try have p21 : w2.there (W0.heap.size + 1) 0 128 := tb2 _ p11); (try have p22 : w2.there w1.heap.size 0 128 := tb2 _ (by first | exact hnew _ | exact hnew1 _ _)); (try have p23 : w2.there (w1.heap.size + 1) 0 128 := tb2 _ (hnew2 _ _)))
        | (go_at_call 70; refine (read_any _ _).mono ?_; rintro e w1 ⟨rfl, hx1⟩; have tb1 := fun x => there_below (b := x) (n := 128) hx1; have sz1 := hx1.size; (try simp only [sz_alloc, drew_size] at sz1); (try have p10 : w1.there W0.heap.size 0 128 := tb1 _ (by first | exact hnew _ | exact hnew1 _ _)); (try have p11 : w1.there (W0.heap.size + 1) 0 128 := tb1 _ (hnew2 _ _))))
    all_goals go_wp2_with fail
    all_goals go_meet
    all_goals exact ⟨_, _, rfl, rfl, twoDone bl SZ.out (by first | assumption | exact hnew _ | exact hnew1 _ _ | exact hnew2 _ _ | (refine hal _ _ _ ?_; assumption) | (refine hal2 _ _ _ _ ?_; assumption)) (by first | assumption | exact hnew _ | exact hnew1 _ _ | exact hnew2 _ _ | (refine hal _ _ _ ?_; assumption) | (refine hal2 _ _ _ _ ?_; assumption)) (by omega) (by omega) (by omega) (by assumption) R0.out R1.out Q0.out Q1.out⟩
  case rest =>
    obtain ⟨x, y, rfl, rfl, hT⟩ := hcut
    clear c0 c1 c2 c3 bl SZ R0 R1 Q0 Q1 hp hq
    go_wp2
    go_loopw [12] (fun i w' => ∃ k : Nat, k ≤ 128 ∧ i = .int .i64 k ∧ TwoAt w (fun i => if i < k then randBit a b i else a.testBit i) b.testBit x y w') (fun i _ => 128 - (intOf i).toNat)
    case atStart => exact ⟨0, by omega, rfl, hT.congr fun i _ => by simp⟩
    case round =>
      obtain ⟨k, hk, rfl, hR⟩ := hrel
      clear hT
      by_cases hlt : (k : Int) < 128
      · have i0 : wr.cell? ⟨x, k, none⟩ = some _ := hR.arrx.cell k (by omega)
        have j0 : wr.cell? ⟨y, k, none⟩ = some _ := hR.arry.cell k (by omega)
        have f0 : wr.frozen? ⟨x, k, none⟩ = false := hR.arrx.froz k (by omega)
        have hs := fun i (_ : i < 128) => step_if a.testBit (randBit a b) k i
        have Hs := Lib.hid hs
        clear hs
        rw [if_neg (by omega)] at i0
        have HB : Hid (randBit a b k = (a.testBit k && b.testBit k)) := Lib.hid rfl
        generalize hu : a.testBit k = u at i0 HB
        generalize hv : b.testBit k = v at j0 HB
        clear hu hv
        cases u <;> cases v
        all_goals
          go_wp2
          skip
          skip
          go_roundw
        all_goals go_light
        all_goals try (case measure => simp [intOf]; omega)
        all_goals refine ⟨k + 1, by omega, by simp, ?_⟩
        all_goals exact hR.put k (by omega) _ (fun i hi => by have := Hs.out i hi; rw [HB.out] at this; exact this)
      · have e : k = 128 := by omega
        subst e
        have r0 := hR.r0
        have r1 := hR.r1
        have q0 := hR.q0
        have q1 := hR.q1
        have nx := hR.nx
        go_wp2_with (first | refine wpList_load_bits rfl rfl rfl hR.arrx ?_ | (go_at_call 71; refine (make_any _ _).mono ?_; rintro e w2 ⟨rfl, hx⟩; obtain ⟨hc, hf, hz⟩ := after (w.heap.size + 3) hx hR.below_size hR.below_size))
        go_light
        rw [HO.out]
        refine bodyPost_ret (v := .agg #[.int .u64 (hi (a &&& b)), .int .u64 (lo (a &&& b))]) (by simp [results, Try.results60, go_sem, hc, r0, r1]) rfl ⟨rfl, ?_⟩
        exact Below.setCell (Below.setCell (hR.below.trans (hx.mono hR.below.size)) (by simp; omega) _) (by simp; omega) _
/-- What Or has in its first array at bit i. -/
def rorBit (a b i : Nat) : Bool := a.testBit i || b.testBit i
set_option maxRecDepth 100000 in
theorem ror_of (a b : Nat) (_ha : a < 2 ^ 128) (hb : b < 2 ^ 128) : ofBits (fun i => if i < 128 then rorBit a b i else a.testBit i) = a ||| b := by
  refine ofBits_eq (Nat.or_lt_two_pow _ha hb) fun i hi => ?_
  rw [if_pos hi, Nat.testBit_or, rorBit]
/-- What Xor has in its first array at bit i. -/
def rxorBit (a b i : Nat) : Bool := a.testBit i ^^ b.testBit i
set_option maxRecDepth 100000 in
theorem rxor_of (a b : Nat) (_ha : a < 2 ^ 128) (hb : b < 2 ^ 128) : ofBits (fun i => if i < 128 then rxorBit a b i else a.testBit i) = a ^^^ b := by
  refine ofBits_eq (Nat.xor_lt_two_pow _ha hb) fun i hi => ?_
  rw [if_pos hi, Nat.testBit_xor, rxorBit]
set_option maxRecDepth 100000 in
set_option maxHeartbeats 4000000 in
theorem rxor_any (a b : Nat) (ha : a < 2 ^ 128) (hb : b < 2 ^ 128) (w : World) :
    Calls Try.prog 33 #[.agg #[.int .u64 (hi a), .int .u64 (lo a)], .agg #[.int .u64 (hi b), .int .u64 (lo b)]] w (RetV (a ^^^ b) w) := by
  have HO := Lib.hid (rxor_of a b ha hb)
  clear ha hb
  go_enter Try.func33, Try.ntmps33
  go_upto_region 1 with fail
  have c0 : (((w.alloc (.cells #[.int .u64 (hi a), .int .u64 (lo a)] 29)).alloc (.cells #[.int .u64 (hi b), .int .u64 (lo b)] 29)).alloc (.cells #[.int .u64 0, .int .u64 0] 29)).cell? ⟨w.heap.size, 0, none⟩ = some (.int .u64 (hi a)) := by simp [go_sem]
  have c1 : (((w.alloc (.cells #[.int .u64 (hi a), .int .u64 (lo a)] 29)).alloc (.cells #[.int .u64 (hi b), .int .u64 (lo b)] 29)).alloc (.cells #[.int .u64 0, .int .u64 0] 29)).cell? ⟨w.heap.size, 1, none⟩ = some (.int .u64 (lo a)) := by simp [go_sem]
  have c2 : (((w.alloc (.cells #[.int .u64 (hi a), .int .u64 (lo a)] 29)).alloc (.cells #[.int .u64 (hi b), .int .u64 (lo b)] 29)).alloc (.cells #[.int .u64 0, .int .u64 0] 29)).cell? ⟨w.heap.size + 1, 0, none⟩ = some (.int .u64 (hi b)) := by simp [go_sem]
  have c3 : (((w.alloc (.cells #[.int .u64 (hi a), .int .u64 (lo a)] 29)).alloc (.cells #[.int .u64 (hi b), .int .u64 (lo b)] 29)).alloc (.cells #[.int .u64 0, .int .u64 0] 29)).cell? ⟨w.heap.size + 1, 1, none⟩ = some (.int .u64 (lo b)) := by simp [go_sem]
  have r0 : (((w.alloc (.cells #[.int .u64 (hi a), .int .u64 (lo a)] 29)).alloc (.cells #[.int .u64 (hi b), .int .u64 (lo b)] 29)).alloc (.cells #[.int .u64 0, .int .u64 0] 29)).cell? ⟨w.heap.size + 2, 0, none⟩ = some (.int .u64 0) := by simp [go_sem]
  have r1 : (((w.alloc (.cells #[.int .u64 (hi a), .int .u64 (lo a)] 29)).alloc (.cells #[.int .u64 (hi b), .int .u64 (lo b)] 29)).alloc (.cells #[.int .u64 0, .int .u64 0] 29)).cell? ⟨w.heap.size + 2, 1, none⟩ = some (.int .u64 0) := by simp [go_sem]
  have q0 : (((w.alloc (.cells #[.int .u64 (hi a), .int .u64 (lo a)] 29)).alloc (.cells #[.int .u64 (hi b), .int .u64 (lo b)] 29)).alloc (.cells #[.int .u64 0, .int .u64 0] 29)).frozen? ⟨w.heap.size + 2, 0, none⟩ = false := by simp [go_sem]
  have q1 : (((w.alloc (.cells #[.int .u64 (hi a), .int .u64 (lo a)] 29)).alloc (.cells #[.int .u64 (hi b), .int .u64 (lo b)] 29)).alloc (.cells #[.int .u64 0, .int .u64 0] 29)).frozen? ⟨w.heap.size + 2, 1, none⟩ = false := by simp [go_sem]
  have sz : (((w.alloc (.cells #[.int .u64 (hi a), .int .u64 (lo a)] 29)).alloc (.cells #[.int .u64 (hi b), .int .u64 (lo b)] 29)).alloc (.cells #[.int .u64 0, .int .u64 0] 29)).heap.size = w.heap.size + 3 := by simp
  have bl : Below w.heap.size w (((w.alloc (.cells #[.int .u64 (hi a), .int .u64 (lo a)] 29)).alloc (.cells #[.int .u64 (hi b), .int .u64 (lo b)] 29)).alloc (.cells #[.int .u64 0, .int .u64 0] 29)) := (((Below.refl _ _).alloc (by simp) _).alloc (by simp) _).alloc (by simp; omega) _
  generalize hW : (((w.alloc (.cells #[.int .u64 (hi a), .int .u64 (lo a)] 29)).alloc (.cells #[.int .u64 (hi b), .int .u64 (lo b)] 29)).alloc (.cells #[.int .u64 0, .int .u64 0] 29)) = W0 at c0 c1 c2 c3 r0 r1 q0 q1 sz bl ⊢
  clear hW
  have SZ := Lib.hid sz
  have R0 := Lib.hid r0
  have R1 := Lib.hid r1
  have Q0 := Lib.hid q0
  have Q1 := Lib.hid q1
  have hp : w.heap.size < W0.heap.size := by omega
  have hq : w.heap.size + 1 < W0.heap.size := by omega
  clear sz r0 r1 q0 q1
  go_cut [5, 6] (fun x y wx => ∃ bx b', x = .pointer (some ⟨bx, 0, none⟩) ∧ y = .pointer (some ⟨b', 0, none⟩) ∧ TwoAt w a.testBit b.testBit bx b' wx)
  case first =>
    have hinfo := info_bits
    have hlen := bitsL_len
    have o1 := bitsL_one a.testBit
    have o2 := bitsL_one b.testBit
    have hset : ∀ (W : World) (x y : Nat) (vs : List Value), W.there x 0 128 → (W.setCells y 0 vs).there x 0 128 := fun W x y vs h => World.there_setCells h y 0 vs
    have hnew : ∀ W : World, (W.alloc (.cells (bitsA fun _ => false) 141)).there W.heap.size 0 128 := fun W => (BitsAt.new W _ _).there
    have hal : ∀ (W : World) (x : Nat) (o : Obj), W.there x 0 128 → (W.alloc o).there x 0 128 := fun W x o h => there_below ((Below.refl _ _).alloc (Nat.le_refl _) _) h
    have hnew1 : ∀ (W : World) (o : Obj), ((W.alloc (.cells (bitsA fun _ => false) 141)).alloc o).there W.heap.size 0 128 := fun W o => hal _ _ _ (hnew W)
    have hnew2 : ∀ (W : World) (o : Obj), ((W.alloc o).alloc (.cells (bitsA fun _ => false) 141)).there (W.heap.size + 1) 0 128 := fun W o => by have := hnew (W.alloc o); rwa [sz_alloc] at this
    have hal2 : ∀ (W : World) (x : Nat) (o o' : Obj), W.there x 0 128 → ((W.alloc o).alloc o').there x 0 128 := fun W x o o' h => hal _ _ _ (hal _ _ _ h)
    have hsal : ∀ (W : World) (x y : Nat) (o : Obj) (vs : List Value), W.there x 0 128 → ((W.alloc o).setCells y 0 vs).there x 0 128 := fun W x y o vs h => hset _ _ _ _ (hal _ _ _ h)
    have hsnew : ∀ (W : World) (y : Nat) (vs : List Value), ((W.alloc (.cells (bitsA fun _ => false) 141)).setCells y 0 vs).there W.heap.size 0 128 := fun W y vs => hset _ _ _ _ (hnew W)
    have hsnew1 : ∀ (W : World) (y : Nat) (o : Obj) (vs : List Value), (((W.alloc (.cells (bitsA fun _ => false) 141)).alloc o).setCells y 0 vs).there W.heap.size 0 128 := fun W y o vs => hset _ _ _ _ (hnew1 W o)
    have hsnew2 : ∀ (W : World) (y : Nat) (o : Obj) (vs : List Value), (((W.alloc o).alloc (.cells (bitsA fun _ => false) 141)).setCells y 0 vs).there (W.heap.size + 1) 0 128 := fun W y o vs => hset _ _ _ _ (hnew2 W o)
    go_region_held3 (fun w' => Below W0.heap.size W0 w' ∧ w'.cell? ⟨w.heap.size, 0, none⟩ = some (.int .u64 (hi a)) ∧ w'.cell? ⟨w.heap.size, 1, none⟩ = some (.int .u64 (lo a)) ∧
        w'.cell? ⟨w.heap.size + 1, 0, none⟩ = some (.int .u64 (hi b)) ∧ w'.cell? ⟨w.heap.size + 1, 1, none⟩ = some (.int .u64 (lo b)))
      (first
        | exact keep2 hp hq c0 c1 c2 c3 (Below.drew (Below.refl _ _))
        | exact keep2 hp hq c0 c1 c2 c3 (belowCall (by assumption) (by assumption))
        | exact keep2 hp hq c0 c1 c2 c3 (belowAlloc (by assumption) _)
        | exact keep2 hp hq c0 c1 c2 c3 (Below.setCells (And.left (by assumption)) (by first | assumption | omega) _ _))
      (first
        | (go_at_call 70; (have _zz := tb1); refine (read_any _ _).mono ?_; rintro e w2 ⟨rfl, hx2⟩; have tb2 := fun x => there_below (b := x) (n := 128) hx2; have sz2 := hx2.size; (try simp only [sz_alloc] at sz2); (try have p20 : w2.there W0.heap.size 0 128 := tb2 _ (by first | exact p10 | exact hal _ _ _ p10 | exact hal _ _ _ (hal _ _ _ p10))); (try have p21 : w2.there (W0.heap.size + 1) 0 128 := tb2 _ p11); (try have p22 : w2.there w1.heap.size 0 128 := tb2 _ (by first | exact hnew _ | exact hnew1 _ _)); (try have p23 : w2.there (w1.heap.size + 1) 0 128 := tb2 _ (hnew2 _ _)))
        | (go_at_call 70; refine (read_any _ _).mono ?_; rintro e w1 ⟨rfl, hx1⟩; have tb1 := fun x => there_below (b := x) (n := 128) hx1; have sz1 := hx1.size; (try simp only [sz_alloc, drew_size] at sz1); (try have p10 : w1.there W0.heap.size 0 128 := tb1 _ (by first | exact hnew _ | exact hnew1 _ _)); (try have p11 : w1.there (W0.heap.size + 1) 0 128 := tb1 _ (hnew2 _ _))))
    all_goals go_wp2_with fail
    all_goals go_meet
    all_goals exact ⟨_, _, rfl, rfl, twoDone bl SZ.out (by first | assumption | exact hnew _ | exact hnew1 _ _ | exact hnew2 _ _ | (refine hal _ _ _ ?_; assumption) | (refine hal2 _ _ _ _ ?_; assumption)) (by first | assumption | exact hnew _ | exact hnew1 _ _ | exact hnew2 _ _ | (refine hal _ _ _ ?_; assumption) | (refine hal2 _ _ _ _ ?_; assumption)) (by omega) (by omega) (by omega) (by assumption) R0.out R1.out Q0.out Q1.out⟩
  case rest =>
    obtain ⟨x, y, rfl, rfl, hT⟩ := hcut
    clear c0 c1 c2 c3 bl SZ R0 R1 Q0 Q1 hp hq
    go_wp2
    go_loopw [12] (fun i w' => ∃ k : Nat, k ≤ 128 ∧ i = .int .i64 k ∧ TwoAt w (fun i => if i < k then rxorBit a b i else a.testBit i) b.testBit x y w') (fun i _ => 128 - (intOf i).toNat)
    case atStart => exact ⟨0, by omega, rfl, hT.congr fun i _ => by simp⟩
    case round =>
      obtain ⟨k, hk, rfl, hR⟩ := hrel
      clear hT
      by_cases hlt : (k : Int) < 128
      · have i0 : wr.cell? ⟨x, k, none⟩ = some _ := hR.arrx.cell k (by omega)
        have j0 : wr.cell? ⟨y, k, none⟩ = some _ := hR.arry.cell k (by omega)
        have f0 : wr.frozen? ⟨x, k, none⟩ = false := hR.arrx.froz k (by omega)
        have hs := fun i (_ : i < 128) => step_if a.testBit (rxorBit a b) k i
        have Hs := Lib.hid hs
        clear hs
        rw [if_neg (by omega)] at i0
        have HB : Hid (rxorBit a b k = (a.testBit k ^^ b.testBit k)) := Lib.hid rfl
        generalize hu : a.testBit k = u at i0 HB
        generalize hv : b.testBit k = v at j0 HB
        clear hu hv
        cases u <;> cases v
        all_goals
          go_wp2
          go_region
          go_wp2
          go_roundw
        all_goals go_light
        all_goals try (case measure => simp [intOf]; omega)
        all_goals refine ⟨k + 1, by omega, by simp, ?_⟩
        all_goals exact TwoAt.drew (hR.put k (by omega) _ (fun i hi => by have := Hs.out i hi; rw [HB.out] at this; exact this))
      · have e : k = 128 := by omega
        subst e
        have r0 := hR.r0
        have r1 := hR.r1
        have q0 := hR.q0
        have q1 := hR.q1
        have nx := hR.nx
        go_wp2_with (first | refine wpList_load_bits rfl rfl rfl hR.arrx ?_ | (go_at_call 71; refine (make_any _ _).mono ?_; rintro e w2 ⟨rfl, hx⟩; obtain ⟨hc, hf, hz⟩ := after (w.heap.size + 3) hx hR.below_size hR.below_size))
        go_light
        rw [HO.out]
        refine bodyPost_ret (v := .agg #[.int .u64 (hi (a ^^^ b)), .int .u64 (lo (a ^^^ b))]) (by simp [results, Try.results33, go_sem, hc, r0, r1]) rfl ⟨rfl, ?_⟩
        exact Below.setCell (Below.setCell (hR.below.trans (hx.mono hR.below.size)) (by simp; omega) _) (by simp; omega) _
end Go.Proofs.Ytmlocfojmncghaa
