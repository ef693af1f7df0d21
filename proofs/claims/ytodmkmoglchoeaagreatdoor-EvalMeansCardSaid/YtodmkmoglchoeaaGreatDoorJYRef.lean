/- Contracts, joined: YRef, YRef2, YRef3, YRef4, YRef5, YRef6, YRef7, YRef8. -/
import Derived.Test.YtodmkmoglchoeaaGreatDoorJYProg
import Derived.Test.YtodmkmoglchoeaaGreatDoorJSums
import Derived.StillTailTactics
namespace Go.Proofs.YtodmkmoglchoeaaGreatDoor
/- The reference's parser in memory; see, take, node. -/
section
open Go.RowKit

/-- the reference's parser in memory -/
structure RAt (B b len cap : Nat) (A : Option Addr) (l : List Tok) (p : PS) (w : World) : Prop where
  hB : B ≤ b
  lt : b < w.heap.size
  tok : TokB w B A l
  hl : l.length = len
  hc : len ≤ cap
  c0 : w.cell? ⟨b, 0, none⟩ = some (.slice A len cap)
  c1 : w.cell? ⟨b, 1, none⟩ = some (.int .i64 p.at_)
  cb : w.cell? ⟨b, 2, none⟩ = some (.bool p.bad)
  c2 : ∃ A2 cap2, w.cell? ⟨b, 3, none⟩ = some (.slice A2 p.out.length cap2) ∧ w.ownsRow B 131 7 (.slice A2 p.out.length cap2) p.out.length (ncells p.out) ∧ (Value.slice A2 p.out.length cap2).ownBlock ≠ some b
  fr : ∀ i, w.frozen? ⟨b, i, none⟩ = false
theorem RAt.call {B b len cap : Nat} {A : Option Addr} {l : List Tok} {p : PS} {w w' : World} (h : RAt B b len cap A l p w) (hb : Below w.heap.size w w') : RAt B b len cap A l p w' := by
  obtain ⟨A2, cap2, c2, ho, hn⟩ := h.c2
  have hlt := h.lt
  refine ⟨h.hB, Nat.lt_of_lt_of_le h.lt hb.size, h.tok.below (hb.mono (by have := h.hB; omega)), h.hl, h.hc, ?_, ?_, ?_, ⟨A2, cap2, ?_, own_below2 ho hb, hn⟩, fun i => ?_⟩
  · rw [hb.cell (p := ⟨b, 0, none⟩) hlt]; exact h.c0
  · rw [hb.cell (p := ⟨b, 1, none⟩) hlt]; exact h.c1
  · rw [hb.cell (p := ⟨b, 2, none⟩) hlt]; exact h.cb
  · rw [hb.cell (p := ⟨b, 3, none⟩) hlt]; exact c2
  · rw [hb.frozen (p := ⟨b, i, none⟩) hlt]; exact h.fr i
theorem RAt.alloc {B b len cap : Nat} {A : Option Addr} {l : List Tok} {p : PS} {w : World} (h : RAt B b len cap A l p w) (o : Obj) : RAt B b len cap A l p (w.alloc o) := h.call ((Below.refl _ _).alloc (Nat.le_refl _) o)
theorem RAt.drew {B b len cap : Nat} {A : Option Addr} {l : List Tok} {p : PS} {w : World} (h : RAt B b len cap A l p w) : RAt B b len cap A l p w.drew := h.call (Below.refl _ _).drew
theorem RAt.base {B b len cap : Nat} {A : Option Addr} {l : List Tok} {p : PS} {w : World} (h : RAt B b len cap A l p w) : B ≤ w.heap.size := by have := h.hB; have := h.lt; omega
/-- the place set -/
theorem RAt.setAt {B b len cap : Nat} {A : Option Addr} {l : List Tok} {p : PS} {w : World} (h : RAt B b len cap A l p w) (k : Nat) : RAt B b len cap A l ⟨k, p.bad, p.out⟩ (w.setCell ⟨b, 1, none⟩ (.int .i64 k)) := by
  obtain ⟨A2, cap2, c2, ho, hn⟩ := h.c2
  have hb := (Below.refl b w).setCell (p := ⟨b, 1, none⟩) (Nat.le_refl _) (.int .i64 k)
  refine ⟨h.hB, by rw [World.size_setCell]; exact h.lt, h.tok.below (hb.mono h.hB), h.hl, h.hc, ?_, ?_, ?_, ⟨A2, cap2, ?_, own_setY ho hn, hn⟩, fun i => ?_⟩
  · rw [World.cell?_setCell_other _ _ _ _ (by intro e; injection e with _ e; omega)]; exact h.c0
  · rw [World.cell?_setCell_same' _ _ _ (by rw [h.c1]; rfl)]
  · rw [World.cell?_setCell_other _ _ _ _ (by intro e; injection e with _ e; omega)]; exact h.cb
  · rw [World.cell?_setCell_other _ _ _ _ (by intro e; injection e with _ e; omega)]; exact c2
  · rw [set_froz]; exact h.fr i
/-- marked as bad -/
theorem RAt.setBad {B b len cap : Nat} {A : Option Addr} {l : List Tok} {p : PS} {w : World} (h : RAt B b len cap A l p w) : RAt B b len cap A l p.fai (w.setCell ⟨b, 2, none⟩ (.bool true)) := by
  obtain ⟨A2, cap2, c2, ho, hn⟩ := h.c2
  have hb := (Below.refl b w).setCell (p := ⟨b, 2, none⟩) (Nat.le_refl _) (.bool true)
  refine ⟨h.hB, by rw [World.size_setCell]; exact h.lt, h.tok.below (hb.mono h.hB), h.hl, h.hc, ?_, ?_, ?_, ⟨A2, cap2, ?_, own_setY ho hn, hn⟩, fun i => ?_⟩
  · rw [World.cell?_setCell_other _ _ _ _ (by intro e; injection e with _ e; omega)]; exact h.c0
  · rw [World.cell?_setCell_other _ _ _ _ (by intro e; injection e with _ e; omega)]; exact h.c1
  · rw [World.cell?_setCell_same' _ _ _ (by rw [h.cb]; rfl)]; rfl
  · rw [World.cell?_setCell_other _ _ _ _ (by intro e; injection e with _ e; omega)]; exact c2
  · rw [set_froz]; exact h.fr i
theorem adv_ofR {B b len cap : Nat} {A : Option Addr} {l : List Tok} {p : PS} {w : World} (h : RAt B b len cap A l p w) : RAt B b len cap A l p.adv (w.setCell ⟨b, 1, none⟩ (.int .i64 ((p.at_ : Int) + 1))) := by
  have := h.setAt (p.at_ + 1)
  rwa [Int.natCast_add] at this
def RetR (B b len cap : Nat) (A : Option Addr) (l : List Tok) (v : Value) (q : PS) (w : World) (e : Ending) (w' : World) : Prop := e = .returned v ∧ RAt B b len cap A l q w' ∧ Kp B b 131 w w'
theorem RAt.tokCells {B b len cap : Nat} {A : Option Addr} {l : List Tok} {p : PS} {w : World} (h : RAt B b len cap A l p w) (hlt : p.at_ < l.length) : ∃ g, A = some ⟨g, 0, none⟩ ∧ g < B ∧ w.cell? ⟨g, p.at_ * 3, none⟩ = some (.int .i64 (tokAt l p.at_).kind) ∧ w.cell? ⟨g, p.at_ * 3 + 1, none⟩ = some (.string (tokAt l p.at_).text) ∧ w.cell? ⟨g, p.at_ * 3 + 2, none⟩ = some (.int .i64 (tokAt l p.at_).at_) := by
  obtain ⟨g, h1, h2, h3⟩ := h.tok.r.resolve_left (fun e => by rw [e] at hlt; simp at hlt)
  rw [tokAt_lt hlt]
  exact ⟨g, h1, h2, h3 _ hlt⟩
set_option maxRecDepth 100000 in
set_option maxHeartbeats 4000000 in
theorem rp_see {B b len cap : Nat} {A : Option Addr} {l : List Tok} {p : PS} {w : World} (h : RAt B b len cap A l p w) (x : ByteArray) :
    Calls Tryz.prog 145 #[.pointer (some ⟨b, 0, none⟩), .string x] w (RetX (.bool (see l p x)) w) := by
  have c0 := h.c0
  have c1 := h.c1
  have cb := h.cb
  have hl := h.hl
  have hcap := h.hc
  obtain ⟨sv, hsv⟩ : ∃ s, s = see l p x := ⟨_, rfl⟩
  rw [← hsv]
  obtain ⟨bd, hbd⟩ : ∃ x, x = p.bad := ⟨_, rfl⟩
  rw [← hbd] at cb
  have hbad := hbd.symm
  clear hbd
  cases bd
  · have hs := see_tok l p hbad x
    rw [← hsv] at hs
    obtain ⟨a, ha⟩ : ∃ a, a = p.at_ := ⟨_, rfl⟩
    rw [← ha] at c1
    by_cases hlt : a < len
    · have hltI : (a : Int) < (len : Int) := by omega
      obtain ⟨g, hg, hgB, t0, t1, t2⟩ := h.tokCells (by rw [← ha]; omega)
      subst hg
      rw [← ha] at t0 t1 t2 hs
      obtain ⟨tk, hk⟩ : ∃ t : Nat, t = (tokAt l a).kind := ⟨_, rfl⟩
      obtain ⟨tx, hx⟩ : ∃ t, t = (tokAt l a).text := ⟨_, rfl⟩
      rw [← hk] at t0 hs
      rw [← hx] at t1 hs
      have HS := Lib.hid hs
      clear hs hk hx ha t2 hl hsv hbad h
      by_cases h3 : tk = 3
      · subst h3
        have he := bs_eq tx x
        by_cases hx : tx = x
        · rw [decide_eq_true hx] at he
          obtain rfl : sv = true := by rw [HS.out, decide_eq_true hx]; rfl
          clear hx
          go_enter Tryz.func145, Tryz.ntmps145
          go_wp2
          go_quiet (fail)
          go_wp2
          go_ret
          exact ⟨rfl, below_drewN (Below.refl _ _) _⟩
        · rw [decide_eq_false hx] at he
          obtain rfl : sv = false := by rw [HS.out, decide_eq_false hx]; rfl
          clear hx
          go_enter Tryz.func145, Tryz.ntmps145
          go_wp2
          go_quiet (fail)
          go_wp2
          go_ret
          exact ⟨rfl, below_drewN (Below.refl _ _) _⟩
      · have h3I : ((tk : Int) == 3) = false := by rw [beq_eq_false_iff_ne]; omega
        have h3J : ¬ (tk : Int) = 3 := by omega
        obtain rfl : sv = false := by rw [HS.out, decide_eq_false h3]; rfl
        go_enter Tryz.func145, Tryz.ntmps145
        go_wp2
        go_quiet (fail)
        go_wp2
        go_ret
        exact ⟨rfl, below_drewN (Below.refl _ _) _⟩
    · have hltI : ¬ (a : Int) < (len : Int) := by omega
      obtain rfl : sv = false := by rw [hs, tokAt_ge (by rw [← ha]; omega)]; rfl
      clear hs ha hl hsv hbad h
      go_enter Tryz.func145, Tryz.ntmps145
      go_wp2
      go_quiet (fail)
      go_wp2
      go_ret
      exact ⟨rfl, below_drewN (Below.refl _ _) _⟩
  · obtain rfl : sv = false := by rw [hsv]; exact see_bad hbad x
    clear hsv hbad hl h
    go_enter Tryz.func145, Tryz.ntmps145
    go_wp2
    go_quiet (fail)
    go_wp2
    go_ret
    exact ⟨rfl, below_drewN (Below.refl _ _) _⟩
set_option maxRecDepth 100000 in
set_option maxHeartbeats 4000000 in
theorem rp_take {B b len cap : Nat} {A : Option Addr} {l : List Tok} {p : PS} {w : World} (h : RAt B b len cap A l p w) (hat : p.at_ ≤ 100000) (x : ByteArray) :
    Calls Tryz.prog 124 #[.pointer (some ⟨b, 0, none⟩), .string x] w (RetR B b len cap A l (.bool (see l p x)) (if see l p x = true then p.adv else p) w) := by
  have KP := Lib.hid (rp_see h x)
  obtain ⟨a, ha⟩ : ∃ a, a = p.at_ := ⟨_, rfl⟩
  obtain ⟨sv, hsv⟩ : ∃ s, s = see l p x := ⟨_, rfl⟩
  obtain ⟨q, hq⟩ : ∃ q, q = (if see l p x = true then p.adv else p) := ⟨_, rfl⟩
  rw [← hq, ← hsv]
  rw [← hsv] at KP hq
  have HQ := Lib.hid hq
  clear hq
  have hwr : IntKind.i64.wrap ((a : Int) + 1) = (a : Int) + 1 := IntWalk.i64_in _ (by omega)
  have H := Lib.hid h
  have HA := Lib.hid ha
  clear h ha hsv hat
  go_enter Tryz.func124, Tryz.ntmps124
  go_wp2_with fail
  go_at_call 145
  refine KP.out.mono ?_
  rintro e w1 ⟨rfl, hb1⟩
  have H1 := Lib.hid (H.out.call hb1)
  have HK : Hid (Kp B b 131 w w1) := Lib.hid (Kp.of hb1 H.out.base)
  clear hb1 KP
  cases sv
  · go_wp2_with fail
    go_ret
    exact ⟨rfl, by rw [HQ.out, if_neg (by decide)]; exact H1.out, HK.out⟩
  · have c1 := H1.out.c1
    rw [← HA.out] at c1
    have f1 := H1.out.fr 1
    go_wp2_with fail
    go_ret
    refine ⟨rfl, ?_, HK.out.set H1.out.hB _ _⟩
    have := adv_ofR H1.out
    rw [← HA.out] at this
    rw [HQ.out]
    simpa using this
/-- a node added -/
theorem RAt.app {B b len cap : Nat} {A : Option Addr} {l : List Tok} {p : PS} {W w' : World} {v : Value} {A2 : Option Addr} {cap2 : Nat} (h : RAt B b len cap A l p W) (n : Nd) (hv : W.cell? ⟨b, 3, none⟩ = some v)
    (hO : w'.ownsRow B 131 7 (.slice A2 (p.out.length + 1) cap2) (p.out.length + 1) (ncells p.out ++ ncell n)) (hg : W.grownBy w' v.ownBlock) :
    RAt B b len cap A l (p.nod n).2 (w'.setCell ⟨b, 3, none⟩ (.slice A2 (p.out.length + 1 : Nat) cap2)) ∧ Kp B b 131 W (w'.setCell ⟨b, 3, none⟩ (.slice A2 (p.out.length + 1 : Nat) cap2)) ∧ w'.cell? ⟨b, 3, none⟩ = some v ∧ w'.frozen? ⟨b, 3, none⟩ = false := by
  obtain ⟨A1, cap1, c2, ho, hn⟩ := h.c2
  obtain rfl : v = .slice A1 p.out.length cap1 := by rw [hv] at c2; injection c2
  have hlt := h.lt
  have hne : ¬ some b = (Value.slice A1 p.out.length cap1).ownBlock := fun e => hn e.symm
  have hkeep := hg.block b hlt hne
  have hBW : B ≤ W.heap.size := h.base
  have hn2 : (Value.slice A2 (p.out.length + 1) cap2).ownBlock ≠ some b := by
    intro e
    obtain ⟨g, c, hv2, hge, hl2⟩ := hO.form (by omega)
    injection hv2 with e1 e2 e3
    subst e1
    have eg : g = b := by simpa [Value.ownBlock] using e
    subst eg
    have h0 := hO.cellAt 0 (by omega)
    have h1 : w'.cell? ⟨g, 0, none⟩ = some (.slice A len cap) := by rw [World.cell?_of_block (w := W) (a := ⟨g, 0, none⟩) hkeep]; exact h.c0
    rw [h0] at h1
    cases ho : p.out with
    | nil => rw [ho] at h1; simp [ncells, ncell] at h1
    | cons x r => rw [ho] at h1; simp [ncells, ncell] at h1
  have hbel : Below B W w' := (Below.refl _ W).grown hg hBW (fun k hk => own_block_ge ho hk)
  have hnl : (p.nod n).2.out.length = p.out.length + 1 := by show (p.out ++ [n]).length = _; rw [List.length_append]; rfl
  refine ⟨⟨h.hB, by rw [World.size_setCell]; exact Nat.lt_of_lt_of_le hlt hg.size, (h.tok.below hbel).below ((Below.refl b w').setCell (p := ⟨b, 3, none⟩) (Nat.le_refl _) _ |>.mono h.hB), h.hl, h.hc, ?_, ?_, ?_, ⟨A2, cap2, ?_, ?_, ?_⟩, fun i => ?_⟩, ⟨hbel.setCell (p := ⟨b, 3, none⟩) h.hB _, ((Lib.OthersKept.refl _ _ W).grown hg (fun k hk => own_kindY ho k hk)).setCell ⟨b, 3, none⟩ rfl _⟩, ?_, ?_⟩
  · rw [World.cell?_setCell_other _ _ _ _ (by intro e; injection e with _ e; omega), World.cell?_of_block (w := W) (a := ⟨b, 0, none⟩) hkeep]; exact h.c0
  · rw [World.cell?_setCell_other _ _ _ _ (by intro e; injection e with _ e; omega), World.cell?_of_block (w := W) (a := ⟨b, 1, none⟩) hkeep]; exact h.c1
  · rw [World.cell?_setCell_other _ _ _ _ (by intro e; injection e with _ e; omega), World.cell?_of_block (w := W) (a := ⟨b, 2, none⟩) hkeep]; exact h.cb
  · rw [World.cell?_setCell_same' _ _ _ (by rw [World.cell?_of_block (w := W) (a := ⟨b, 3, none⟩) hkeep, c2]; rfl), hnl]
  · rw [hnl]
    show World.ownsRow _ _ _ _ _ _ (ncells (p.out ++ [n]))
    rw [ncells_snoc]
    exact own_setY hO hn2
  · rw [hnl]; exact hn2
  · rw [set_froz, World.frozen?_of_block (w := W) (a := ⟨b, i, none⟩) hkeep]; exact h.fr i
  · rw [World.cell?_of_block (w := W) (a := ⟨b, 3, none⟩) hkeep, c2]
  · rw [World.frozen?_of_block (w := W) (a := ⟨b, 3, none⟩) hkeep]; exact h.fr _
theorem info_rnT : (Tryz.prog.info? 131).map (fun i => (i.zero, i.size, i.bytes)) = some (some (.agg #[.int .i64 0, .int .i64 0, .int .i64 0, .string ⟨#[]⟩, .string ⟨#[]⟩, .int .u64 0, .int .u64 0]), 7, 72) := by kernel_rfl
theorem info_rnP : ∃ i, Tryz.prog.info? 131 = some i ∧ i.zero = some (.agg #[.int .i64 0, .int .i64 0, .int .i64 0, .string ⟨#[]⟩, .string ⟨#[]⟩, .int .u64 0, .int .u64 0]) ∧ i.size = 7 ∧ i.bytes = 72 := by
  obtain ⟨i, hi, hz⟩ := Option.map_eq_some_iff.1 info_rnT
  simp only [Prod.mk.injEq] at hz
  exact ⟨i, hi, hz.1, hz.2.1, hz.2.2⟩
set_option maxRecDepth 100000 in
set_option maxHeartbeats 4000000 in
theorem rp_node {B b len cap : Nat} {A : Option Addr} {l : List Tok} {p : PS} {w : World} (h : RAt B b len cap A l p w) (hl : p.out.length ≤ 100000) (n : Nd) (x y z : Int) (nm at_ : ByteArray) (u t : Int) (hn : ncell n = [.int .i64 x, .int .i64 y, .int .i64 z, .string nm, .string at_, .int .u64 u, .int .u64 t]) :
    Calls Tryz.prog 125 #[.pointer (some ⟨b, 0, none⟩), .agg #[.int .i64 x, .int .i64 y, .int .i64 z, .string nm, .string at_, .int .u64 u, .int .u64 t]] w (RetR B b len cap A l (.int .i64 (p.out.length : Nat)) (p.nod n).2 w) := by
  obtain ⟨i0, hi0, hz0, hy1, hy2⟩ := info_rnP
  obtain ⟨A1, cap1, c2, ho, hno⟩ := h.c2
  have H1 := Lib.hid (h.alloc (.cells #[.int .i64 x, .int .i64 y, .int .i64 z, .string nm, .string at_, .int .u64 u, .int .u64 t] 131))
  have HK := Lib.hid ((Kp.refl B b 131 w).alloc h.base (.cells #[.int .i64 x, .int .i64 y, .int .i64 z, .string nm, .string at_, .int .u64 u, .int .u64 t] 131))
  have HI := Lib.hid hi0
  have HZ := Lib.hid hz0
  have HY1 := Lib.hid hy1
  have HY2 := Lib.hid hy2
  have HN := Lib.hid hn
  have hbw : b < w.heap.size := h.lt
  have hB0 := h.base
  clear hi0 hz0 hy1 hy2 hn h ho hno c2
  obtain ⟨k, hk⟩ : ∃ k, k = p.out.length := ⟨_, rfl⟩
  have HKK := Lib.hid hk
  have hkl : k ≤ 100000 := by omega
  rw [← hk]
  clear hk hl
  go_enter Tryz.func125, Tryz.ntmps125
  go_wp2
  have r : ∀ i, (w.alloc (.cells #[.int .i64 x, .int .i64 y, .int .i64 z, .string nm, .string at_, .int .u64 u, .int .u64 t] 131)).cell? ⟨w.heap.size, i, none⟩ = #[Value.int .i64 x, .int .i64 y, .int .i64 z, .string nm, .string at_, .int .u64 u, .int .u64 t][i]? := fun i => World.cell?_alloc_new ..
  have r0 := r 0
  have r1 := r 1
  have r2 := r 2
  have r3 := r 3
  have r4 := r 4
  have r5 := r 5
  have r6 := r 6
  simp only [List.getElem?_toArray, List.getElem?_cons_zero, List.getElem?_cons_succ] at r0 r1 r2 r3 r4 r5 r6
  have hbs : w.heap.size < (w.alloc (.cells #[.int .i64 x, .int .i64 y, .int .i64 z, .string nm, .string at_, .int .u64 u, .int .u64 t] 131)).heap.size := by simp
  clear r
  generalize w.alloc (.cells #[.int .i64 x, .int .i64 y, .int .i64 z, .string nm, .string at_, .int .u64 u, .int .u64 t] 131) = W at H1 HK r0 r1 r2 r3 r4 r5 r6 hbs ⊢
  generalize w.heap.size = bx at r0 r1 r2 r3 r4 r5 r6 hbs hbw hB0 ⊢
  obtain ⟨A1, cap1, c2, ho, hno⟩ := H1.out.c2
  rw [← HKK.out] at c2 ho
  have hbW : b < W.heap.size := by omega
  have HO := Lib.hid ho
  clear ho hno
  have f2 := H1.out.fr 3
  have HAp : Hid (∀ (v4 : Value) (w4 : World), w4.ownsRow B 131 7 v4 (k + 1) (ncells p.out ++ ncell n) → (W.drew.alloc (.cells #[.int .i64 x, .int .i64 y, .int .i64 z, .string nm, .string at_, .int .u64 u, .int .u64 t] 131)).grownBy w4 (Value.slice A1 k cap1).ownBlock → ∃ A2 cap2, v4 = .slice A2 (k + 1 : Nat) cap2 ∧ Hid (RAt B b len cap A l (p.nod n).2 (w4.setCell ⟨b, 3, none⟩ (.slice A2 (k + 1 : Nat) cap2))) ∧ Hid (Kp B b 131 w (w4.setCell ⟨b, 3, none⟩ (.slice A2 (k + 1 : Nat) cap2))) ∧ w4.cell? ⟨b, 3, none⟩ = some (.slice A1 k cap1) ∧ w4.frozen? ⟨b, 3, none⟩ = false) := Lib.hid (fun v4 w4 hO4 hg4 => by
    obtain ⟨A2, cap2, rfl⟩ := own_form2 hO4
    have hP := (H1.out.drew).alloc (.cells #[.int .i64 x, .int .i64 y, .int .i64 z, .string nm, .string at_, .int .u64 u, .int .u64 t] 131)
    have hv : (W.drew.alloc (.cells #[.int .i64 x, .int .i64 y, .int .i64 z, .string nm, .string at_, .int .u64 u, .int .u64 t] 131)).cell? ⟨b, 3, none⟩ = some (.slice A1 k cap1) := by
      rw [World.cell?_alloc_past _ _ _ (by exact hbW)]; exact c2
    have hO5 := hO4
    rw [HKK.out] at hO5
    have ha := hP.app n hv hO5 hg4
    rw [← HKK.out] at ha
    exact ⟨A2, cap2, rfl, Lib.hid ha.1, Lib.hid ((HK.out.drew.alloc (by have := H1.out.base; exact this) _).trans ha.2.1), ha.2.2.1, ha.2.2.2⟩)
  go_region_law (refine step_appY rfl (.tmp 9) (.tmp 11) 70 (by rfl) B 131 i0 _ 7 72 Tryz.underlying70 HI.out HZ.out HY1.out HY2.out rfl (by decide) _ k _ (by rfl) (World.ownsRow.alloc (World.ownsRow.drew HO.out) _) ⟨W.heap.size, 0, none⟩ 1 1 (ncell n) (by rfl) rfl (by rw [HN.out]; exact World.news_of_block (cs := #[.int .i64 x, .int .i64 y, .int .i64 z, .string nm, .string at_, .int .u64 u, .int .u64 t]) (t := 131) (fr := (0, 0)) (heap_alloc_new W.drew _)) (ncell_one n) (by unfold maxLen; omega) (by omega) (by have := H1.out.base; simp; omega) ?_; intro v4 w4 hO4 hg4 _; obtain ⟨A2, cap2, rfl, HP4, HK4, c4, f4⟩ := HAp.out v4 w4 hO4 hg4; clear hO4 hg4)
  all_goals
    have c5 : (w4.setCell ⟨b, 3, none⟩ (.slice A2 (k + 1 : Nat) cap2)).cell? ⟨b, 3, none⟩ = some (.slice A2 (k + 1 : Nat) cap2) := World.cell?_setCell_same' _ _ _ (by rw [c4]; rfl)
    generalize w4.setCell ⟨b, 3, none⟩ (.slice A2 (k + 1 : Nat) cap2) = W5 at HP4 HK4 c5 ⊢
    go_wp2
    go_ret
    exact ⟨by first | rfl | (congr 2; omega) | simp, HP4.out, HK4.out⟩
end
/- The reference's rules. -/
section
open Go.RowKit

/-- a place that a rule of the reference may begin at -/
structure PR (l : List Tok) (p : PS) : Prop where
  ha : p.at_ ≤ l.length
  ho : p.out.length ≤ p.at_
theorem PR.went {l : List Tok} {p q : PS} (h : PR l p) (k : Went l p q) : PR l q :=
  ⟨k.len h.ha, by have := k.out; have := h.ho; have := k.le; omega⟩
theorem PR.adv {l : List Tok} {p : PS} (h : PR l p) {x : ByteArray} (hs : see l p x = true) : PR l p.adv :=
  ⟨by show p.at_ + 1 ≤ _; have := (see_lt hs).1; omega, by show p.out.length ≤ p.at_ + 1; have := h.ho; omega⟩
theorem opAt1 (l : List Tok) (p : PS) (o : Nat) : opAt l p [o] = if see l p (sy o) = true then o else 0 := rfl
theorem ifF (x : Nat) : (if false = true then x else 0) = 0 := rfl
theorem ifT (x : Nat) : (if true = true then x else 0) = x := rfl
/-- a rule's end -/
def RetQ (B b len cap : Nat) (A : Option Addr) (l : List Tok) (r : Nat × PS) (w : World) (e : Ending) (w' : World) : Prop := e = .returned (.int .i64 (r.1 : Nat)) ∧ RAt B b len cap A l r.2 w' ∧ Kp B b 131 w w'
structure IR (l : List Tok) (n : Nat) : Prop where
  imp : ∀ {B b len cap : Nat} {A : Option Addr} {p : PS} {w : World} {r : Nat × PS}, RAt B b len cap A l p w → PR l p → pR l n .imp p = some r → Calls Tryz.prog 91 #[.pointer (some ⟨b, 0, none⟩)] w (RetQ B b len cap A l r w)
  or : ∀ {B b len cap : Nat} {A : Option Addr} {p : PS} {w : World} {r : Nat × PS}, RAt B b len cap A l p w → PR l p → pR l n (.grp 0) p = some r → Calls Tryz.prog 123 #[.pointer (some ⟨b, 0, none⟩)] w (RetQ B b len cap A l r w)
  and : ∀ {B b len cap : Nat} {A : Option Addr} {p : PS} {w : World} {r : Nat × PS}, RAt B b len cap A l p w → PR l p → pR l n (.grp 1) p = some r → Calls Tryz.prog 144 #[.pointer (some ⟨b, 0, none⟩)] w (RetQ B b len cap A l r w)
  not : ∀ {B b len cap : Nat} {A : Option Addr} {p : PS} {w : World} {r : Nat × PS}, RAt B b len cap A l p w → PR l p → pR l n .not p = some r → Calls Tryz.prog 157 #[.pointer (some ⟨b, 0, none⟩)] w (RetQ B b len cap A l r w)
  cmp : ∀ {B b len cap : Nat} {A : Option Addr} {p : PS} {w : World} {r : Nat × PS}, RAt B b len cap A l p w → PR l p → pR l n .cmp p = some r → Calls Tryz.prog 169 #[.pointer (some ⟨b, 0, none⟩)] w (RetQ B b len cap A l r w)
  sum : ∀ {B b len cap : Nat} {A : Option Addr} {p : PS} {w : World} {r : Nat × PS}, RAt B b len cap A l p w → PR l p → pR l n (.grp 2) p = some r → Calls Tryz.prog 173 #[.pointer (some ⟨b, 0, none⟩)] w (RetQ B b len cap A l r w)
  una : ∀ {B b len cap : Nat} {A : Option Addr} {p : PS} {w : World} {r : Nat × PS}, RAt B b len cap A l p w → PR l p → pR l n .una p = some r → Calls Tryz.prog 175 #[.pointer (some ⟨b, 0, none⟩)] w (RetQ B b len cap A l r w)
  atm : ∀ {B b len cap : Nat} {A : Option Addr} {p : PS} {w : World} {r : Nat × PS}, RAt B b len cap A l p w → PR l p → pR l n .atm p = some r → Calls Tryz.prog 177 #[.pointer (some ⟨b, 0, none⟩)] w (RetQ B b len cap A l r w)
/-- an operation's node -/
theorem rp_nodeN {B b len cap : Nat} {A : Option Addr} {l : List Tok} {p : PS} {w : World} (h : RAt B b len cap A l p w) (hT : TokOk l) (g : PR l p) (o a c : Nat) (x y z : Int) (hx : (o : Int) = x) (hy : (a : Int) = y) (hz : (c : Int) = z) :
    Calls Tryz.prog 125 #[.pointer (some ⟨b, 0, none⟩), .agg #[.int .i64 x, .int .i64 y, .int .i64 z, .string ⟨#[]⟩, .string ⟨#[]⟩, .int .u64 0, .int .u64 0]] w (RetR B b len cap A l (.int .i64 (p.out.length : Nat)) (p.nod (nd o a c)).2 w) :=
  rp_node h (by have := g.ha; have := g.ho; have := hT.len; omega) (nd o a c) x y z ⟨#[]⟩ ⟨#[]⟩ 0 0 (by subst hx hy hz; simp only [ncell, nd, hi_zero, lo_zero])
/-- take at an operation -/
theorem rp_takeO {B b len cap : Nat} {A : Option Addr} {l : List Tok} {p : PS} {w : World} (h : RAt B b len cap A l p w) (hT : TokOk l) (g : PR l p) (o : Nat) (x : ByteArray) (hx : sy o = x) :
    Calls Tryz.prog 124 #[.pointer (some ⟨b, 0, none⟩), .string x] w (RetR B b len cap A l (.bool (see l p (sy o))) (if see l p (sy o) = true then p.adv else p) w) := by
  subst hx
  exact rp_take h (by have := g.ha; have := hT.len; omega) _
set_option maxRecDepth 100000 in
set_option maxHeartbeats 4000000 in
theorem rp_imp {B b len cap n : Nat} {A : Option Addr} {l : List Tok} {p : PS} {w : World} {r : Nat × PS} (ih : IR l n) (hT : TokOk l) (h : RAt B b len cap A l p w) (g : PR l p) (e : pR l (n + 1) .imp p = some r) :
    Calls Tryz.prog 91 #[.pointer (some ⟨b, 0, none⟩)] w (RetQ B b len cap A l r w) := by
  rw [pR] at e
  cases h1 : pR l n (.grp 0) p with
  | none => rw [h1] at e; cases e
  | some r1 =>
    rw [h1, Option.bind_some, opAt1] at e
    have K1 := Lib.hid (ih.or h g h1)
    have G1 := Lib.hid (g.went (pR_went l _ _ _ _ h1))
    have HE := Lib.hid e
    clear h1 e g h
    go_enter Tryz.func91, Tryz.ntmps91
    go_wp2_with fail
    go_at_call 123
    refine K1.out.mono ?_
    rintro e w1 ⟨rfl, p1, k1⟩
    have P1 := Lib.hid p1
    have HK1 := Lib.hid k1
    obtain ⟨a1, ha1⟩ : ∃ a, a = r1.1 := ⟨_, rfl⟩
    rw [← ha1]
    have HA1 := Lib.hid ha1
    clear ha1 p1 k1 K1
    go_wp2_with fail
    go_at_call 124
    refine (rp_takeO P1.out hT G1.out 16 _ rfl).mono ?_
    rintro e w2 ⟨rfl, p2, k2⟩
    obtain ⟨sv, hsv⟩ : ∃ s, s = see l r1.2 (sy 16) := ⟨_, rfl⟩
    rw [← hsv] at p2 ⊢
    have HSV := Lib.hid hsv
    have HK2 := Lib.hid (HK1.out.trans k2)
    clear k2 hsv
    cases sv
    · have P2 : Hid (RAt B b len cap A l r1.2 w2) := Lib.hid (by simpa using p2)
      have hE := HE.out
      rw [← HSV.out, ifF, if_pos rfl] at hE
      injection hE with hE
      have HE2 := Lib.hid hE
      clear p2 hE HE
      go_wp2_with fail
      go_ret
      rw [← HE2.out]
      exact ⟨by rw [HA1.out]; rfl, P2.out, HK2.out⟩
    · have P2 : Hid (RAt B b len cap A l r1.2.adv w2) := Lib.hid (by simpa using p2)
      have hE := HE.out
      rw [← HSV.out, ifT, if_neg (by decide)] at hE
      have G2 := Lib.hid (G1.out.adv HSV.out.symm)
      cases h2 : pR l n .imp r1.2.adv with
      | none => rw [h2] at hE; cases hE
      | some q =>
        rw [h2, Option.bind_some] at hE
        injection hE with hE
        have K3 := Lib.hid (ih.imp P2.out G2.out h2)
        have G3 := Lib.hid (G2.out.went (pR_went l _ _ _ _ h2))
        have HE2 := Lib.hid hE
        clear p2 hE HE h2
        go_wp2_with fail
        go_at_call 91
        refine K3.out.mono ?_
        rintro e w3 ⟨rfl, p3, k3⟩
        have P3 := Lib.hid p3
        have HK3 := Lib.hid (HK2.out.trans k3)
        obtain ⟨a3, ha3⟩ : ∃ a, a = q.1 := ⟨_, rfl⟩
        rw [← ha3]
        have HA3 := Lib.hid ha3
        clear ha3 p3 k3 K3
        go_wp2_with fail
        go_at_call 125
        refine (rp_nodeN P3.out hT G3.out 16 a1 a3 _ _ _ rfl rfl rfl).mono ?_
        rintro e w4 ⟨rfl, p4, k4⟩
        have P4 := Lib.hid p4
        have HK4 := Lib.hid (HK3.out.trans k4)
        clear p4 k4
        go_wp2_with fail
        go_ret
        rw [← HE2.out, ← HA1.out, ← HA3.out]
        exact ⟨rfl, P4.out, HK4.out⟩
set_option maxRecDepth 100000 in
set_option maxHeartbeats 4000000 in
theorem rp_una {B b len cap n : Nat} {A : Option Addr} {l : List Tok} {p : PS} {w : World} {r : Nat × PS} (ih : IR l n) (hT : TokOk l) (h : RAt B b len cap A l p w) (g : PR l p) (e : pR l (n + 1) .una p = some r) :
    Calls Tryz.prog 175 #[.pointer (some ⟨b, 0, none⟩)] w (RetQ B b len cap A l r w) := by
  rw [pR, opAt1] at e
  have HE := Lib.hid e
  have G0 := Lib.hid g
  have P0 := Lib.hid h
  clear e g h
  go_enter Tryz.func175, Tryz.ntmps175
  go_wp2_with fail
  go_at_call 124
  refine (rp_takeO P0.out hT G0.out 4 _ rfl).mono ?_
  rintro e w2 ⟨rfl, p2, k2⟩
  obtain ⟨sv, hsv⟩ : ∃ s, s = see l p (sy 4) := ⟨_, rfl⟩
  rw [← hsv] at p2 ⊢
  have HSV := Lib.hid hsv
  have HK2 := Lib.hid ((Kp.refl B b 131 w).trans k2)
  clear k2 hsv
  cases sv
  · have P2 : Hid (RAt B b len cap A l p w2) := Lib.hid (by simpa using p2)
    have hE := HE.out
    rw [← HSV.out, ifF, if_pos rfl] at hE
    have K3 := Lib.hid (ih.atm P2.out G0.out hE)
    clear p2 hE HE
    go_wp2_with fail
    go_at_call 177
    refine K3.out.mono ?_
    rintro e w3 ⟨rfl, p3, k3⟩
    have P3 := Lib.hid p3
    have HK3 := Lib.hid (HK2.out.trans k3)
    clear p3 k3 K3
    go_wp2_with fail
    go_ret
    exact ⟨rfl, P3.out, HK3.out⟩
  · have P2 : Hid (RAt B b len cap A l p.adv w2) := Lib.hid (by simpa using p2)
    have hE := HE.out
    rw [← HSV.out, ifT, if_neg (by decide)] at hE
    have G2 := Lib.hid (G0.out.adv HSV.out.symm)
    cases h2 : pR l n .una p.adv with
    | none => rw [h2] at hE; cases hE
    | some q =>
      rw [h2, Option.bind_some] at hE
      injection hE with hE
      have K3 := Lib.hid (ih.una P2.out G2.out h2)
      have G3 := Lib.hid (G2.out.went (pR_went l _ _ _ _ h2))
      have HE2 := Lib.hid hE
      clear p2 hE HE h2
      go_wp2_with fail
      go_at_call 175
      refine K3.out.mono ?_
      rintro e w3 ⟨rfl, p3, k3⟩
      have P3 := Lib.hid p3
      have HK3 := Lib.hid (HK2.out.trans k3)
      obtain ⟨a3, ha3⟩ : ∃ a, a = q.1 := ⟨_, rfl⟩
      rw [← ha3]
      have HA3 := Lib.hid ha3
      clear ha3 p3 k3 K3
      go_wp2_with fail
      go_at_call 125
      refine (rp_nodeN P3.out hT G3.out 4 a3 0 _ _ _ rfl rfl rfl).mono ?_
      rintro e w4 ⟨rfl, p4, k4⟩
      have P4 := Lib.hid p4
      have HK4 := Lib.hid (HK3.out.trans k4)
      clear p4 k4
      go_wp2_with fail
      go_ret
      rw [← HE2.out, ← HA3.out]
      exact ⟨rfl, P4.out, HK4.out⟩
set_option maxRecDepth 100000 in
set_option maxHeartbeats 4000000 in
theorem rp_not {B b len cap n : Nat} {A : Option Addr} {l : List Tok} {p : PS} {w : World} {r : Nat × PS} (ih : IR l n) (hT : TokOk l) (h : RAt B b len cap A l p w) (g : PR l p) (e : pR l (n + 1) .not p = some r) :
    Calls Tryz.prog 157 #[.pointer (some ⟨b, 0, none⟩)] w (RetQ B b len cap A l r w) := by
  rw [pR, opAt1] at e
  have HE := Lib.hid e
  have G0 := Lib.hid g
  have P0 := Lib.hid h
  clear e g h
  go_enter Tryz.func157, Tryz.ntmps157
  go_wp2_with fail
  go_at_call 124
  refine (rp_takeO P0.out hT G0.out 5 _ rfl).mono ?_
  rintro e w2 ⟨rfl, p2, k2⟩
  obtain ⟨sv, hsv⟩ : ∃ s, s = see l p (sy 5) := ⟨_, rfl⟩
  rw [← hsv] at p2 ⊢
  have HSV := Lib.hid hsv
  have HK2 := Lib.hid ((Kp.refl B b 131 w).trans k2)
  clear k2 hsv
  cases sv
  · have P2 : Hid (RAt B b len cap A l p w2) := Lib.hid (by simpa using p2)
    have hE := HE.out
    rw [← HSV.out, ifF, if_pos rfl] at hE
    have K3 := Lib.hid (ih.cmp P2.out G0.out hE)
    clear p2 hE HE
    go_wp2_with fail
    go_at_call 169
    refine K3.out.mono ?_
    rintro e w3 ⟨rfl, p3, k3⟩
    have P3 := Lib.hid p3
    have HK3 := Lib.hid (HK2.out.trans k3)
    clear p3 k3 K3
    go_wp2_with fail
    go_ret
    exact ⟨rfl, P3.out, HK3.out⟩
  · have P2 : Hid (RAt B b len cap A l p.adv w2) := Lib.hid (by simpa using p2)
    have hE := HE.out
    rw [← HSV.out, ifT, if_neg (by decide)] at hE
    have G2 := Lib.hid (G0.out.adv HSV.out.symm)
    cases h2 : pR l n .not p.adv with
    | none => rw [h2] at hE; cases hE
    | some q =>
      rw [h2, Option.bind_some] at hE
      injection hE with hE
      have K3 := Lib.hid (ih.not P2.out G2.out h2)
      have G3 := Lib.hid (G2.out.went (pR_went l _ _ _ _ h2))
      have HE2 := Lib.hid hE
      clear p2 hE HE h2
      go_wp2_with fail
      go_at_call 157
      refine K3.out.mono ?_
      rintro e w3 ⟨rfl, p3, k3⟩
      have P3 := Lib.hid p3
      have HK3 := Lib.hid (HK2.out.trans k3)
      obtain ⟨a3, ha3⟩ : ∃ a, a = q.1 := ⟨_, rfl⟩
      rw [← ha3]
      have HA3 := Lib.hid ha3
      clear ha3 p3 k3 K3
      go_wp2_with fail
      go_at_call 125
      refine (rp_nodeN P3.out hT G3.out 5 a3 0 _ _ _ rfl rfl rfl).mono ?_
      rintro e w4 ⟨rfl, p4, k4⟩
      have P4 := Lib.hid p4
      have HK4 := Lib.hid (HK3.out.trans k4)
      clear p4 k4
      go_wp2_with fail
      go_ret
      rw [← HE2.out, ← HA3.out]
      exact ⟨rfl, P4.out, HK4.out⟩
/-- the place in memory -/
theorem rAt_eq {B b len cap : Nat} {A : Option Addr} {l : List Tok} {p : PS} {w : World} (h : RAt B b len cap A l p w) : yAt b w = 401 - p.at_ := by
  unfold yAt; rw [h.c1]; simp
theorem PR.nod {l : List Tok} {q u : PS} (h : PR l q) (hlt : q.at_ + 1 ≤ l.length) (k : Went l q.adv u) (d : Nd) : PR l (u.nod d).2 := by
  have h1 : u.out.length + (q.at_ + 1) ≤ q.out.length + u.at_ := k.out
  have h2 := h.ho
  refine ⟨k.len hlt, ?_⟩
  show (u.out ++ [d]).length ≤ u.at_
  rw [List.length_append]
  simp
  omega
set_option maxRecDepth 100000 in
set_option maxHeartbeats 4000000 in
theorem rp_or {B b len cap n : Nat} {A : Option Addr} {l : List Tok} {p : PS} {w : World} {r : Nat × PS} (ih : ∀ m, m ≤ n → IR l m) (hT : TokOk l) (h : RAt B b len cap A l p w) (g : PR l p) (e : pR l (n + 1) (.grp 0) p = some r) :
    Calls Tryz.prog 123 #[.pointer (some ⟨b, 0, none⟩)] w (RetQ B b len cap A l r w) := by
  rw [pR] at e
  cases h1 : pR l n (prt 0) p with
  | none => rw [h1] at e; cases e
  | some r1 =>
    rw [h1, Option.bind_some] at e
    have K1 := Lib.hid ((ih n (Nat.le_refl _)).and h g h1)
    have G1 := Lib.hid (g.went (pR_went l _ _ _ _ h1))
    have HE := Lib.hid e
    have HIH := Lib.hid ih
    clear h1 e g h ih
    go_enter Tryz.func123, Tryz.ntmps123
    go_wp2_with fail
    go_at_call 144
    refine K1.out.mono ?_
    rintro e w1 ⟨rfl, p1, k1⟩
    have P1 := Lib.hid p1
    have HK1 := Lib.hid k1
    clear p1 k1 K1
    go_wp2_with fail
    go_loopw [3, 4] (fun v _ w' => ∃ (a m : Nat) (q : PS), m ≤ n ∧ v = .int .i64 a ∧ RAt B b len cap A l q w' ∧ Kp B b 131 w w' ∧ PR l q ∧ Hid (pR l m (.grpL 0 a) q = some r)) (fun _ _ w' => yAt b w')
    case atStart => exact ⟨r1.1, n, r1.2, Nat.le_refl _, rfl, P1.out, HK1.out, G1.out, HE⟩
    case round =>
      clear HE G1 P1 HK1
      obtain ⟨a, m, q, hm, rfl, hP, hK, hG, HE⟩ := hrel
      have P1 := Lib.hid hP
      have HK1 := Lib.hid hK
      have G1 := Lib.hid hG
      clear hP hK hG
      obtain ⟨m1, rfl⟩ : ∃ m1, m = m1 + 1 := by
        cases m with
        | zero => have := HE.out; rw [pR] at this; cases this
        | succ m => exact ⟨m, rfl⟩
      have hE := HE.out
      rw [pR] at hE
      have hgo : opAt l q (gops 0) = if see l q (sy 15) = true then 15 else 0 := rfl
      rw [hgo] at hE
      have HE2 := Lib.hid hE
      clear hE HE hgo
      go_wp2_with fail
      go_at_call 124
      refine (rp_takeO P1.out hT G1.out 15 _ rfl).mono ?_
      rintro e w2 ⟨rfl, p2, k2⟩
      obtain ⟨sv, hsv⟩ : ∃ s, s = see l q (sy 15) := ⟨_, rfl⟩
      rw [← hsv] at p2 ⊢
      have HSV := Lib.hid hsv
      have HK2 := Lib.hid (HK1.out.trans k2)
      clear k2 hsv
      cases sv
      · have P2 : Hid (RAt B b len cap A l q w2) := Lib.hid (by simpa using p2)
        have hE := HE2.out
        rw [← HSV.out, ifF, if_pos rfl] at hE
        injection hE with hE
        have HE3 := Lib.hid hE
        clear p2 hE HE2
        go_wp2_with fail
        go_ret
        rw [← HE3.out]
        exact ⟨rfl, P2.out, HK2.out⟩
      · have P2 : Hid (RAt B b len cap A l q.adv w2) := Lib.hid (by simpa using p2)
        have hE := HE2.out
        rw [← HSV.out, ifT, if_neg (by decide)] at hE
        have G2 := Lib.hid (G1.out.adv HSV.out.symm)
        have hqlt := (see_lt HSV.out.symm).1
        cases h2 : pR l m1 (prt 0) q.adv with
        | none => rw [h2] at hE; cases hE
        | some u =>
          rw [h2, Option.bind_some] at hE
          have K3 := Lib.hid ((HIH.out m1 (by omega)).and P2.out G2.out h2)
          have W3 := Lib.hid (pR_went l _ _ _ _ h2)
          have G3 := Lib.hid (G2.out.went W3.out)
          have HE3 := Lib.hid hE
          clear p2 hE HE2 h2
          go_wp2_with fail
          go_at_call 144
          refine K3.out.mono ?_
          rintro e w3 ⟨rfl, p3, k3⟩
          have P3 := Lib.hid p3
          have HK3 := Lib.hid (HK2.out.trans k3)
          obtain ⟨a3, ha3⟩ : ∃ a, a = u.1 := ⟨_, rfl⟩
          rw [← ha3]
          have HA3 := Lib.hid ha3
          clear ha3 p3 k3 K3
          go_wp2_with fail
          go_at_call 125
          refine (rp_nodeN P3.out hT G3.out 15 a a3 _ _ _ rfl rfl rfl).mono ?_
          rintro e w4 ⟨rfl, p4, k4⟩
          have P4 := Lib.hid p4
          have HK4 := Lib.hid (HK3.out.trans k4)
          have hw1 : q.at_ + 1 ≤ u.2.at_ := W3.out.le
          have hw2 : u.2.at_ ≤ 400 := Nat.le_trans G3.out.ha hT.len
          have HY1 := Lib.hid (rAt_eq P1.out)
          have HY4 : Hid (yAt b w4 = 401 - u.2.at_) := Lib.hid (by have := rAt_eq p4; exact this)
          have G4 : Hid (PR l (u.2.nod (nd 15 a a3)).2) := Lib.hid (G1.out.nod hqlt W3.out _)
          clear p4 k4
          go_wp2_with fail
          go_roundw
          case rel => (go_light; exact ⟨u.2.out.length, m1, (u.2.nod (nd 15 a a3)).2, by omega, rfl, P4.out, HK4.out, G4.out, Lib.hid (by have := HE3.out; rw [← HA3.out] at this; exact this)⟩)
          case measure => rw [HY1.out, HY4.out]; omega
set_option maxRecDepth 100000 in
set_option maxHeartbeats 4000000 in
theorem rp_and {B b len cap n : Nat} {A : Option Addr} {l : List Tok} {p : PS} {w : World} {r : Nat × PS} (ih : ∀ m, m ≤ n → IR l m) (hT : TokOk l) (h : RAt B b len cap A l p w) (g : PR l p) (e : pR l (n + 1) (.grp 1) p = some r) :
    Calls Tryz.prog 144 #[.pointer (some ⟨b, 0, none⟩)] w (RetQ B b len cap A l r w) := by
  rw [pR] at e
  cases h1 : pR l n (prt 1) p with
  | none => rw [h1] at e; cases e
  | some r1 =>
    rw [h1, Option.bind_some] at e
    have K1 := Lib.hid ((ih n (Nat.le_refl _)).not h g h1)
    have G1 := Lib.hid (g.went (pR_went l _ _ _ _ h1))
    have HE := Lib.hid e
    have HIH := Lib.hid ih
    clear h1 e g h ih
    go_enter Tryz.func144, Tryz.ntmps144
    go_wp2_with fail
    go_at_call 157
    refine K1.out.mono ?_
    rintro e w1 ⟨rfl, p1, k1⟩
    have P1 := Lib.hid p1
    have HK1 := Lib.hid k1
    clear p1 k1 K1
    go_wp2_with fail
    go_loopw [3, 4] (fun v _ w' => ∃ (a m : Nat) (q : PS), m ≤ n ∧ v = .int .i64 a ∧ RAt B b len cap A l q w' ∧ Kp B b 131 w w' ∧ PR l q ∧ Hid (pR l m (.grpL 1 a) q = some r)) (fun _ _ w' => yAt b w')
    case atStart => exact ⟨r1.1, n, r1.2, Nat.le_refl _, rfl, P1.out, HK1.out, G1.out, HE⟩
    case round =>
      clear HE G1 P1 HK1
      obtain ⟨a, m, q, hm, rfl, hP, hK, hG, HE⟩ := hrel
      have P1 := Lib.hid hP
      have HK1 := Lib.hid hK
      have G1 := Lib.hid hG
      clear hP hK hG
      obtain ⟨m1, rfl⟩ : ∃ m1, m = m1 + 1 := by
        cases m with
        | zero => have := HE.out; rw [pR] at this; cases this
        | succ m => exact ⟨m, rfl⟩
      have hE := HE.out
      rw [pR] at hE
      have hgo : opAt l q (gops 1) = if see l q (sy 14) = true then 14 else 0 := rfl
      rw [hgo] at hE
      have HE2 := Lib.hid hE
      clear hE HE hgo
      go_wp2_with fail
      go_at_call 124
      refine (rp_takeO P1.out hT G1.out 14 _ rfl).mono ?_
      rintro e w2 ⟨rfl, p2, k2⟩
      obtain ⟨sv, hsv⟩ : ∃ s, s = see l q (sy 14) := ⟨_, rfl⟩
      rw [← hsv] at p2 ⊢
      have HSV := Lib.hid hsv
      have HK2 := Lib.hid (HK1.out.trans k2)
      clear k2 hsv
      cases sv
      · have P2 : Hid (RAt B b len cap A l q w2) := Lib.hid (by simpa using p2)
        have hE := HE2.out
        rw [← HSV.out, ifF, if_pos rfl] at hE
        injection hE with hE
        have HE3 := Lib.hid hE
        clear p2 hE HE2
        go_wp2_with fail
        go_ret
        rw [← HE3.out]
        exact ⟨rfl, P2.out, HK2.out⟩
      · have P2 : Hid (RAt B b len cap A l q.adv w2) := Lib.hid (by simpa using p2)
        have hE := HE2.out
        rw [← HSV.out, ifT, if_neg (by decide)] at hE
        have G2 := Lib.hid (G1.out.adv HSV.out.symm)
        have hqlt := (see_lt HSV.out.symm).1
        cases h2 : pR l m1 (prt 1) q.adv with
        | none => rw [h2] at hE; cases hE
        | some u =>
          rw [h2, Option.bind_some] at hE
          have K3 := Lib.hid ((HIH.out m1 (by omega)).not P2.out G2.out h2)
          have W3 := Lib.hid (pR_went l _ _ _ _ h2)
          have G3 := Lib.hid (G2.out.went W3.out)
          have HE3 := Lib.hid hE
          clear p2 hE HE2 h2
          go_wp2_with fail
          go_at_call 157
          refine K3.out.mono ?_
          rintro e w3 ⟨rfl, p3, k3⟩
          have P3 := Lib.hid p3
          have HK3 := Lib.hid (HK2.out.trans k3)
          obtain ⟨a3, ha3⟩ : ∃ a, a = u.1 := ⟨_, rfl⟩
          rw [← ha3]
          have HA3 := Lib.hid ha3
          clear ha3 p3 k3 K3
          go_wp2_with fail
          go_at_call 125
          refine (rp_nodeN P3.out hT G3.out 14 a a3 _ _ _ rfl rfl rfl).mono ?_
          rintro e w4 ⟨rfl, p4, k4⟩
          have P4 := Lib.hid p4
          have HK4 := Lib.hid (HK3.out.trans k4)
          have hw1 : q.at_ + 1 ≤ u.2.at_ := W3.out.le
          have hw2 : u.2.at_ ≤ 400 := Nat.le_trans G3.out.ha hT.len
          have HY1 := Lib.hid (rAt_eq P1.out)
          have HY4 : Hid (yAt b w4 = 401 - u.2.at_) := Lib.hid (by have := rAt_eq p4; exact this)
          have G4 : Hid (PR l (u.2.nod (nd 14 a a3)).2) := Lib.hid (G1.out.nod hqlt W3.out _)
          clear p4 k4
          go_wp2_with fail
          go_roundw
          case rel => (go_light; exact ⟨u.2.out.length, m1, (u.2.nod (nd 14 a a3)).2, by omega, rfl, P4.out, HK4.out, G4.out, Lib.hid (by have := HE3.out; rw [← HA3.out] at this; exact this)⟩)
          case measure => rw [HY1.out, HY4.out]; omega
end
/- The reference's sum and compare. -/
section
open Go.RowKit

theorem see_excl {l : List Tok} {q : PS} {x y : ByteArray} (h : see l q x = true) (hne : x ≠ y) : see l q y = false := by
  have hb := (see_lt h).2
  rw [see_tok l q hb, Bool.and_eq_true, decide_eq_true_iff, decide_eq_true_iff] at h
  rw [see_tok l q hb, h.2, decide_eq_false hne, Bool.and_false]
theorem ifFF : (if false = true then 6 else if false = true then 7 else 0) = 0 := rfl
/-- see at an operation -/
theorem rp_seeO {B b len cap : Nat} {A : Option Addr} {l : List Tok} {p : PS} {w : World} (h : RAt B b len cap A l p w) (o : Nat) (x : ByteArray) (hx : sy o = x) (v : Bool) (hv : see l p (sy o) = v) :
    Calls Tryz.prog 145 #[.pointer (some ⟨b, 0, none⟩), .string x] w (RetX (.bool v) w) := by
  subst hx hv
  exact rp_see h _
set_option maxRecDepth 100000 in
set_option maxHeartbeats 4000000 in
theorem rp_sum {B b len cap n : Nat} {A : Option Addr} {l : List Tok} {p : PS} {w : World} {r : Nat × PS} (ih : ∀ m, m ≤ n → IR l m) (hT : TokOk l) (h : RAt B b len cap A l p w) (g : PR l p) (e : pR l (n + 1) (.grp 2) p = some r) :
    Calls Tryz.prog 173 #[.pointer (some ⟨b, 0, none⟩)] w (RetQ B b len cap A l r w) := by
  rw [pR] at e
  cases h1 : pR l n (prt 2) p with
  | none => rw [h1] at e; cases e
  | some r1 =>
    rw [h1, Option.bind_some] at e
    have K1 := Lib.hid ((ih n (Nat.le_refl _)).una h g h1)
    have G1 := Lib.hid (g.went (pR_went l _ _ _ _ h1))
    have HE := Lib.hid e
    have HIH := Lib.hid ih
    clear h1 e g h ih
    go_enter Tryz.func173, Tryz.ntmps173
    go_wp2_with fail
    go_at_call 175
    refine K1.out.mono ?_
    rintro e w1 ⟨rfl, p1, k1⟩
    have P1 := Lib.hid p1
    have HK1 := Lib.hid k1
    clear p1 k1 K1
    go_wp2_with fail
    go_loopw [3, 4, 5] (fun v _ _ w' => ∃ (a m : Nat) (q : PS), m ≤ n ∧ v = .int .i64 a ∧ RAt B b len cap A l q w' ∧ Kp B b 131 w w' ∧ PR l q ∧ Hid (pR l m (.grpL 2 a) q = some r)) (fun _ _ _ w' => yAt b w')
    case atStart => exact ⟨r1.1, n, r1.2, Nat.le_refl _, rfl, P1.out, HK1.out, G1.out, HE⟩
    case round =>
      clear HE G1 P1 HK1
      obtain ⟨a, m, q, hm, rfl, hP, hK, hG, HE⟩ := hrel
      have P1 := Lib.hid hP
      have HK1 := Lib.hid hK
      have G1 := Lib.hid hG
      clear hP hK hG
      obtain ⟨m1, rfl⟩ : ∃ m1, m = m1 + 1 := by
        cases m with
        | zero => have := HE.out; rw [pR] at this; cases this
        | succ m => exact ⟨m, rfl⟩
      have hE := HE.out
      rw [pR] at hE
      have hgo : opAt l q (gops 2) = if see l q (sy 6) = true then 6 else if see l q (sy 7) = true then 7 else 0 := rfl
      rw [hgo] at hE
      have HE2 := Lib.hid hE
      clear hE HE hgo
      obtain ⟨s6, h6⟩ : ∃ s, s = see l q (sy 6) := ⟨_, rfl⟩
      obtain ⟨s7, h7⟩ : ∃ s, s = see l q (sy 7) := ⟨_, rfl⟩
      have H6 := Lib.hid h6.symm
      have H7 := Lib.hid h7.symm
      clear h6 h7
      cases s6
      · cases s7
        · have hE := HE2.out
          rw [H6.out, H7.out, ifFF, if_pos rfl] at hE
          injection hE with hE
          have HE3 := Lib.hid hE
          clear hE HE2
          go_wp2_with fail
          go_at_call 145
          refine (rp_seeO P1.out 6 _ rfl false H6.out).mono ?_
          rintro e w2 ⟨rfl, hb2⟩
          have Q2 := Lib.hid (P1.out.call hb2)
          have HQ2 : Hid (Kp B b 131 w w2) := Lib.hid (HK1.out.trans (Kp.of hb2 P1.out.base))
          clear hb2
          go_wp2_with fail
          go_at_call 145
          refine (rp_seeO Q2.out 7 _ rfl false H7.out).mono ?_
          rintro e w3 ⟨rfl, hb3⟩
          have Q3 := Lib.hid (Q2.out.call hb3)
          have HQ3 : Hid (Kp B b 131 w w3) := Lib.hid (HQ2.out.trans (Kp.of hb3 Q2.out.base))
          clear hb3
          go_wp2_with fail
          go_ret
          rw [← HE3.out]
          exact ⟨rfl, Q3.out, HQ3.out⟩
        · have hE := HE2.out
          rw [H6.out, H7.out, ifT, if_neg (by decide), if_neg (by decide)] at hE
          have HSS := H7
          clear HE2
          go_wp2_with fail
          go_at_call 145
          refine (rp_seeO P1.out 6 _ rfl false H6.out).mono ?_
          rintro e w2 ⟨rfl, hb2⟩
          have Q2 := Lib.hid (P1.out.call hb2)
          have HQ2 : Hid (Kp B b 131 w w2) := Lib.hid (HK1.out.trans (Kp.of hb2 P1.out.base))
          clear hb2
          go_wp2_with fail
          go_at_call 145
          refine (rp_seeO Q2.out 7 _ rfl true H7.out).mono ?_
          rintro e w3 ⟨rfl, hb3⟩
          have Q3 := Lib.hid (Q2.out.call hb3)
          have HQ3 : Hid (Kp B b 131 w w3) := Lib.hid (HQ2.out.trans (Kp.of hb3 Q2.out.base))
          clear hb3
          go_wp2_with fail
          go_at_call 145
          refine (rp_seeO Q3.out 7 _ rfl true H7.out).mono ?_
          rintro e w6 ⟨rfl, hb6⟩
          have Q6 := Lib.hid (Q3.out.call hb6)
          have HQ6 : Hid (Kp B b 131 w w6) := Lib.hid (HQ3.out.trans (Kp.of hb6 Q3.out.base))
          clear hb6
          have P2 := Q6
          have HK2 := HQ6
          have P3 := Lib.hid (adv_ofR P2.out)
          have HK3 := Lib.hid (HK2.out.set P2.out.hB 1 (.int .i64 ((q.at_ : Int) + 1)))
          have c1 := P2.out.c1
          have f1 := P2.out.fr 1
          have hwr : IntKind.i64.wrap ((q.at_ : Int) + 1) = (q.at_ : Int) + 1 := IntWalk.i64_in _ (by have := G1.out.ha; have := hT.len; omega)
          have G2 := Lib.hid (G1.out.adv HSS.out)
          have hqlt := (see_lt HSS.out).1
          cases h2 : pR l m1 (prt 2) q.adv with
          | none => rw [h2] at hE; cases hE
          | some u =>
            rw [h2, Option.bind_some] at hE
            have K4 := Lib.hid ((HIH.out m1 (by omega)).una P3.out G2.out h2)
            have W4 := Lib.hid (pR_went l _ _ _ _ h2)
            have G4 := Lib.hid (G2.out.went W4.out)
            have HE3 := Lib.hid hE
            clear hE h2
            go_wp2_with fail
            go_at_call 175
            refine K4.out.mono ?_
            rintro e w4 ⟨rfl, p4, k4⟩
            have P4 := Lib.hid p4
            have HK4 := Lib.hid (HK3.out.trans k4)
            obtain ⟨a3, ha3⟩ : ∃ a, a = u.1 := ⟨_, rfl⟩
            rw [← ha3]
            have HA3 := Lib.hid ha3
            clear ha3 p4 k4 K4
            go_wp2_with fail
            go_at_call 125
            refine (rp_nodeN P4.out hT G4.out 7 a a3 _ _ _ rfl rfl rfl).mono ?_
            rintro e w5 ⟨rfl, p5, k5⟩
            have P5 := Lib.hid p5
            have HK5 := Lib.hid (HK4.out.trans k5)
            have hw1 : q.at_ + 1 ≤ u.2.at_ := W4.out.le
            have hw2 : u.2.at_ ≤ 400 := Nat.le_trans G4.out.ha hT.len
            have HY1 := Lib.hid (rAt_eq P1.out)
            have HY4 : Hid (yAt b w5 = 401 - u.2.at_) := Lib.hid (by have := rAt_eq p5; exact this)
            have G5 : Hid (PR l (u.2.nod (nd 7 a a3)).2) := Lib.hid (G1.out.nod hqlt W4.out _)
            clear p5 k5
            go_wp2_with fail
            go_roundw
            case rel => (go_light; exact ⟨u.2.out.length, m1, (u.2.nod (nd 7 a a3)).2, by omega, rfl, P5.out, HK5.out, G5.out, Lib.hid (by have := HE3.out; rw [← HA3.out] at this; exact this)⟩)
            case measure => rw [HY1.out, HY4.out]; omega
      · have hx7 : s7 = false := by rw [← H7.out]; exact see_excl H6.out (by decide)
        subst hx7
        have hE := HE2.out
        rw [H6.out, if_pos rfl, if_neg (by decide)] at hE
        have HSS := H6
        clear HE2
        go_wp2_with fail
        go_at_call 145
        refine (rp_seeO P1.out 6 _ rfl true H6.out).mono ?_
        rintro e w2 ⟨rfl, hb2⟩
        have Q2 := Lib.hid (P1.out.call hb2)
        have HQ2 : Hid (Kp B b 131 w w2) := Lib.hid (HK1.out.trans (Kp.of hb2 P1.out.base))
        clear hb2
        go_wp2_with fail
        go_at_call 145
        refine (rp_seeO Q2.out 7 _ rfl false H7.out).mono ?_
        rintro e w6 ⟨rfl, hb6⟩
        have Q6 := Lib.hid (Q2.out.call hb6)
        have HQ6 : Hid (Kp B b 131 w w6) := Lib.hid (HQ2.out.trans (Kp.of hb6 Q2.out.base))
        clear hb6
        have P2 := Q6
        have HK2 := HQ6
        have P3 := Lib.hid (adv_ofR P2.out)
        have HK3 := Lib.hid (HK2.out.set P2.out.hB 1 (.int .i64 ((q.at_ : Int) + 1)))
        have c1 := P2.out.c1
        have f1 := P2.out.fr 1
        have hwr : IntKind.i64.wrap ((q.at_ : Int) + 1) = (q.at_ : Int) + 1 := IntWalk.i64_in _ (by have := G1.out.ha; have := hT.len; omega)
        have G2 := Lib.hid (G1.out.adv HSS.out)
        have hqlt := (see_lt HSS.out).1
        cases h2 : pR l m1 (prt 2) q.adv with
        | none => rw [h2] at hE; cases hE
        | some u =>
          rw [h2, Option.bind_some] at hE
          have K4 := Lib.hid ((HIH.out m1 (by omega)).una P3.out G2.out h2)
          have W4 := Lib.hid (pR_went l _ _ _ _ h2)
          have G4 := Lib.hid (G2.out.went W4.out)
          have HE3 := Lib.hid hE
          clear hE h2
          go_wp2_with fail
          go_at_call 175
          refine K4.out.mono ?_
          rintro e w4 ⟨rfl, p4, k4⟩
          have P4 := Lib.hid p4
          have HK4 := Lib.hid (HK3.out.trans k4)
          obtain ⟨a3, ha3⟩ : ∃ a, a = u.1 := ⟨_, rfl⟩
          rw [← ha3]
          have HA3 := Lib.hid ha3
          clear ha3 p4 k4 K4
          go_wp2_with fail
          go_at_call 125
          refine (rp_nodeN P4.out hT G4.out 6 a a3 _ _ _ rfl rfl rfl).mono ?_
          rintro e w5 ⟨rfl, p5, k5⟩
          have P5 := Lib.hid p5
          have HK5 := Lib.hid (HK4.out.trans k5)
          have hw1 : q.at_ + 1 ≤ u.2.at_ := W4.out.le
          have hw2 : u.2.at_ ≤ 400 := Nat.le_trans G4.out.ha hT.len
          have HY1 := Lib.hid (rAt_eq P1.out)
          have HY4 : Hid (yAt b w5 = 401 - u.2.at_) := Lib.hid (by have := rAt_eq p5; exact this)
          have G5 : Hid (PR l (u.2.nod (nd 6 a a3)).2) := Lib.hid (G1.out.nod hqlt W4.out _)
          clear p5 k5
          go_wp2_with fail
          go_roundw
          case rel => (go_light; exact ⟨u.2.out.length, m1, (u.2.nod (nd 6 a a3)).2, by omega, rfl, P5.out, HK5.out, G5.out, Lib.hid (by have := HE3.out; rw [← HA3.out] at this; exact this)⟩)
          case measure => rw [HY1.out, HY4.out]; omega
def cmA : Array Value := #[.string ⟨#[61, 61]⟩, .string ⟨#[33, 61]⟩, .string ⟨#[60]⟩, .string ⟨#[60, 61]⟩, .string ⟨#[62]⟩, .string ⟨#[62, 61]⟩]
theorem cmA_lit : cmA = #[.string ⟨#[61, 61]⟩, .string ⟨#[33, 61]⟩, .string ⟨#[60]⟩, .string ⟨#[60, 61]⟩, .string ⟨#[62]⟩, .string ⟨#[62, 61]⟩] := rfl
theorem cmA_at : ∀ i, i < 6 → cmA[i]? = some (.string (sy (8 + i))) := by
  intro i hi
  have h : i = 0 ∨ i = 1 ∨ i = 2 ∨ i = 3 ∨ i = 4 ∨ i = 5 := by omega
  rcases h with rfl | rfl | rfl | rfl | rfl | rfl <;> rfl
theorem opC_drop (l : List Tok) (q : PS) (k : Nat) (hk : k < 6) : opAt l q ([8, 9, 10, 11, 12, 13].drop k) = if see l q (sy (8 + k)) = true then 8 + k else opAt l q ([8, 9, 10, 11, 12, 13].drop (k + 1)) := by
  have h : k = 0 ∨ k = 1 ∨ k = 2 ∨ k = 3 ∨ k = 4 ∨ k = 5 := by omega
  rcases h with rfl | rfl | rfl | rfl | rfl | rfl <;> rfl
set_option maxRecDepth 100000 in
set_option maxHeartbeats 4000000 in
theorem rp_cmp {B b len cap n : Nat} {A : Option Addr} {l : List Tok} {p : PS} {w : World} {r : Nat × PS} (ih : IR l n) (hT : TokOk l) (h : RAt B b len cap A l p w) (g : PR l p) (e : pR l (n + 1) .cmp p = some r) :
    Calls Tryz.prog 169 #[.pointer (some ⟨b, 0, none⟩)] w (RetQ B b len cap A l r w) := by
  rw [pR] at e
  cases h1 : pR l n (.grp 2) p with
  | none => rw [h1] at e; cases e
  | some r1 =>
    rw [h1, Option.bind_some] at e
    have K1 := Lib.hid (ih.sum h g h1)
    have G1 := Lib.hid (g.went (pR_went l _ _ _ _ h1))
    have HE := Lib.hid e
    clear h1 e g h
    go_enter Tryz.func169, Tryz.ntmps169
    go_wp2_with fail
    go_at_call 173
    refine K1.out.mono ?_
    rintro e w1 ⟨rfl, p1, k1⟩
    have hlt1 := p1.lt
    have HO1 : Hid ((w1.alloc (.cells cmA 9)).heap[w1.heap.size]? = some (.cells cmA 9 (0, 0))) := Lib.hid (heap_alloc_new ..)
    have P1 := Lib.hid (p1.alloc (.cells cmA 9))
    have HK1 := Lib.hid (k1.alloc p1.base (.cells cmA 9))
    obtain ⟨a1, ha1⟩ : ∃ a, a = r1.1 := ⟨_, rfl⟩
    rw [← ha1]
    have HA1 := Lib.hid ha1
    clear ha1 p1 k1 K1
    go_upto_region 3 with (fail)
    rw [← cmA_lit]
    obtain ⟨O, hO⟩ : ∃ O, O = w1.heap.size := ⟨_, rfl⟩
    rw [← hO] at HO1 hlt1 ⊢
    have hOb : O ≠ b := by omega
    generalize w1.alloc (.cells cmA 9) = W1 at HO1 P1 HK1 ⊢
    clear hO
    obtain ⟨o, ho⟩ : ∃ o, o = opAt l r1.2 [8, 9, 10, 11, 12, 13] := ⟨_, rfl⟩
    have HOO := Lib.hid ho
    clear ho
    go_loopw [11, 4, 5, 6] (fun i _ _ _ w' => ∃ k : Nat, k ≤ 6 ∧ i = .int .i64 k ∧ RAt B b len cap A l r1.2 w' ∧ Kp B b 131 w w' ∧ Kp B b 131 W1 w' ∧ Hid (opAt l r1.2 ([8, 9, 10, 11, 12, 13].drop k) = o)) (fun i _ _ _ _ => 6 - (intOf i).toNat)
    case atStart => exact ⟨0, by omega, rfl, P1.out, HK1.out, Kp.refl _ _ _ _, Lib.hid HOO.out.symm⟩
    case round =>
      clear P1 HK1
      obtain ⟨k, hk, rfl, hP, hK, hK1, HD⟩ := hrel
      have P1 := Lib.hid hP
      have HK1 := Lib.hid hK
      have HKW := Lib.hid hK1
      clear hP hK hK1
      by_cases hk6 : k < 6
      · have hkI : (k : Int) < 6 := by omega
        have hkI0 : (0 : Int) ≤ (k : Int) := by omega
        have hblk := HKW.out.cellAt HO1.out hOb (by decide)
        obtain ⟨x, hx⟩ : ∃ x, sy (8 + k) = x := ⟨_, rfl⟩
        have hcell : wr.cell? ⟨O, k, none⟩ = some (.string x) := by
          simp only [World.cell?, hblk]; rw [← hx]; exact cmA_at k hk6
        have hdr := opC_drop l r1.2 k hk6
        rw [HD.out] at hdr
        have HDR := Lib.hid hdr
        have HX := Lib.hid hx
        clear hdr hx hblk
        go_wp2_with fail
        go_at_call 124
        refine (rp_takeO P1.out hT G1.out (8 + k) x HX.out).mono ?_
        rintro e w2 ⟨rfl, p2, k2⟩
        obtain ⟨sv, hsv⟩ : ∃ s, s = see l r1.2 (sy (8 + k)) := ⟨_, rfl⟩
        rw [← hsv] at p2 ⊢
        have HSV := Lib.hid hsv
        have HK2 := Lib.hid (HK1.out.trans k2)
        have HKW2 := Lib.hid (HKW.out.trans k2)
        clear k2 hsv
        cases sv
        · have P2 : Hid (RAt B b len cap A l r1.2 w2) := Lib.hid (by simpa using p2)
          have hd := HDR.out
          rw [← HSV.out, if_neg (by decide)] at hd
          have HD2 := Lib.hid hd.symm
          clear p2 hd HD HDR
          go_wp2_with fail
          go_roundw
          case rel => (go_light; exact ⟨k + 1, by omega, by simp, P2.out, HK2.out, HKW2.out, HD2⟩)
          case measure => simp [intOf]; omega
        · have P2 : Hid (RAt B b len cap A l r1.2.adv w2) := Lib.hid (by simpa using p2)
          have hd := HDR.out
          rw [← HSV.out, if_pos rfl] at hd
          have hE := HE.out
          rw [← HOO.out, hd, if_neg (by omega)] at hE
          have G2 := Lib.hid (G1.out.adv HSV.out.symm)
          cases h2 : pR l n (.grp 2) r1.2.adv with
          | none => rw [h2] at hE; cases hE
          | some q =>
            rw [h2, Option.bind_some] at hE
            injection hE with hE
            have K3 := Lib.hid (ih.sum P2.out G2.out h2)
            have G3 := Lib.hid (G2.out.went (pR_went l _ _ _ _ h2))
            have HE2 := Lib.hid hE
            clear p2 hE HE h2 hd HDR HD HOO
            go_wp2_with fail
            go_at_call 173
            refine K3.out.mono ?_
            rintro e w3 ⟨rfl, p3, k3⟩
            have P3 := Lib.hid p3
            have HK3 := Lib.hid (HK2.out.trans k3)
            obtain ⟨a3, ha3⟩ : ∃ a, a = q.1 := ⟨_, rfl⟩
            rw [← ha3]
            have HA3 := Lib.hid ha3
            clear ha3 p3 k3 K3
            go_wp2_with fail
            go_at_call 125
            refine (rp_nodeN P3.out hT G3.out (8 + k) a1 a3 _ _ _ (Int.natCast_add 8 k) rfl rfl).mono ?_
            rintro e w4 ⟨rfl, p4, k4⟩
            have P4 := Lib.hid p4
            have HK4 := Lib.hid (HK3.out.trans k4)
            clear p4 k4
            go_wp2_with fail
            go_ret
            rw [← HE2.out, ← HA1.out, ← HA3.out]
            exact ⟨rfl, P4.out, HK4.out⟩
      · have hkI : ¬ (k : Int) < 6 := by omega
        have ho0 : o = 0 := by
          rw [← HD.out, List.drop_of_length_le (by simp; omega)]; rfl
        have hE := HE.out
        rw [← HOO.out, ho0, if_pos rfl] at hE
        injection hE with hE
        have HE2 := Lib.hid hE
        clear hE HE ho0 HD HOO
        go_wp2_with fail
        go_ret
        rw [← HE2.out]
        exact ⟨by rw [HA1.out]; rfl, P1.out, HK1.out⟩
end
/- The reference's value of a literal. -/
section
open Go.RowKit

/-- a Value in a box -/
structure VB (w : World) (b a : Nat) : Prop where
  lt : b < w.heap.size
  c0 : w.cell? ⟨b, 0, none⟩ = some (.int .u64 (hi a))
  c1 : w.cell? ⟨b, 1, none⟩ = some (.int .u64 (lo a))
  fr : ∀ i, w.frozen? ⟨b, i, none⟩ = false
theorem VB.below {w w' : World} {b a B : Nat} (h : VB w b a) (hb : Below B w w') (hB : b < B) : VB w' b a :=
  ⟨Nat.lt_of_lt_of_le h.lt hb.size, by rw [hb.cell (p := ⟨b, 0, none⟩) hB]; exact h.c0, by rw [hb.cell (p := ⟨b, 1, none⟩) hB]; exact h.c1, fun i => by rw [hb.frozen (p := ⟨b, i, none⟩) hB]; exact h.fr i⟩
theorem VB.call {w w' : World} {b a : Nat} (h : VB w b a) (hb : Below w.heap.size w w') : VB w' b a := h.below hb h.lt
theorem VB.new (w : World) (a : Nat) (t : TypeId) : VB (w.alloc (.cells #[.int .u64 (hi a), .int .u64 (lo a)] t)) w.heap.size a :=
  ⟨by simp, World.cell?_alloc_new .., World.cell?_alloc_new .., fun _ => World.frozen?_alloc_new ..⟩
theorem VB.set {w : World} {b a : Nat} (h : VB w b a) (c : Nat) : VB ((w.setCell ⟨b, 0, none⟩ (.int .u64 (hi c))).setCell ⟨b, 1, none⟩ (.int .u64 (lo c))) b c := by
  refine ⟨by rw [World.size_setCell, World.size_setCell]; exact h.lt, ?_, ?_, fun i => by rw [World.frozen?_setCell, World.frozen?_setCell]; exact h.fr i⟩
  · rw [World.cell?_setCell_other _ _ _ _ (by intro e; injection e with _ e; omega), World.cell?_setCell_same' _ _ _ (by rw [h.c0]; rfl)]
  · rw [World.cell?_setCell_same' _ _ _ (by rw [World.cell?_setCell_other _ _ _ _ (by intro e; injection e with _ e; omega), h.c1]; rfl)]
theorem VB.far {w : World} {b a d : Nat} (h : VB w b a) (hne : b ≠ d) (x y : Value) : VB ((w.setCell ⟨d, 0, none⟩ x).setCell ⟨d, 1, none⟩ y) b a := by
  refine ⟨by rw [World.size_setCell, World.size_setCell]; exact h.lt, ?_, ?_, fun i => by rw [World.frozen?_setCell, World.frozen?_setCell]; exact h.fr i⟩
  · rw [World.cell?_setCell_other _ _ _ _ (by intro e; injection e with e; exact hne e.symm), World.cell?_setCell_other _ _ _ _ (by intro e; injection e with e; exact hne e.symm)]; exact h.c0
  · rw [World.cell?_setCell_other _ _ _ _ (by intro e; injection e with e; exact hne e.symm), World.cell?_setCell_other _ _ _ _ (by intro e; injection e with e; exact hne e.symm)]; exact h.c1
theorem pv_pre {b : Nat} {g : Nat → Nat} {n x k : Nat} (h : pv b g n = some x) (hk : k ≤ n) : ∃ a, pv b g k = some a := by
  cases e : pv b g k with
  | none => rw [pv_none e hk] at h; cases h
  | some a => exact ⟨a, rfl⟩
theorem pv_succ {b : Nat} {g : Nat → Nat} {k a x : Nat} (h : pv b g k = some a) (hx : pv b g (k + 1) = some x) : dgN (g k) < b ∧ a * b + dgN (g k) < 340282366920938463463374607431768211456 ∧ x = a * b + dgN (g k) := by
  rw [pv, h, Option.bind_some] at hx
  split at hx
  · rename_i hc; injection hx with hx; exact ⟨hc.1, hc.2, hx.symm⟩
  · cases hx
/-- the region of two shifts: its slots -/
def setw (a : Act) (v : Nat → Value) : Act :=
  { a with tmps := (((((a.tmps.setIfInBounds 25 (v 0)).setIfInBounds 26 (v 1)).setIfInBounds 27 (v 2)).setIfInBounds 28 (v 3)).setIfInBounds 6 (v 4)).setIfInBounds 7 (v 5) }
def updw (v : Nat → Value) (i : Nat) (x : Value) : Nat → Value := fun j => if j = i then x else v j
def leftW (ops : Array Oper) (listed : Array Bool) : Nat := ((List.range ops.size).filter fun i => !listed.getD i true).length
theorem ready_subW {md : Region.Mode} {ops : Array Oper} {listed : Array Bool} {i : Nat} (h : i ∈ Region.ready md ops listed) : i < ops.size ∧ listed.getD i true = false := by
  unfold Region.ready at h
  obtain ⟨h1, h2⟩ := List.mem_filter.1 h
  rw [Bool.and_eq_true] at h2
  exact ⟨List.mem_range.1 h1, by simpa using h2.1⟩
theorem getD_setW {listed : Array Bool} {i j : Nat} {d : Bool} (hl : i < listed.size) : (listed.setIfInBounds i true).getD j d = if i = j then true else listed.getD j d := by
  rw [Array.getD_eq_getD_getElem?, Array.getD_eq_getD_getElem?, Array.getElem?_setIfInBounds]
  by_cases h : i = j
  · subst h; simp [hl]
  · simp [h]
theorem leftW_set {ops : Array Oper} {listed : Array Bool} {i : Nat} (hi : i < ops.size) (hl : listed.getD i true = false) : leftW ops (listed.setIfInBounds i true) < leftW ops listed := by
  unfold leftW
  have hlt : i < listed.size := by
    rcases Nat.lt_or_ge i listed.size with h | h
    · exact h
    · rw [Array.getD_eq_getD_getElem?, Array.getElem?_eq_none h] at hl; cases hl
  have key : ∀ (L : List Nat), (L.filter fun j => !(listed.setIfInBounds i true).getD j true).length ≤ (L.filter fun j => !listed.getD j true).length ∧ (i ∈ L → (L.filter fun j => !(listed.setIfInBounds i true).getD j true).length < (L.filter fun j => !listed.getD j true).length) := by
    intro L
    induction L with
    | nil => simp
    | cons x M ih =>
      rw [List.filter_cons, List.filter_cons, getD_setW hlt]
      by_cases hxi : i = x
      · subst hxi
        rw [if_pos rfl, hl]
        simp only [Bool.not_true, Bool.false_eq_true, if_false, Bool.not_false, if_true, List.length_cons]
        exact ⟨by omega, fun _ => by omega⟩
      · rw [if_neg hxi]
        cases hx : listed.getD x true with
        | true =>
          simp only [Bool.not_true, Bool.false_eq_true, if_false]
          exact ⟨ih.1, fun h => ih.2 (by rcases List.mem_cons.1 h with e | e; exact absurd e hxi; exact e)⟩
        | false =>
          simp only [Bool.not_false, if_true, List.length_cons]
          exact ⟨by omega, fun h => by have := ih.2 (by rcases List.mem_cons.1 h with e | e; exact absurd e hxi; exact e); omega⟩
  exact (key _).2 (List.mem_range.2 hi)
section
variable {P : Program} {ops : Array Oper} {Q : Exit → Act → World → Prop} {md : Region.Mode} {ι : Type} {S : ι → Act}
theorem wpAny_fam (J : Array Bool → World → ι → Prop)
    (hstep : ∀ listed w v i, J listed w v → i ∈ Region.ready md ops listed → wpOp P ops Q i (fun a' w' => ∃ v', a' = S v' ∧ J (listed.setIfInBounds i true) w' v') (S v) w)
    (hend : ∀ listed w v, J listed w v → Region.ready md ops listed = [] → Q .normal (S v) w) :
    ∀ (fuel : Nat) (listed : Array Bool) (v : ι) (w : World), leftW ops listed ≤ fuel → J listed w v → wpAny P md ops Q fuel listed (S v) w
  | 0, listed, v, w, hf, hI => by
    have hr : Region.ready md ops listed = [] := by
      cases e : Region.ready md ops listed with
      | nil => rfl
      | cons i rs =>
        obtain ⟨h1, h2⟩ := ready_subW (md := md) (ops := ops) (listed := listed) (i := i) (by rw [e]; exact List.mem_cons_self ..)
        have := leftW_set h1 h2
        omega
    exact ⟨hr, hend listed w v hI hr⟩
  | fuel + 1, listed, v, w, hf, hI => by
    refine ⟨fun hr => hend listed w v hI hr, fun i hi => ?_⟩
    obtain ⟨h1, h2⟩ := ready_subW hi
    have hlt := leftW_set h1 h2
    refine wpOp_mono (fun a' w' h' => ?_) (hstep listed w v i hI hi)
    obtain ⟨v', rfl, hJ⟩ := h'
    exact wpAny_fam J hstep hend fuel _ v' w' (by omega) hJ
theorem wp_region_fam {id : Nat} {W : World} {a0 : Act} (J : Array Bool → World → ι → Prop) (v0 : ι) (hm : P.follows .mixedOrders = true)
    (ha : a0 = S v0) (h0 : J (Array.replicate ops.size false) W.drew v0)
    (hstep : ∀ listed w v i, J listed w v → i ∈ Region.ready .any ops listed → wpOp P ops Q i (fun a' w' => ∃ v', a' = S v' ∧ J (listed.setIfInBounds i true) w' v') (S v) w)
    (hend : ∀ listed w v, J listed w v → Region.ready .any ops listed = [] → Q .normal (S v) w) : (Code.region id ops true).wp P Q a0 W := by
  refine wp_region_any hm ?_
  have h := wpAny_fam (S := S) J hstep hend ops.size (Array.replicate ops.size false) v0 W.drew (Nat.le_trans (List.length_filter_le _ _) (by simp)) h0
  rw [← ha] at h
  exact h
end
def slw : Nat → Nat
  | 0 => 25
  | 1 => 26
  | 2 => 27
  | 3 => 28
  | 4 => 6
  | _ => 7
theorem wp_region_w {P : Program} {ops : Array Oper} {Q : Exit → Act → World → Prop} {id : Nat} {W : World} {a0 : Act} (J : Array Bool → World → (Nat → Value) → Prop) (hm : P.follows .mixedOrders = true)
    (ha : a0 = setw a0 (fun j => a0.tmps[slw j]?.getD undef)) (h0 : J (Array.replicate ops.size false) W.drew (fun j => a0.tmps[slw j]?.getD undef))
    (hstep : ∀ listed w v i, J listed w v → i ∈ Region.ready .any ops listed → wpOp P ops Q i (fun a' w' => ∃ v', a' = setw a0 v' ∧ J (listed.setIfInBounds i true) w' v') (setw a0 v) w)
    (hend : ∀ listed w v, J listed w v → Region.ready .any ops listed = [] → Q .normal (setw a0 v) w) : (Code.region id ops true).wp P Q a0 W :=
  wp_region_fam (S := setw a0) J _ hm ha h0 hstep hend
theorem ready_depW {md : Region.Mode} {ops : Array Oper} {listed : Array Bool} {i : Nat} {o : Oper} (h : i ∈ Region.ready md ops listed) (ho : ops[i]? = some o) {e : Edge} (he : e ∈ o.after) (hb : Region.binds md e = true) : listed.getD e.on false = true := by
  unfold Region.ready at h
  have h2 := (List.mem_filter.1 h).2
  rw [Bool.and_eq_true, ho] at h2
  have h3 := h2.2
  simp only [Option.map_some, Option.getD_some, Array.all_eq_true'] at h3
  have := h3 e he
  simpa [hb] using this
theorem ready_allW {md : Region.Mode} {ops : Array Oper} {listed : Array Bool} (hchk : (List.range ops.size).all (fun i => ((ops[i]?).map fun o => o.after.all fun e => decide (e.on < i)).getD true) = true)
    (hls : listed.size = ops.size) (hr : Region.ready md ops listed = []) : ∀ i, i < ops.size → listed.getD i false = true := by
  intro i
  induction i using Nat.strongRecOn with
  | ind i ih =>
    intro hi
    cases hl : listed.getD i true with
    | true =>
      rw [Array.getD_eq_getD_getElem?] at hl ⊢
      rw [Array.getElem?_eq_getElem (by omega)] at hl ⊢
      exact hl
    | false =>
      exfalso
      have hmem : i ∈ Region.ready md ops listed := by
        unfold Region.ready
        refine List.mem_filter.2 ⟨List.mem_range.2 hi, ?_⟩
        rw [Bool.and_eq_true]
        refine ⟨by rw [hl]; rfl, ?_⟩
        rw [Array.getElem?_eq_getElem hi]
        simp only [Option.map_some, Option.getD_some, Array.all_eq_true']
        intro e he
        have h1 := List.all_eq_true.1 hchk i (List.mem_range.2 hi)
        rw [Array.getElem?_eq_getElem hi] at h1
        simp only [Option.map_some, Option.getD_some, Array.all_eq_true'] at h1
        have h2 := h1 e he
        rw [decide_eq_true_iff] at h2
        rw [ih e.on h2 (by omega)]
        simp
      rw [hr] at hmem
      cases hmem
def vA (n : Nat) : Value := .agg #[.int .u64 (hi n), .int .u64 (lo n)]
def shV (a : Nat) : Nat → Value
  | 0 => vA a
  | 1 => vA (vleft a 3)
  | 2 => vA a
  | _ => vA (vleft a 1)
/-- what holds between the operations -/
structure SJ (W0 : World) (a : Nat) (listed : Array Bool) (w : World) (v : Nat → Value) : Prop where
  size : listed.size = 8
  below : Below W0.heap.size W0 w
  f : ∀ j, j < 4 → listed.getD j false = true → v j = shV a j
  e : listed.getD 4 false = true → ∃ E, v 4 = .pointer (some ⟨E, 0, none⟩) ∧ W0.heap.size ≤ E ∧ VB w E (if listed.getD 6 false = true then vleft a 3 else 0)
  d : listed.getD 5 false = true → ∃ D, v 5 = .pointer (some ⟨D, 0, none⟩) ∧ W0.heap.size ≤ D ∧ VB w D (if listed.getD 7 false = true then vleft a 1 else 0)
  ne : ∀ E D, v 4 = .pointer (some ⟨E, 0, none⟩) → v 5 = .pointer (some ⟨D, 0, none⟩) → listed.getD 4 false = true → listed.getD 5 false = true → E ≠ D
  s6 : listed.getD 6 false = true → listed.getD 4 false = true
  s7 : listed.getD 7 false = true → listed.getD 5 false = true
theorem SJ.step {W0 : World} {a : Nat} {listed : Array Bool} {w w' : World} {v : Nat → Value} (h : SJ W0 a listed w v) {i : Nat} (hi : i < 4) (hb : Below w.heap.size w w') : SJ W0 a (listed.setIfInBounds i true) w' (updw v i (shV a i)) := by
  have gn : ∀ j, i ≠ j → (listed.setIfInBounds i true).getD j false = listed.getD j false := fun j hj => by rw [getD_setW (by rw [h.size]; omega), if_neg hj]
  have gi : (listed.setIfInBounds i true).getD i false = true := by rw [getD_setW (by rw [h.size]; omega), if_pos rfl]
  refine ⟨by simpa using h.size, h.below.trans (hb.mono h.below.size), fun j hj hl => ?_, ?_, ?_, ?_, ?_, ?_⟩
  · unfold updw
    by_cases e : j = i
    · subst e; rw [if_pos rfl]
    · rw [if_neg e]; rw [gn j (fun e2 => e e2.symm)] at hl; exact h.f j hj hl
  · rw [gn 4 (by omega), gn 6 (by omega)]
    intro hl
    obtain ⟨E, h1, h2, h3⟩ := h.e hl
    exact ⟨E, by unfold updw; rw [if_neg (by omega)]; exact h1, h2, h3.call hb⟩
  · rw [gn 5 (by omega), gn 7 (by omega)]
    intro hl
    obtain ⟨E, h1, h2, h3⟩ := h.d hl
    exact ⟨E, by unfold updw; rw [if_neg (by omega)]; exact h1, h2, h3.call hb⟩
  · intro E D; unfold updw; rw [if_neg (by omega), if_neg (by omega), gn 4 (by omega), gn 5 (by omega)]; exact h.ne E D
  · rw [gn 6 (by omega), gn 4 (by omega)]; exact h.s6
  · rw [gn 7 (by omega), gn 5 (by omega)]; exact h.s7
theorem hi_zro : hi 0 = 0 := rfl
theorem lo_zro : lo 0 = 0 := rfl
theorem SJ.new4 {W0 : World} {a : Nat} {listed : Array Bool} {w : World} {v : Nat → Value} (h : SJ W0 a listed w v) (h6 : listed.getD 4 false = false) : SJ W0 a (listed.setIfInBounds 4 true) (w.alloc (.cells #[.int .u64 0, .int .u64 0] 103)) (updw v 4 (.pointer (some ⟨w.heap.size, 0, none⟩))) := by
  have gn : ∀ j, 4 ≠ j → (listed.setIfInBounds 4 true).getD j false = listed.getD j false := fun j hj => by rw [getD_setW (by rw [h.size]; omega), if_neg hj]
  have gi : (listed.setIfInBounds 4 true).getD 4 false = true := by rw [getD_setW (by rw [h.size]; omega), if_pos rfl]
  have hb : Below w.heap.size w (w.alloc (.cells #[.int .u64 0, .int .u64 0] 103)) := (Below.refl _ _).alloc (Nat.le_refl _) _
  have h66 : listed.getD 6 false = false := by
    cases e : listed.getD 6 false
    · rfl
    · have := h.s6 e; rw [h6] at this; cases this
  refine ⟨by simpa using h.size, h.below.trans (hb.mono h.below.size), fun j hj hl => ?_, ?_, ?_, ?_, ?_, ?_⟩
  · unfold updw; rw [if_neg (by omega)]; rw [gn j (by omega)] at hl; exact h.f j hj hl
  · intro _
    refine ⟨w.heap.size, rfl, h.below.size, ?_⟩
    rw [gn 6 (by omega), h66, if_neg (by decide)]
    have := VB.new w 0 103
    rwa [hi_zro, lo_zro] at this
  · rw [gn 5 (by omega), gn 7 (by omega)]
    intro hl
    obtain ⟨E, h1, h2, h3⟩ := h.d hl
    exact ⟨E, by unfold updw; rw [if_neg (by omega)]; exact h1, h2, h3.call hb⟩
  · intro E D h1 h2 _ h4
    rw [gn 5 (by omega)] at h4
    obtain ⟨D2, h5, _, h7⟩ := h.d h4
    have e1 : E = w.heap.size := by unfold updw at h1; rw [if_pos rfl] at h1; injection h1 with h1; injection h1 with h1; injection h1 with h1; exact h1.symm
    have e2 : D2 = D := by unfold updw at h2; rw [if_neg (by omega), h5] at h2; injection h2 with h2; injection h2 with h2; injection h2 with h2
    have := h7.lt
    omega
  · rw [gn 6 (by omega), h66]; intro e; cases e
  · rw [gn 7 (by omega), gn 5 (by omega)]; exact h.s7
theorem SJ.new5 {W0 : World} {a : Nat} {listed : Array Bool} {w : World} {v : Nat → Value} (h : SJ W0 a listed w v) (h6 : listed.getD 5 false = false) : SJ W0 a (listed.setIfInBounds 5 true) (w.alloc (.cells #[.int .u64 0, .int .u64 0] 103)) (updw v 5 (.pointer (some ⟨w.heap.size, 0, none⟩))) := by
  have gn : ∀ j, 5 ≠ j → (listed.setIfInBounds 5 true).getD j false = listed.getD j false := fun j hj => by rw [getD_setW (by rw [h.size]; omega), if_neg hj]
  have gi : (listed.setIfInBounds 5 true).getD 5 false = true := by rw [getD_setW (by rw [h.size]; omega), if_pos rfl]
  have hb : Below w.heap.size w (w.alloc (.cells #[.int .u64 0, .int .u64 0] 103)) := (Below.refl _ _).alloc (Nat.le_refl _) _
  have h66 : listed.getD 7 false = false := by
    cases e : listed.getD 7 false
    · rfl
    · have := h.s7 e; rw [h6] at this; cases this
  refine ⟨by simpa using h.size, h.below.trans (hb.mono h.below.size), fun j hj hl => ?_, ?_, ?_, ?_, ?_, ?_⟩
  · unfold updw; rw [if_neg (by omega)]; rw [gn j (by omega)] at hl; exact h.f j hj hl
  · rw [gn 4 (by omega), gn 6 (by omega)]
    intro hl
    obtain ⟨E, h1, h2, h3⟩ := h.e hl
    exact ⟨E, by unfold updw; rw [if_neg (by omega)]; exact h1, h2, h3.call hb⟩
  · intro _
    refine ⟨w.heap.size, rfl, h.below.size, ?_⟩
    rw [gn 7 (by omega), h66, if_neg (by decide)]
    have := VB.new w 0 103
    rwa [hi_zro, lo_zro] at this
  · intro E D h1 h2 h4 _
    rw [gn 4 (by omega)] at h4
    obtain ⟨D2, h5, _, h7⟩ := h.e h4
    have e1 : D = w.heap.size := by unfold updw at h2; rw [if_pos rfl] at h2; injection h2 with h2; injection h2 with h2; injection h2 with h2; exact h2.symm
    have e2 : D2 = E := by unfold updw at h1; rw [if_neg (by omega), h5] at h1; injection h1 with h1; injection h1 with h1; injection h1 with h1
    have := h7.lt
    omega
  · rw [gn 6 (by omega), gn 4 (by omega)]; exact h.s6
  · rw [gn 7 (by omega), h66]; intro e; cases e
theorem SJ.put6 {W0 : World} {a : Nat} {listed : Array Bool} {w : World} {v : Nat → Value} (h : SJ W0 a listed w v) {E : Nat} (h4 : listed.getD 4 false = true) (hE : v 4 = .pointer (some ⟨E, 0, none⟩)) :
    SJ W0 a (listed.setIfInBounds 6 true) ((w.setCell ⟨E, 0, none⟩ (.int .u64 (hi (vleft a 3)))).setCell ⟨E, 1, none⟩ (.int .u64 (lo (vleft a 3)))) v := by
  have gn : ∀ j, 6 ≠ j → (listed.setIfInBounds 6 true).getD j false = listed.getD j false := fun j hj => by rw [getD_setW (by rw [h.size]; omega), if_neg hj]
  have gi : (listed.setIfInBounds 6 true).getD 6 false = true := by rw [getD_setW (by rw [h.size]; omega), if_pos rfl]
  obtain ⟨E2, h1, h2, h3⟩ := h.e h4
  obtain rfl : E2 = E := by rw [hE] at h1; injection h1 with h1; injection h1 with h1; injection h1 with h1; exact h1.symm
  refine ⟨by simpa using h.size, (h.below.setCell (p := ⟨E2, 0, none⟩) h2 _).setCell (p := ⟨E2, 1, none⟩) h2 _, fun j hj hl => ?_, ?_, ?_, ?_, ?_, ?_⟩
  · rw [gn j (by omega)] at hl; exact h.f j hj hl
  · intro _
    refine ⟨E2, hE, h2, ?_⟩
    rw [gi, if_pos rfl]
    exact h3.set _
  · rw [gn 5 (by omega), gn 7 (by omega)]
    intro hl
    obtain ⟨D, q1, q2, q3⟩ := h.d hl
    exact ⟨D, q1, q2, q3.far (fun e => h.ne E2 D hE q1 h4 hl e.symm) _ _⟩
  · intro E' D'; rw [gn 4 (by omega), gn 5 (by omega)]; exact h.ne E' D'
  · intro _; rw [gn 4 (by omega)]; exact h4
  · rw [gn 7 (by omega), gn 5 (by omega)]; exact h.s7
theorem SJ.put7 {W0 : World} {a : Nat} {listed : Array Bool} {w : World} {v : Nat → Value} (h : SJ W0 a listed w v) {E : Nat} (h4 : listed.getD 5 false = true) (hE : v 5 = .pointer (some ⟨E, 0, none⟩)) :
    SJ W0 a (listed.setIfInBounds 7 true) ((w.setCell ⟨E, 0, none⟩ (.int .u64 (hi (vleft a 1)))).setCell ⟨E, 1, none⟩ (.int .u64 (lo (vleft a 1)))) v := by
  have gn : ∀ j, 7 ≠ j → (listed.setIfInBounds 7 true).getD j false = listed.getD j false := fun j hj => by rw [getD_setW (by rw [h.size]; omega), if_neg hj]
  have gi : (listed.setIfInBounds 7 true).getD 7 false = true := by rw [getD_setW (by rw [h.size]; omega), if_pos rfl]
  obtain ⟨E2, h1, h2, h3⟩ := h.d h4
  obtain rfl : E2 = E := by rw [hE] at h1; injection h1 with h1; injection h1 with h1; injection h1 with h1; exact h1.symm
  refine ⟨by simpa using h.size, (h.below.setCell (p := ⟨E2, 0, none⟩) h2 _).setCell (p := ⟨E2, 1, none⟩) h2 _, fun j hj hl => ?_, ?_, ?_, ?_, ?_, ?_⟩
  · rw [gn j (by omega)] at hl; exact h.f j hj hl
  · rw [gn 4 (by omega), gn 6 (by omega)]
    intro hl
    obtain ⟨D, q1, q2, q3⟩ := h.e hl
    exact ⟨D, q1, q2, q3.far (fun e => h.ne D E2 q1 hE hl h4 e) _ _⟩
  · intro _
    refine ⟨E2, hE, h2, ?_⟩
    rw [gi, if_pos rfl]
    exact h3.set _
  · intro E' D'; rw [gn 4 (by omega), gn 5 (by omega)]; exact h.ne E' D'
  · rw [gn 6 (by omega), gn 4 (by omega)]; exact h.s6
  · intro _; rw [gn 5 (by omega)]; exact h4
/-- the state of value's loop -/
structure VAt (w : World) (a : Nat) (w' : World) : Prop where
  below : Below w.heap.size w w'
  r : VB w' w.heap.size 0
  v : VB w' (w.heap.size + 1) a
theorem VAt.call {w w1 w2 : World} {a : Nat} (h : VAt w a w1) (hb : Below w1.heap.size w1 w2) : VAt w a w2 := ⟨h.below.trans (hb.mono h.below.size), h.r.call hb, h.v.call hb⟩
theorem VAt.put {w w1 : World} {a : Nat} (h : VAt w a w1) (c : Nat) : VAt w c ((w1.setCell ⟨w.heap.size + 1, 0, none⟩ (.int .u64 (hi c))).setCell ⟨w.heap.size + 1, 1, none⟩ (.int .u64 (lo c))) :=
  ⟨(h.below.setCell (p := ⟨w.heap.size + 1, 0, none⟩) (Nat.le_add_right _ 1) _).setCell (p := ⟨w.heap.size + 1, 1, none⟩) (Nat.le_add_right _ 1) _, h.r.far (by omega) _ _, h.v.set c⟩
theorem VAt.new (w : World) (t : TypeId) : VAt w 0 ((w.alloc (.cells #[.int .u64 0, .int .u64 0] t)).alloc (.cells #[.int .u64 0, .int .u64 0] t)) := by
  have h1 := VB.new w 0 t
  rw [hi_zro, lo_zro] at h1
  have h2 := VB.new (w.alloc (.cells #[.int .u64 0, .int .u64 0] t)) 0 t
  rw [hi_zro, lo_zro, World.size_alloc] at h2
  exact ⟨((Below.refl _ _).alloc (Nat.le_refl _) _).alloc (by simp) _, h1.call ((Below.refl _ _).alloc (Nat.le_refl _) _), h2⟩
theorem radd_dig (x d : Nat) (hx : x < 2 ^ 128) (hd : d < 100) (W : World) : Calls Tryz.prog 184 #[.agg #[.int .u64 (hi x), .int .u64 (lo x)], .agg #[.int .u64 0, .int .u64 (d : Nat)], .int .i64 128] W (RetV (vadd 128 x d) W) := by
  have h := radd_any x d 128 hx (by omega) W
  have e1 : hi d = 0 := by unfold hi; omega
  have e2 : lo d = (d : Int) := by unfold lo; omega
  rwa [e1, e2] at h
theorem VAt.farD {w w1 : World} {a D : Nat} (h : VAt w a w1) (hD : w.heap.size ≤ D) (h1 : D ≠ w.heap.size) (h2 : D ≠ w.heap.size + 1) (x y : Value) : VAt w a ((w1.setCell ⟨D, 0, none⟩ x).setCell ⟨D, 1, none⟩ y) :=
  ⟨(h.below.setCell (p := ⟨D, 0, none⟩) hD _).setCell (p := ⟨D, 1, none⟩) hD _, h.r.far (fun e => h1 e.symm) _ _, h.v.far (fun e => h2 e.symm) _ _⟩
set_option maxRecDepth 100000 in
set_option maxHeartbeats 8000000 in
theorem rp_val10 (t : ByteArray) (hs : t.size ≤ 400) (hno : (decide (2 < t.size) && ((t.extract 0 2).toList == x0.toList)) = false) (v : Nat) (hv : pv 10 (bt t) t.size = some v) (w : World) :
    Calls Tryz.prog 179 #[.string t] w (RetV v w) := by
  rw [x0_list] at hno
  have HPV := Lib.hid hv
  have HST := Lib.hid (VAt.new w 103)
  clear hv
  by_cases h2 : 2 < t.size
  · have hx : ((t.extract 0 2).toList == [48, 120]) = false := by
      rw [decide_eq_true h2, Bool.true_and] at hno; exact hno
    have h2I : (2 : Int) < (t.size : Int) := by omega
    clear hno
    go_enter Tryz.func179, Tryz.ntmps179
    go_wp2
    clear hx
    go_loopw [5, 6, 7, 8] (fun i _ _ _ w' => ∃ k a : Nat, k ≤ t.size ∧ i = .int .i64 k ∧ pv 10 (bt t) k = some a ∧ VAt w a w') (fun i _ _ _ _ => t.size - (intOf i).toNat)
    case atStart => exact ⟨0, 0, by omega, rfl, rfl, HST.out⟩
    case round =>
      clear HST
      obtain ⟨k, a, hk, rfl, hpv, hV⟩ := hrel
      have HV := Lib.hid hV
      by_cases hlk : k < t.size
      · have h1 : (k : Int) < (t.size : Int) := by omega
        obtain ⟨x, hx⟩ := pv_pre HPV.out (k := k + 1) hlk
        obtain ⟨hd1, hd2, hd3⟩ := pv_succ hpv hx
        obtain ⟨c, hc⟩ : ∃ c, bt t k = c := ⟨_, rfl⟩
        have hbyte : (t[k]'hlk).toNat = c := by rw [bt_at, hc]
        have hc2 : c < 256 := by rw [← hc]; exact bt_lt t k
        rw [hc] at hd1 hd2 hd3
        have HX := Lib.hid hx
        have HPK := Lib.hid hpv
        have ha : a < 2 ^ 128 := pv_lt hpv
        obtain ⟨d, hd⟩ : ∃ d, d = dgN c := ⟨_, rfl⟩
        rw [← hd] at hd1 hd2 hd3
        have hdc : (48 ≤ c ∧ c ≤ 57 ∧ d = c - 48) ∨ (97 ≤ c ∧ c ≤ 102 ∧ d = c - 87) := by
          rw [hd] at hd1 ⊢
          unfold dgN at hd1 ⊢
          split at hd1
          · rename_i hh; rw [if_pos hh]; left; exact ⟨hh.1, hh.2, rfl⟩
          · rename_i hh
            split at hd1
            · rename_i hh2; rw [if_neg hh, if_pos hh2]; right; exact ⟨hh2.1, hh2.2, rfl⟩
            · omega
        have HD3 := Lib.hid hd3
        clear hc hx hpv hd hV hd3
        go_upto_region 8 with (fail)
        refine wp_region_w (SJ wr a) (by kernel_rfl) ?_ ?_ ?_ ?_
        · simp [setw, slw]
        · exact ⟨by simp, (Below.refl _ _).drew, fun j hj h => by (have h4 : j = 0 ∨ j = 1 ∨ j = 2 ∨ j = 3 := (by omega)); rcases h4 with rfl | rfl | rfl | rfl <;> simp at h, fun h => by simp at h, fun h => by simp at h, fun _ _ _ _ h => by simp at h, fun h => by simp at h, fun h => by simp at h⟩
        · intro listed w1 v i hJ hrd
          obtain ⟨hlt2, hun0⟩ := ready_subW hrd
          have hlt3 : i < 8 := hlt2
          have hun : listed.getD i false = false := by
            have := hJ.size
            rw [Array.getD_eq_getD_getElem?, Array.getElem?_eq_getElem (by omega)] at hun0 ⊢
            exact hun0
          clear hlt2 hun0
          have HJ := Lib.hid hJ
          have hVb := (HV.out.v).below hJ.below HV.out.v.lt
          have b0 := hVb.c0
          have b1 := hVb.c1
          match i, hlt3 with
          | 0, _ =>
            refine wpOp_step rfl (fun K' hK => ?_)
            simp only [setw, List.setIfInBounds_toArray, List.set_cons_succ, List.set_cons_zero]
            have HH := Lib.hid hK
            clear hK hJ hrd hVb
            go_simp
            refine HH.out _ _ ⟨updw v 0 (shV a 0), by simp [setw, updw, shV, vA], HJ.out.step (by decide) (Below.refl _ _)⟩
          | 1, _ =>
            have e0 : v 0 = shV a 0 := hJ.f 0 (by decide) (ready_depW hrd rfl (e := ⟨0, .data⟩) (by simp) rfl)
            refine wpOp_step rfl (fun K' hK => ?_)
            simp only [setw, List.setIfInBounds_toArray, List.set_cons_succ, List.set_cons_zero]
            have HH := Lib.hid hK
            rw [e0]
            simp only [shV, vA]
            clear hK hJ hrd hVb
            go_simp
            go_at_call 183
            refine (rleft_any a 3 ha _).mono ?_
            rintro e w2 ⟨rfl, hb⟩
            go_simp
            refine HH.out _ _ ⟨updw v 1 (shV a 1), by simp [setw, updw, shV, vA, e0], HJ.out.step (by decide) hb⟩
          | 2, _ =>
            refine wpOp_step rfl (fun K' hK => ?_)
            simp only [setw, List.setIfInBounds_toArray, List.set_cons_succ, List.set_cons_zero]
            have HH := Lib.hid hK
            clear hK hJ hrd hVb
            go_simp
            refine HH.out _ _ ⟨updw v 2 (shV a 2), by simp [setw, updw, shV, vA], HJ.out.step (by decide) (Below.refl _ _)⟩
          | 3, _ =>
            have e0 : v 2 = shV a 2 := hJ.f 2 (by decide) (ready_depW hrd rfl (e := ⟨2, .data⟩) (by simp) rfl)
            refine wpOp_step rfl (fun K' hK => ?_)
            simp only [setw, List.setIfInBounds_toArray, List.set_cons_succ, List.set_cons_zero]
            have HH := Lib.hid hK
            rw [e0]
            simp only [shV, vA]
            clear hK hJ hrd hVb
            go_simp
            go_at_call 183
            refine (rleft_any a 1 ha _).mono ?_
            rintro e w2 ⟨rfl, hb⟩
            go_simp
            refine HH.out _ _ ⟨updw v 3 (shV a 3), by simp [setw, updw, shV, vA, e0], HJ.out.step (by decide) hb⟩
          | 4, _ =>
            refine wpOp_step rfl (fun K' hK => ?_)
            simp only [setw, List.setIfInBounds_toArray, List.set_cons_succ, List.set_cons_zero]
            have HH := Lib.hid hK
            clear hK hJ hrd hVb
            go_simp
            refine HH.out _ _ ⟨updw v 4 (.pointer (some ⟨w1.heap.size, 0, none⟩)), by simp [setw, updw], HJ.out.new4 hun⟩
          | 5, _ =>
            refine wpOp_step rfl (fun K' hK => ?_)
            simp only [setw, List.setIfInBounds_toArray, List.set_cons_succ, List.set_cons_zero]
            have HH := Lib.hid hK
            clear hK hJ hrd hVb
            go_simp
            refine HH.out _ _ ⟨updw v 5 (.pointer (some ⟨w1.heap.size, 0, none⟩)), by simp [setw, updw], HJ.out.new5 hun⟩
          | 6, _ =>
            have l4 : listed.getD 4 false = true := ready_depW hrd rfl (e := ⟨4, .data⟩) (by simp) rfl
            have e1 : v 1 = shV a 1 := hJ.f 1 (by decide) (ready_depW hrd rfl (e := ⟨1, .data⟩) (by simp) rfl)
            obtain ⟨E, hE, hE2, hE3⟩ := hJ.e l4
            rw [hun, if_neg (by decide)] at hE3
            have g0 := hE3.c0
            have g1 := hE3.c1
            have g2 := hE3.fr 0
            have g3 := hE3.fr 1
            refine wpOp_step rfl (fun K' hK => ?_)
            simp only [setw, List.setIfInBounds_toArray, List.set_cons_succ, List.set_cons_zero]
            have HH := Lib.hid hK
            rw [e1, hE]
            simp only [shV, vA]
            clear hK hJ hrd hVb hE3
            go_simp
            refine HH.out _ _ ⟨v, by simp [setw, e1, hE, shV, vA], HJ.out.put6 l4 hE⟩
          | 7, _ =>
            have l4 : listed.getD 5 false = true := ready_depW hrd rfl (e := ⟨5, .data⟩) (by simp) rfl
            have e1 : v 3 = shV a 3 := hJ.f 3 (by decide) (ready_depW hrd rfl (e := ⟨3, .data⟩) (by simp) rfl)
            obtain ⟨E, hE, hE2, hE3⟩ := hJ.d l4
            rw [hun, if_neg (by decide)] at hE3
            have g0 := hE3.c0
            have g1 := hE3.c1
            have g2 := hE3.fr 0
            have g3 := hE3.fr 1
            refine wpOp_step rfl (fun K' hK => ?_)
            simp only [setw, List.setIfInBounds_toArray, List.set_cons_succ, List.set_cons_zero]
            have HH := Lib.hid hK
            rw [e1, hE]
            simp only [shV, vA]
            clear hK hJ hrd hVb hE3
            go_simp
            refine HH.out _ _ ⟨v, by simp [setw, e1, hE, shV, vA], HJ.out.put7 l4 hE⟩
        · intro listed w1 v hJ hr
          have hall := ready_allW (by kernel_rfl) hJ.size hr
          obtain ⟨E, hE, hE2, hE3⟩ := hJ.e (hall 4 (by decide))
          obtain ⟨D, hD, hD2, hD3⟩ := hJ.d (hall 5 (by decide))
          have hED := hJ.ne E D hE hD (hall 4 (by decide)) (hall 5 (by decide))
          rw [hall 6 (by decide), if_pos rfl] at hE3
          rw [hall 7 (by decide), if_pos rfl] at hD3
          have HV1 := Lib.hid (HV.out.call hJ.below)
          simp only [setw, List.setIfInBounds_toArray, List.set_cons_succ, List.set_cons_zero]
          rw [hE, hD]
          have hl8 : vleft a 3 = 8 * a := by unfold vleft; omega
          have hl2 : vleft a 1 = 2 * a := by unfold vleft; omega
          rw [hl8] at hE3
          rw [hl2] at hD3
          have HE3 := Lib.hid hE3
          have HD4 := Lib.hid hD3
          clear hJ hr hall hE3 hD3 hE hD hl8 hl2
          have hVE : w.heap.size + 1 ≠ E := by have := HV.out.v.lt; omega
          have hVD : w.heap.size + 1 ≠ D := by have := HV.out.v.lt; omega
          have q0 := HE3.out.c0
          have q1 := HE3.out.c1
          have q2 := HD4.out.c0
          have q3 := HD4.out.c1
          have KA1 : Hid (∀ W, Calls Tryz.prog 184 #[.agg #[.int .u64 (hi (8 * a)), .int .u64 (lo (8 * a))], .agg #[.int .u64 (hi (2 * a)), .int .u64 (lo (2 * a))], .int .i64 128] W (RetV (10 * a) W)) := Lib.hid fun W => by
            have h := radd_any (8 * a) (2 * a) 128 (by omega) (by omega) W
            have e : vadd 128 (8 * a) (2 * a) = 10 * a := by have hc : cl 128 = 128 := rfl; unfold vadd; rw [hc]; omega
            rwa [e] at h
          have KA2 : Hid (∀ W, Calls Tryz.prog 184 #[.agg #[.int .u64 (hi (10 * a)), .int .u64 (lo (10 * a))], .agg #[.int .u64 0, .int .u64 (d : Nat)], .int .i64 128] W (RetV x W)) := Lib.hid fun W => by
            have h := radd_dig (10 * a) d (by omega) (by omega) W
            have e : vadd 128 (10 * a) d = x := by have hc : cl 128 = 128 := rfl; unfold vadd; rw [hc]; have := HD3.out; omega
            rwa [e] at h
          rcases hdc with ⟨k1, k2, k3⟩ | ⟨k1, k2, k3⟩
          · have g0 : (48 : Int) ≤ (c : Int) := by omega
            have g1 : ¬ (97 : Int) ≤ (c : Int) := by omega
            have g2 : IntKind.u8.wrap ((c : Int) - 48) = (d : Int) := by rw [IntWalk.u8_in _ (by omega)]; omega
            have g3 : IntKind.u64.wrap (d : Int) = (d : Int) := IntWalk.u64_in _ (by omega)
            clear k3
            go_wp2_with fail
            go_at_call 184
            refine (KA1.out _).mono ?_
            rintro e w2 ⟨rfl, hb2⟩
            have HV2 := Lib.hid (HV1.out.call hb2)
            clear hb2
            go_wp2_with fail
            go_at_call 184
            refine (KA2.out _).mono ?_
            rintro e w3 ⟨rfl, hb3⟩
            have HV3 := Lib.hid (HV2.out.call hb3)
            have q4 := HV3.out.v.c0
            have q5 := HV3.out.v.c1
            have q6 := HV3.out.v.fr 0
            have q7 := HV3.out.v.fr 1
            have HV4 := Lib.hid (HV3.out.put x)
            clear hb3 g1 g2 g3
            go_wp2_with fail
            go_roundw
            case rel => (go_light; exact ⟨k + 1, x, by omega, by simp, HX.out, HV4.out⟩)
            case measure => simp [intOf]; omega
          · have g1 : (97 : Int) ≤ (c : Int) := by omega
            exfalso; omega
      · have h1 : ¬ (k : Int) < (t.size : Int) := by omega
        obtain rfl : a = v := by
          have h2 := HPV.out
          have h3 := hpv
          rw [show k = t.size by omega, h2] at h3
          injection h3 with h3
          exact h3.symm
        have q4 := HV.out.v.c0
        have q5 := HV.out.v.c1
        have q6 := HV.out.r.c0
        have q7 := HV.out.r.c1
        have q8 := HV.out.r.fr 0
        have q9 := HV.out.r.fr 1
        clear hpv hV
        go_wp2_with fail
        have z0 : ((wr.setCell ⟨w.heap.size, 0, none⟩ (.int .u64 (hi a))).setCell ⟨w.heap.size, 1, none⟩ (.int .u64 (lo a))).cell? ⟨w.heap.size, 0, none⟩ = some (.int .u64 (hi a)) := (HV.out.r.set a).c0
        have z1 : ((wr.setCell ⟨w.heap.size, 0, none⟩ (.int .u64 (hi a))).setCell ⟨w.heap.size, 1, none⟩ (.int .u64 (lo a))).cell? ⟨w.heap.size, 1, none⟩ = some (.int .u64 (lo a)) := (HV.out.r.set a).c1
        refine bodyPost_ret (v := .agg #[.int .u64 (hi a), .int .u64 (lo a)]) (by simp [results, Tryz.results179, go_sem, z0, z1]) rfl ⟨rfl, ?_⟩
        exact (HV.out.below.setCell (p := ⟨w.heap.size, 0, none⟩) (Nat.le_refl _) _).setCell (p := ⟨w.heap.size, 1, none⟩) (Nat.le_refl _) _
  · have h2I : ¬ (2 : Int) < (t.size : Int) := by omega
    clear hno
    go_enter Tryz.func179, Tryz.ntmps179
    go_wp2
    go_loopw [5, 6, 7, 8] (fun i _ _ _ w' => ∃ k a : Nat, k ≤ t.size ∧ i = .int .i64 k ∧ pv 10 (bt t) k = some a ∧ VAt w a w') (fun i _ _ _ _ => t.size - (intOf i).toNat)
    case atStart => exact ⟨0, 0, by omega, rfl, rfl, HST.out⟩
    case round =>
      clear HST
      obtain ⟨k, a, hk, rfl, hpv, hV⟩ := hrel
      have HV := Lib.hid hV
      by_cases hlk : k < t.size
      · have h1 : (k : Int) < (t.size : Int) := by omega
        obtain ⟨x, hx⟩ := pv_pre HPV.out (k := k + 1) hlk
        obtain ⟨hd1, hd2, hd3⟩ := pv_succ hpv hx
        obtain ⟨c, hc⟩ : ∃ c, bt t k = c := ⟨_, rfl⟩
        have hbyte : (t[k]'hlk).toNat = c := by rw [bt_at, hc]
        have hc2 : c < 256 := by rw [← hc]; exact bt_lt t k
        rw [hc] at hd1 hd2 hd3
        have HX := Lib.hid hx
        have HPK := Lib.hid hpv
        have ha : a < 2 ^ 128 := pv_lt hpv
        obtain ⟨d, hd⟩ : ∃ d, d = dgN c := ⟨_, rfl⟩
        rw [← hd] at hd1 hd2 hd3
        have hdc : (48 ≤ c ∧ c ≤ 57 ∧ d = c - 48) ∨ (97 ≤ c ∧ c ≤ 102 ∧ d = c - 87) := by
          rw [hd] at hd1 ⊢
          unfold dgN at hd1 ⊢
          split at hd1
          · rename_i hh; rw [if_pos hh]; left; exact ⟨hh.1, hh.2, rfl⟩
          · rename_i hh
            split at hd1
            · rename_i hh2; rw [if_neg hh, if_pos hh2]; right; exact ⟨hh2.1, hh2.2, rfl⟩
            · omega
        have HD3 := Lib.hid hd3
        clear hc hx hpv hd hV hd3
        go_upto_region 8 with (fail)
        refine wp_region_w (SJ wr a) (by kernel_rfl) ?_ ?_ ?_ ?_
        · simp [setw, slw]
        · exact ⟨by simp, (Below.refl _ _).drew, fun j hj h => by (have h4 : j = 0 ∨ j = 1 ∨ j = 2 ∨ j = 3 := (by omega)); rcases h4 with rfl | rfl | rfl | rfl <;> simp at h, fun h => by simp at h, fun h => by simp at h, fun _ _ _ _ h => by simp at h, fun h => by simp at h, fun h => by simp at h⟩
        · intro listed w1 v i hJ hrd
          obtain ⟨hlt2, hun0⟩ := ready_subW hrd
          have hlt3 : i < 8 := hlt2
          have hun : listed.getD i false = false := by
            have := hJ.size
            rw [Array.getD_eq_getD_getElem?, Array.getElem?_eq_getElem (by omega)] at hun0 ⊢
            exact hun0
          clear hlt2 hun0
          have HJ := Lib.hid hJ
          have hVb := (HV.out.v).below hJ.below HV.out.v.lt
          have b0 := hVb.c0
          have b1 := hVb.c1
          match i, hlt3 with
          | 0, _ =>
            refine wpOp_step rfl (fun K' hK => ?_)
            simp only [setw, List.setIfInBounds_toArray, List.set_cons_succ, List.set_cons_zero]
            have HH := Lib.hid hK
            clear hK hJ hrd hVb
            go_simp
            refine HH.out _ _ ⟨updw v 0 (shV a 0), by simp [setw, updw, shV, vA], HJ.out.step (by decide) (Below.refl _ _)⟩
          | 1, _ =>
            have e0 : v 0 = shV a 0 := hJ.f 0 (by decide) (ready_depW hrd rfl (e := ⟨0, .data⟩) (by simp) rfl)
            refine wpOp_step rfl (fun K' hK => ?_)
            simp only [setw, List.setIfInBounds_toArray, List.set_cons_succ, List.set_cons_zero]
            have HH := Lib.hid hK
            rw [e0]
            simp only [shV, vA]
            clear hK hJ hrd hVb
            go_simp
            go_at_call 183
            refine (rleft_any a 3 ha _).mono ?_
            rintro e w2 ⟨rfl, hb⟩
            go_simp
            refine HH.out _ _ ⟨updw v 1 (shV a 1), by simp [setw, updw, shV, vA, e0], HJ.out.step (by decide) hb⟩
          | 2, _ =>
            refine wpOp_step rfl (fun K' hK => ?_)
            simp only [setw, List.setIfInBounds_toArray, List.set_cons_succ, List.set_cons_zero]
            have HH := Lib.hid hK
            clear hK hJ hrd hVb
            go_simp
            refine HH.out _ _ ⟨updw v 2 (shV a 2), by simp [setw, updw, shV, vA], HJ.out.step (by decide) (Below.refl _ _)⟩
          | 3, _ =>
            have e0 : v 2 = shV a 2 := hJ.f 2 (by decide) (ready_depW hrd rfl (e := ⟨2, .data⟩) (by simp) rfl)
            refine wpOp_step rfl (fun K' hK => ?_)
            simp only [setw, List.setIfInBounds_toArray, List.set_cons_succ, List.set_cons_zero]
            have HH := Lib.hid hK
            rw [e0]
            simp only [shV, vA]
            clear hK hJ hrd hVb
            go_simp
            go_at_call 183
            refine (rleft_any a 1 ha _).mono ?_
            rintro e w2 ⟨rfl, hb⟩
            go_simp
            refine HH.out _ _ ⟨updw v 3 (shV a 3), by simp [setw, updw, shV, vA, e0], HJ.out.step (by decide) hb⟩
          | 4, _ =>
            refine wpOp_step rfl (fun K' hK => ?_)
            simp only [setw, List.setIfInBounds_toArray, List.set_cons_succ, List.set_cons_zero]
            have HH := Lib.hid hK
            clear hK hJ hrd hVb
            go_simp
            refine HH.out _ _ ⟨updw v 4 (.pointer (some ⟨w1.heap.size, 0, none⟩)), by simp [setw, updw], HJ.out.new4 hun⟩
          | 5, _ =>
            refine wpOp_step rfl (fun K' hK => ?_)
            simp only [setw, List.setIfInBounds_toArray, List.set_cons_succ, List.set_cons_zero]
            have HH := Lib.hid hK
            clear hK hJ hrd hVb
            go_simp
            refine HH.out _ _ ⟨updw v 5 (.pointer (some ⟨w1.heap.size, 0, none⟩)), by simp [setw, updw], HJ.out.new5 hun⟩
          | 6, _ =>
            have l4 : listed.getD 4 false = true := ready_depW hrd rfl (e := ⟨4, .data⟩) (by simp) rfl
            have e1 : v 1 = shV a 1 := hJ.f 1 (by decide) (ready_depW hrd rfl (e := ⟨1, .data⟩) (by simp) rfl)
            obtain ⟨E, hE, hE2, hE3⟩ := hJ.e l4
            rw [hun, if_neg (by decide)] at hE3
            have g0 := hE3.c0
            have g1 := hE3.c1
            have g2 := hE3.fr 0
            have g3 := hE3.fr 1
            refine wpOp_step rfl (fun K' hK => ?_)
            simp only [setw, List.setIfInBounds_toArray, List.set_cons_succ, List.set_cons_zero]
            have HH := Lib.hid hK
            rw [e1, hE]
            simp only [shV, vA]
            clear hK hJ hrd hVb hE3
            go_simp
            refine HH.out _ _ ⟨v, by simp [setw, e1, hE, shV, vA], HJ.out.put6 l4 hE⟩
          | 7, _ =>
            have l4 : listed.getD 5 false = true := ready_depW hrd rfl (e := ⟨5, .data⟩) (by simp) rfl
            have e1 : v 3 = shV a 3 := hJ.f 3 (by decide) (ready_depW hrd rfl (e := ⟨3, .data⟩) (by simp) rfl)
            obtain ⟨E, hE, hE2, hE3⟩ := hJ.d l4
            rw [hun, if_neg (by decide)] at hE3
            have g0 := hE3.c0
            have g1 := hE3.c1
            have g2 := hE3.fr 0
            have g3 := hE3.fr 1
            refine wpOp_step rfl (fun K' hK => ?_)
            simp only [setw, List.setIfInBounds_toArray, List.set_cons_succ, List.set_cons_zero]
            have HH := Lib.hid hK
            rw [e1, hE]
            simp only [shV, vA]
            clear hK hJ hrd hVb hE3
            go_simp
            refine HH.out _ _ ⟨v, by simp [setw, e1, hE, shV, vA], HJ.out.put7 l4 hE⟩
        · intro listed w1 v hJ hr
          have hall := ready_allW (by kernel_rfl) hJ.size hr
          obtain ⟨E, hE, hE2, hE3⟩ := hJ.e (hall 4 (by decide))
          obtain ⟨D, hD, hD2, hD3⟩ := hJ.d (hall 5 (by decide))
          have hED := hJ.ne E D hE hD (hall 4 (by decide)) (hall 5 (by decide))
          rw [hall 6 (by decide), if_pos rfl] at hE3
          rw [hall 7 (by decide), if_pos rfl] at hD3
          have HV1 := Lib.hid (HV.out.call hJ.below)
          simp only [setw, List.setIfInBounds_toArray, List.set_cons_succ, List.set_cons_zero]
          rw [hE, hD]
          have hl8 : vleft a 3 = 8 * a := by unfold vleft; omega
          have hl2 : vleft a 1 = 2 * a := by unfold vleft; omega
          rw [hl8] at hE3
          rw [hl2] at hD3
          have HE3 := Lib.hid hE3
          have HD4 := Lib.hid hD3
          clear hJ hr hall hE3 hD3 hE hD hl8 hl2
          have hVE : w.heap.size + 1 ≠ E := by have := HV.out.v.lt; omega
          have hVD : w.heap.size + 1 ≠ D := by have := HV.out.v.lt; omega
          have q0 := HE3.out.c0
          have q1 := HE3.out.c1
          have q2 := HD4.out.c0
          have q3 := HD4.out.c1
          have KA1 : Hid (∀ W, Calls Tryz.prog 184 #[.agg #[.int .u64 (hi (8 * a)), .int .u64 (lo (8 * a))], .agg #[.int .u64 (hi (2 * a)), .int .u64 (lo (2 * a))], .int .i64 128] W (RetV (10 * a) W)) := Lib.hid fun W => by
            have h := radd_any (8 * a) (2 * a) 128 (by omega) (by omega) W
            have e : vadd 128 (8 * a) (2 * a) = 10 * a := by have hc : cl 128 = 128 := rfl; unfold vadd; rw [hc]; omega
            rwa [e] at h
          have KA2 : Hid (∀ W, Calls Tryz.prog 184 #[.agg #[.int .u64 (hi (10 * a)), .int .u64 (lo (10 * a))], .agg #[.int .u64 0, .int .u64 (d : Nat)], .int .i64 128] W (RetV x W)) := Lib.hid fun W => by
            have h := radd_dig (10 * a) d (by omega) (by omega) W
            have e : vadd 128 (10 * a) d = x := by have hc : cl 128 = 128 := rfl; unfold vadd; rw [hc]; have := HD3.out; omega
            rwa [e] at h
          rcases hdc with ⟨k1, k2, k3⟩ | ⟨k1, k2, k3⟩
          · have g0 : (48 : Int) ≤ (c : Int) := by omega
            have g1 : ¬ (97 : Int) ≤ (c : Int) := by omega
            have g2 : IntKind.u8.wrap ((c : Int) - 48) = (d : Int) := by rw [IntWalk.u8_in _ (by omega)]; omega
            have g3 : IntKind.u64.wrap (d : Int) = (d : Int) := IntWalk.u64_in _ (by omega)
            clear k3
            go_wp2_with fail
            go_at_call 184
            refine (KA1.out _).mono ?_
            rintro e w2 ⟨rfl, hb2⟩
            have HV2 := Lib.hid (HV1.out.call hb2)
            clear hb2
            go_wp2_with fail
            go_at_call 184
            refine (KA2.out _).mono ?_
            rintro e w3 ⟨rfl, hb3⟩
            have HV3 := Lib.hid (HV2.out.call hb3)
            have q4 := HV3.out.v.c0
            have q5 := HV3.out.v.c1
            have q6 := HV3.out.v.fr 0
            have q7 := HV3.out.v.fr 1
            have HV4 := Lib.hid (HV3.out.put x)
            clear hb3 g1 g2 g3
            go_wp2_with fail
            go_roundw
            case rel => (go_light; exact ⟨k + 1, x, by omega, by simp, HX.out, HV4.out⟩)
            case measure => simp [intOf]; omega
          · have g1 : (97 : Int) ≤ (c : Int) := by omega
            exfalso; omega
      · have h1 : ¬ (k : Int) < (t.size : Int) := by omega
        obtain rfl : a = v := by
          have h2 := HPV.out
          have h3 := hpv
          rw [show k = t.size by omega, h2] at h3
          injection h3 with h3
          exact h3.symm
        have q4 := HV.out.v.c0
        have q5 := HV.out.v.c1
        have q6 := HV.out.r.c0
        have q7 := HV.out.r.c1
        have q8 := HV.out.r.fr 0
        have q9 := HV.out.r.fr 1
        clear hpv hV
        go_wp2_with fail
        have z0 : ((wr.setCell ⟨w.heap.size, 0, none⟩ (.int .u64 (hi a))).setCell ⟨w.heap.size, 1, none⟩ (.int .u64 (lo a))).cell? ⟨w.heap.size, 0, none⟩ = some (.int .u64 (hi a)) := (HV.out.r.set a).c0
        have z1 : ((wr.setCell ⟨w.heap.size, 0, none⟩ (.int .u64 (hi a))).setCell ⟨w.heap.size, 1, none⟩ (.int .u64 (lo a))).cell? ⟨w.heap.size, 1, none⟩ = some (.int .u64 (lo a)) := (HV.out.r.set a).c1
        refine bodyPost_ret (v := .agg #[.int .u64 (hi a), .int .u64 (lo a)]) (by simp [results, Tryz.results179, go_sem, z0, z1]) rfl ⟨rfl, ?_⟩
        exact (HV.out.below.setCell (p := ⟨w.heap.size, 0, none⟩) (Nat.le_refl _) _).setCell (p := ⟨w.heap.size, 1, none⟩) (Nat.le_refl _) _
end
/- The reference's value of a hexadecimal literal. -/
section
open Go.RowKit

set_option maxRecDepth 100000 in
set_option maxHeartbeats 8000000 in
theorem rp_val16 (s : ByteArray) (hs0 : s.size ≤ 400) (h2 : 2 < s.size) (hx : ((s.extract 0 2).toList == x0.toList) = true) (v : Nat) (hv0 : pv 16 (bt (s.extract 2 s.size)) (s.extract 2 s.size).size = some v) (w : World) :
    Calls Tryz.prog 179 #[.string s] w (RetV v w) := by
  rw [x0_list] at hx
  have h2I : (2 : Int) < (s.size : Int) := by omega
  have h2J : (2 : Int) ≤ (s.size : Int) := by omega
  obtain ⟨t, ht⟩ : ∃ t, t = s.extract 2 s.size := ⟨_, rfl⟩
  rw [← ht] at hv0
  have hs : t.size ≤ 400 := by rw [ht, ByteArray.size_extract]; omega
  have HPV := Lib.hid hv0
  have HST : Hid (VAt w 0 (((w.alloc (.cells #[.int .u64 0, .int .u64 0] 103)).drew).alloc (.cells #[.int .u64 0, .int .u64 0] 103))) := Lib.hid (by
    have h1 := VB.new w 0 103
    rw [hi_zro, lo_zro] at h1
    have h2 := VB.new (w.alloc (.cells #[.int .u64 0, .int .u64 0] 103)).drew 0 103
    rw [hi_zro, lo_zro] at h2
    have h3 : (w.alloc (.cells #[.int .u64 0, .int .u64 0] 103)).drew.heap.size = w.heap.size + 1 := by rw [drew_size]; simp
    rw [h3] at h2
    exact ⟨((((Below.refl _ _).alloc (Nat.le_refl _) _).drew).alloc (by rw [h3]; omega) _), (h1.call (Below.refl _ _).drew).call ((Below.refl _ _).alloc (Nat.le_refl _) _), h2⟩)
  clear hv0
  go_enter Tryz.func179, Tryz.ntmps179
  go_wp2
  go_region
  go_wp2
  rw [← ht]
  clear hx h2I h2J h2 hs0 ht
  go_loopw [5, 6, 7, 8] (fun i _ _ _ w' => ∃ k a : Nat, k ≤ t.size ∧ i = .int .i64 k ∧ pv 16 (bt t) k = some a ∧ VAt w a w') (fun i _ _ _ _ => t.size - (intOf i).toNat)
  case atStart => exact ⟨0, 0, by omega, rfl, rfl, HST.out⟩
  case round =>
    clear HST
    obtain ⟨k, a, hk, rfl, hpv, hV⟩ := hrel
    have HV := Lib.hid hV
    by_cases hlk : k < t.size
    · have h1 : (k : Int) < (t.size : Int) := by omega
      obtain ⟨x, hx⟩ := pv_pre HPV.out (k := k + 1) hlk
      obtain ⟨hd1, hd2, hd3⟩ := pv_succ hpv hx
      obtain ⟨c, hc⟩ : ∃ c, bt t k = c := ⟨_, rfl⟩
      have hbyte : (t[k]'hlk).toNat = c := by rw [bt_at, hc]
      have hc2 : c < 256 := by rw [← hc]; exact bt_lt t k
      rw [hc] at hd1 hd2 hd3
      have HX := Lib.hid hx
      have HPK := Lib.hid hpv
      have ha : a < 2 ^ 128 := pv_lt hpv
      obtain ⟨d, hd⟩ : ∃ d, d = dgN c := ⟨_, rfl⟩
      rw [← hd] at hd1 hd2 hd3
      have hdc : (48 ≤ c ∧ c ≤ 57 ∧ d = c - 48) ∨ (97 ≤ c ∧ c ≤ 102 ∧ d = c - 87) := by
        rw [hd] at hd1 ⊢
        unfold dgN at hd1 ⊢
        split at hd1
        · rename_i hh; rw [if_pos hh]; left; exact ⟨hh.1, hh.2, rfl⟩
        · rename_i hh
          split at hd1
          · rename_i hh2; rw [if_neg hh, if_pos hh2]; right; exact ⟨hh2.1, hh2.2, rfl⟩
          · omega
      have HD3 := Lib.hid hd3
      clear hc hx hpv hd hV hd3
      go_upto_region 8 with (fail)
      refine wp_region_w (SJ wr a) (by kernel_rfl) ?_ ?_ ?_ ?_
      · simp [setw, slw]
      · exact ⟨by simp, (Below.refl _ _).drew, fun j hj h => by (have h4 : j = 0 ∨ j = 1 ∨ j = 2 ∨ j = 3 := (by omega)); rcases h4 with rfl | rfl | rfl | rfl <;> simp at h, fun h => by simp at h, fun h => by simp at h, fun _ _ _ _ h => by simp at h, fun h => by simp at h, fun h => by simp at h⟩
      · intro listed w1 v i hJ hrd
        obtain ⟨hlt2, hun0⟩ := ready_subW hrd
        have hlt3 : i < 8 := hlt2
        have hun : listed.getD i false = false := by
          have := hJ.size
          rw [Array.getD_eq_getD_getElem?, Array.getElem?_eq_getElem (by omega)] at hun0 ⊢
          exact hun0
        clear hlt2 hun0
        have HJ := Lib.hid hJ
        have hVb := (HV.out.v).below hJ.below HV.out.v.lt
        have b0 := hVb.c0
        have b1 := hVb.c1
        match i, hlt3 with
        | 0, _ =>
          refine wpOp_step rfl (fun K' hK => ?_)
          simp only [setw, List.setIfInBounds_toArray, List.set_cons_succ, List.set_cons_zero]
          have HH := Lib.hid hK
          clear hK hJ hrd hVb
          go_simp
          refine HH.out _ _ ⟨updw v 0 (shV a 0), by simp [setw, updw, shV, vA], HJ.out.step (by decide) (Below.refl _ _)⟩
        | 1, _ =>
          have e0 : v 0 = shV a 0 := hJ.f 0 (by decide) (ready_depW hrd rfl (e := ⟨0, .data⟩) (by simp) rfl)
          refine wpOp_step rfl (fun K' hK => ?_)
          simp only [setw, List.setIfInBounds_toArray, List.set_cons_succ, List.set_cons_zero]
          have HH := Lib.hid hK
          rw [e0]
          simp only [shV, vA]
          clear hK hJ hrd hVb
          go_simp
          go_at_call 183
          refine (rleft_any a 3 ha _).mono ?_
          rintro e w2 ⟨rfl, hb⟩
          go_simp
          refine HH.out _ _ ⟨updw v 1 (shV a 1), by simp [setw, updw, shV, vA, e0], HJ.out.step (by decide) hb⟩
        | 2, _ =>
          refine wpOp_step rfl (fun K' hK => ?_)
          simp only [setw, List.setIfInBounds_toArray, List.set_cons_succ, List.set_cons_zero]
          have HH := Lib.hid hK
          clear hK hJ hrd hVb
          go_simp
          refine HH.out _ _ ⟨updw v 2 (shV a 2), by simp [setw, updw, shV, vA], HJ.out.step (by decide) (Below.refl _ _)⟩
        | 3, _ =>
          have e0 : v 2 = shV a 2 := hJ.f 2 (by decide) (ready_depW hrd rfl (e := ⟨2, .data⟩) (by simp) rfl)
          refine wpOp_step rfl (fun K' hK => ?_)
          simp only [setw, List.setIfInBounds_toArray, List.set_cons_succ, List.set_cons_zero]
          have HH := Lib.hid hK
          rw [e0]
          simp only [shV, vA]
          clear hK hJ hrd hVb
          go_simp
          go_at_call 183
          refine (rleft_any a 1 ha _).mono ?_
          rintro e w2 ⟨rfl, hb⟩
          go_simp
          refine HH.out _ _ ⟨updw v 3 (shV a 3), by simp [setw, updw, shV, vA, e0], HJ.out.step (by decide) hb⟩
        | 4, _ =>
          refine wpOp_step rfl (fun K' hK => ?_)
          simp only [setw, List.setIfInBounds_toArray, List.set_cons_succ, List.set_cons_zero]
          have HH := Lib.hid hK
          clear hK hJ hrd hVb
          go_simp
          refine HH.out _ _ ⟨updw v 4 (.pointer (some ⟨w1.heap.size, 0, none⟩)), by simp [setw, updw], HJ.out.new4 hun⟩
        | 5, _ =>
          refine wpOp_step rfl (fun K' hK => ?_)
          simp only [setw, List.setIfInBounds_toArray, List.set_cons_succ, List.set_cons_zero]
          have HH := Lib.hid hK
          clear hK hJ hrd hVb
          go_simp
          refine HH.out _ _ ⟨updw v 5 (.pointer (some ⟨w1.heap.size, 0, none⟩)), by simp [setw, updw], HJ.out.new5 hun⟩
        | 6, _ =>
          have l4 : listed.getD 4 false = true := ready_depW hrd rfl (e := ⟨4, .data⟩) (by simp) rfl
          have e1 : v 1 = shV a 1 := hJ.f 1 (by decide) (ready_depW hrd rfl (e := ⟨1, .data⟩) (by simp) rfl)
          obtain ⟨E, hE, hE2, hE3⟩ := hJ.e l4
          rw [hun, if_neg (by decide)] at hE3
          have g0 := hE3.c0
          have g1 := hE3.c1
          have g2 := hE3.fr 0
          have g3 := hE3.fr 1
          refine wpOp_step rfl (fun K' hK => ?_)
          simp only [setw, List.setIfInBounds_toArray, List.set_cons_succ, List.set_cons_zero]
          have HH := Lib.hid hK
          rw [e1, hE]
          simp only [shV, vA]
          clear hK hJ hrd hVb hE3
          go_simp
          refine HH.out _ _ ⟨v, by simp [setw, e1, hE, shV, vA], HJ.out.put6 l4 hE⟩
        | 7, _ =>
          have l4 : listed.getD 5 false = true := ready_depW hrd rfl (e := ⟨5, .data⟩) (by simp) rfl
          have e1 : v 3 = shV a 3 := hJ.f 3 (by decide) (ready_depW hrd rfl (e := ⟨3, .data⟩) (by simp) rfl)
          obtain ⟨E, hE, hE2, hE3⟩ := hJ.d l4
          rw [hun, if_neg (by decide)] at hE3
          have g0 := hE3.c0
          have g1 := hE3.c1
          have g2 := hE3.fr 0
          have g3 := hE3.fr 1
          refine wpOp_step rfl (fun K' hK => ?_)
          simp only [setw, List.setIfInBounds_toArray, List.set_cons_succ, List.set_cons_zero]
          have HH := Lib.hid hK
          rw [e1, hE]
          simp only [shV, vA]
          clear hK hJ hrd hVb hE3
          go_simp
          refine HH.out _ _ ⟨v, by simp [setw, e1, hE, shV, vA], HJ.out.put7 l4 hE⟩
      · intro listed w1 v hJ hr
        have hall := ready_allW (by kernel_rfl) hJ.size hr
        obtain ⟨E, hE, hE2, hE3⟩ := hJ.e (hall 4 (by decide))
        obtain ⟨D, hD, hD2, hD3⟩ := hJ.d (hall 5 (by decide))
        have hED := hJ.ne E D hE hD (hall 4 (by decide)) (hall 5 (by decide))
        rw [hall 6 (by decide), if_pos rfl] at hE3
        rw [hall 7 (by decide), if_pos rfl] at hD3
        have HV1 := Lib.hid (HV.out.call hJ.below)
        simp only [setw, List.setIfInBounds_toArray, List.set_cons_succ, List.set_cons_zero]
        rw [hE, hD]
        have hl8 : vleft a 3 = 8 * a := by unfold vleft; omega
        have hl2 : vleft a 1 = 2 * a := by unfold vleft; omega
        rw [hl8] at hE3
        rw [hl2] at hD3
        have HE3 := Lib.hid hE3
        have HD4 := Lib.hid hD3
        clear hJ hr hall hE3 hD3 hE hD hl8 hl2
        have hVE : w.heap.size + 1 ≠ E := by have := HV.out.v.lt; omega
        have hVD : w.heap.size + 1 ≠ D := by have := HV.out.v.lt; omega
        have q0 := HE3.out.c0
        have q1 := HE3.out.c1
        have q2 := HD4.out.c0
        have q3 := HD4.out.c1
        have q8 := HD4.out.fr 0
        have q9 := HD4.out.fr 1
        have hdw : w.heap.size ≠ D := by have := HV.out.v.lt; omega
        have KA1 : Hid (∀ W, Calls Tryz.prog 184 #[.agg #[.int .u64 (hi (8 * a)), .int .u64 (lo (8 * a))], .agg #[.int .u64 (hi (8 * a)), .int .u64 (lo (8 * a))], .int .i64 128] W (RetV (16 * a) W)) := Lib.hid fun W => by
          have h := radd_any (8 * a) (8 * a) 128 (by omega) (by omega) W
          have e : vadd 128 (8 * a) (8 * a) = 16 * a := by have hc : cl 128 = 128 := rfl; unfold vadd; rw [hc]; omega
          rwa [e] at h
        have KA2 : Hid (∀ W, Calls Tryz.prog 184 #[.agg #[.int .u64 (hi (16 * a)), .int .u64 (lo (16 * a))], .agg #[.int .u64 0, .int .u64 (d : Nat)], .int .i64 128] W (RetV x W)) := Lib.hid fun W => by
          have h := radd_dig (16 * a) d (by omega) (by omega) W
          have e : vadd 128 (16 * a) d = x := by have hc : cl 128 = 128 := rfl; unfold vadd; rw [hc]; have := HD3.out; omega
          rwa [e] at h
        rcases hdc with ⟨k1, k2, k3⟩ | ⟨k1, k2, k3⟩
        · have g0 : (48 : Int) ≤ (c : Int) := by omega
          have g1 : ¬ (97 : Int) ≤ (c : Int) := by omega
          have g2 : IntKind.u8.wrap ((c : Int) - 48) = (d : Int) := by rw [IntWalk.u8_in _ (by omega)]; omega
          have g3 : IntKind.u64.wrap (d : Int) = (d : Int) := IntWalk.u64_in _ (by omega)
          clear k3
          go_wp2_with fail
          go_at_call 184
          refine (KA1.out _).mono ?_
          rintro e w2 ⟨rfl, hb2⟩
          have HV2 := Lib.hid ((HV1.out.farD (by have := HV.out.v.lt; omega) (fun e => hdw e.symm) (fun e => hVD e.symm) _ _).call hb2)
          clear hb2
          go_wp2_with fail
          go_at_call 184
          refine (KA2.out _).mono ?_
          rintro e w3 ⟨rfl, hb3⟩
          have HV3 := Lib.hid (HV2.out.call hb3)
          have q4 := HV3.out.v.c0
          have q5 := HV3.out.v.c1
          have q6 := HV3.out.v.fr 0
          have q7 := HV3.out.v.fr 1
          have HV4 := Lib.hid (HV3.out.put x)
          clear hb3 g1 g2 g3
          go_wp2_with fail
          go_roundw
          case rel => (go_light; exact ⟨k + 1, x, by omega, by simp, HX.out, HV4.out⟩)
          case measure => simp [intOf]; omega
        · have g1 : (97 : Int) ≤ (c : Int) := by omega
          have g2 : IntKind.u8.wrap ((c : Int) - 97) = (c : Int) - 97 := IntWalk.u8_in _ (by omega)
          have g3 : IntKind.u64.wrap ((c : Int) - 97) = (c : Int) - 97 := IntWalk.u64_in _ (by omega)
          have g4 : IntKind.u64.wrap ((c : Int) - 97 + 10) = (d : Int) := by rw [IntWalk.u64_in _ (by omega)]; omega
          have g5 : (c : Int) - 97 + 10 = (d : Int) := by omega
          clear k3
          go_wp2_with fail
          go_at_call 184
          refine (KA1.out _).mono ?_
          rintro e w2 ⟨rfl, hb2⟩
          have HV2 := Lib.hid ((HV1.out.farD (by have := HV.out.v.lt; omega) (fun e => hdw e.symm) (fun e => hVD e.symm) _ _).call hb2)
          clear hb2
          go_wp2_with fail
          go_at_call 184
          refine (KA2.out _).mono ?_
          rintro e w3 ⟨rfl, hb3⟩
          have HV3 := Lib.hid (HV2.out.call hb3)
          have q4 := HV3.out.v.c0
          have q5 := HV3.out.v.c1
          have q6 := HV3.out.v.fr 0
          have q7 := HV3.out.v.fr 1
          have HV4 := Lib.hid (HV3.out.put x)
          clear hb3 g1 g2 g3
          go_wp2_with fail
          go_roundw
          case rel => (go_light; exact ⟨k + 1, x, by omega, by simp, HX.out, HV4.out⟩)
          case measure => simp [intOf]; omega
    · have h1 : ¬ (k : Int) < (t.size : Int) := by omega
      obtain rfl : a = v := by
        have h2 := HPV.out
        have h3 := hpv
        rw [show k = t.size by omega, h2] at h3
        injection h3 with h3
        exact h3.symm
      have q4 := HV.out.v.c0
      have q5 := HV.out.v.c1
      have q6 := HV.out.r.c0
      have q7 := HV.out.r.c1
      have q8 := HV.out.r.fr 0
      have q9 := HV.out.r.fr 1
      clear hpv hV
      go_wp2_with fail
      have z0 : ((wr.setCell ⟨w.heap.size, 0, none⟩ (.int .u64 (hi a))).setCell ⟨w.heap.size, 1, none⟩ (.int .u64 (lo a))).cell? ⟨w.heap.size, 0, none⟩ = some (.int .u64 (hi a)) := (HV.out.r.set a).c0
      have z1 : ((wr.setCell ⟨w.heap.size, 0, none⟩ (.int .u64 (hi a))).setCell ⟨w.heap.size, 1, none⟩ (.int .u64 (lo a))).cell? ⟨w.heap.size, 1, none⟩ = some (.int .u64 (lo a)) := (HV.out.r.set a).c1
      refine bodyPost_ret (v := .agg #[.int .u64 (hi a), .int .u64 (lo a)]) (by simp [results, Tryz.results179, go_sem, z0, z1]) rfl ⟨rfl, ?_⟩
      exact (HV.out.below.setCell (p := ⟨w.heap.size, 0, none⟩) (Nat.le_refl _) _).setCell (p := ⟨w.heap.size, 1, none⟩) (Nat.le_refl _) _
/-- the value of every literal -/
theorem rp_value (s : ByteArray) (hs : s.size ≤ 400) (v : Nat) (hv : litV s = some v) (w : World) : Calls Tryz.prog 179 #[.string s] w (RetV v w) := by
  unfold litV at hv
  split at hv
  · rename_i h0
    by_cases hp : hpB s x0 = true
    · have e1 : litS s = s.extract 2 s.size := by unfold litS; rw [if_pos hp]
      have e2 : litB s = 16 := by unfold litB; rw [if_pos hp]
      rw [e1, e2] at hv
      rw [e1, ByteArray.size_extract] at h0
      have hx : ((s.extract 0 2).toList == x0.toList) = true := by
        unfold hpB at hp
        rw [Bool.and_eq_true] at hp
        exact hp.2
      exact rp_val16 s hs (by omega) hx v hv w
    · have e1 : litS s = s := by unfold litS; rw [if_neg hp]
      have e2 : litB s = 10 := by unfold litB; rw [if_neg hp]
      rw [e1, e2] at hv
      refine rp_val10 s hs ?_ v hv w
      have hp2 : hpB s x0 = false := by simpa using hp
      unfold hpB at hp2
      have hx0 : x0.size = 2 := rfl
      rw [hx0] at hp2
      by_cases h2 : 2 < s.size
      · rw [decide_eq_true (by omega : 2 ≤ s.size), Bool.true_and] at hp2
        rw [hp2, Bool.and_false]
      · rw [decide_eq_false h2, Bool.false_and]
  · cases hv
end
/- The reference's variable and atom. -/
section
open Go.RowKit

set_option maxRecDepth 100000 in
set_option maxHeartbeats 4000000 in
theorem rp_var {B b len cap : Nat} {A : Option Addr} {l : List Tok} {p : PS} {w : World} (hT : TokOk l) (h : RAt B b len cap A l p w) (g : PR l p) (hlt : p.out.length + 1 ≤ 400) (x : ByteArray) :
    Calls Tryz.prog 180 #[.pointer (some ⟨b, 0, none⟩), .string x] w (RetQ B b len cap A l (pVar l x p) w) := by
  have hpv := pVar_tok l x p
  have hal : p.at_ ≤ 400 := Nat.le_trans g.ha hT.len
  have KT := Lib.hid (rp_take h (by omega) syOf)
  obtain ⟨sv, hsv⟩ : ∃ s, s = see l p syOf := ⟨_, rfl⟩
  rw [← hsv] at KT hpv
  have HSV := Lib.hid hsv
  have HPV := Lib.hid hpv
  have HT := Lib.hid hT
  clear hsv hpv h hT
  cases sv
  · have KT2 : Hid (Calls Tryz.prog 124 #[.pointer (some ⟨b, 0, none⟩), .string syOf] w (RetR B b len cap A l (.bool false) p w)) := Lib.hid (by have := KT.out; simpa using this)
    go_enter Tryz.func180, Tryz.ntmps180
    go_wp2_with fail
    go_at_call 124
    refine KT2.out.mono ?_
    rintro e w1 ⟨rfl, p1, k1⟩
    have P1 := Lib.hid p1
    have HK1 := Lib.hid k1
    clear p1 k1 KT KT2
    go_wp2_with fail
    go_at_call 125
    refine (rp_node P1.out (by omega) ⟨3, 0, 0, x, ⟨#[]⟩, 0⟩ _ _ _ _ _ _ _ (nd_name x _)).mono ?_
    rintro e w2 ⟨rfl, p2, k2⟩
    have P2 := Lib.hid p2
    have HK2 := Lib.hid (HK1.out.trans k2)
    clear p2 k2
    go_wp2_with fail
    go_ret
    rw [HPV.out, if_neg (by decide)]
    exact ⟨rfl, P2.out, HK2.out⟩
  · have KT2 : Hid (Calls Tryz.prog 124 #[.pointer (some ⟨b, 0, none⟩), .string syOf] w (RetR B b len cap A l (.bool true) p.adv w)) := Lib.hid (by have := KT.out; simpa using this)
    have hpv := HPV.out
    rw [if_pos rfl] at hpv
    have HPV2 := Lib.hid hpv
    have hlt1 := (see_lt HSV.out.symm).1
    clear hpv KT HPV
    obtain ⟨a, ha⟩ : ∃ a, a = p.at_ + 1 := ⟨_, rfl⟩
    go_enter Tryz.func180, Tryz.ntmps180
    go_wp2_with fail
    go_at_call 124
    refine KT2.out.mono ?_
    rintro e w1 ⟨rfl, p1, k1⟩
    have P1 := Lib.hid p1
    have HK1 := Lib.hid k1
    have c0 := p1.c0
    have c1 : w1.cell? ⟨b, 1, none⟩ = some (.int .i64 (a : Nat)) := by rw [ha]; exact p1.c1
    have cb := p1.cb
    have f2 := p1.fr 2
    have f1 := p1.fr 1
    have hlen := p1.hl
    have hcap := p1.hc
    have tc := p1.tokCells
    clear p1 k1 KT2
    go_upto_region 3 with (fail)
    by_cases hge : a = len
    · subst hge
      have hk : ¬ (tokAt l (p.at_ + 1)).kind = 2 := by rw [tokAt_ge (by omega)]; decide
      have hpv := HPV2.out
      rw [if_neg hk] at hpv
      have HPV3 := Lib.hid hpv
      clear hpv HPV2 hk tc hlen
      go_quiet (fail)
      go_wp2
      go_ret
      have hd := P1.out.call (below_drewN (Below.refl w1.heap.size w1) nq)
      rw [HPV3.out]
      refine ⟨rfl, hd.setBad, ((HK1.out.trans (Kp.of (below_drewN (Below.refl w1.heap.size w1) nq) P1.out.base)).set P1.out.hB _ _)⟩
    · have hlt2 : a < l.length := by omega
      have hgeI : ¬ (a : Int) = (len : Int) := by omega
      have hltI : (a : Int) < (len : Int) := by omega
      have hgeB : ((a : Int) == (len : Int)) = false := by rw [beq_eq_false_iff_ne]; omega
      obtain ⟨gg, hg, hgB, t0, t1, _⟩ := tc (by show p.at_ + 1 < _; omega)
      subst hg
      have t0b : w1.cell? ⟨gg, a * 3, none⟩ = some (.int .i64 (tokAt l a).kind) := by rw [ha]; exact t0
      have t1b : w1.cell? ⟨gg, a * 3 + 1, none⟩ = some (.string (tokAt l a).text) := by rw [ha]; exact t1
      have HA := Lib.hid ha
      have ha4 : a ≤ 401 := by omega
      obtain ⟨tk, hk⟩ : ∃ t : Nat, t = (tokAt l a).kind := ⟨_, rfl⟩
      obtain ⟨tx, hx⟩ : ∃ t, t = (tokAt l a).text := ⟨_, rfl⟩
      rw [← hk] at t0b
      rw [← hx] at t1b
      have hpv := HPV2.out
      rw [← ha, ← hk, ← hx] at hpv
      have HPV3 := Lib.hid hpv
      clear hpv HPV2 t0 t1 tc ha hk hx hlen
      by_cases hk2 : tk = 2
      · subst hk2
        have hpv := HPV3.out
        rw [if_pos rfl] at hpv
        have HPV4 := Lib.hid hpv
        clear hpv HPV3
        have hwr : IntKind.i64.wrap ((a : Int) + 1) = (a : Int) + 1 := IntWalk.i64_in _ (by omega)
        go_quiet (fail)
        go_upto_region 7 with (fail)
        have hd := P1.out.call (below_drewN (Below.refl w1.heap.size w1) nq)
        have hP3 := adv_ofR hd
        rw [show ((p.adv.at_ : Nat) : Int) = (a : Int) by rw [HA.out]; rfl] at hP3
        have HP3 := Lib.hid hP3.drew
        have HK3 := Lib.hid (((HK1.out.trans (Kp.of (below_drewN (Below.refl w1.heap.size w1) nq) P1.out.base)).set P1.out.hB 1 (.int .i64 ((a : Int) + 1))).drew)
        obtain ⟨m, hm⟩ : ∃ m : Int, m = (a : Int) + 1 := ⟨_, rfl⟩
        have c0' := hP3.c0
        have c1' : ((w1.drewN nq).setCell ⟨b, 1, none⟩ (.int .i64 ((a : Int) + 1))).cell? ⟨b, 1, none⟩ = some (.int .i64 m) := by
          rw [hm]; exact World.cell?_setCell_same' _ _ _ (by rw [hd.c1]; rfl)
        have hgb : gg ≠ b := by have := P1.out.hB; omega
        have t1' : ((w1.drewN nq).setCell ⟨b, 1, none⟩ (.int .i64 ((a : Int) + 1))).cell? ⟨gg, a * 3 + 1, none⟩ = some (.string tx) := by
          rw [World.cell?_setCell_other _ _ _ _ (by intro e; injection e with e; exact hgb e.symm), World.cell?_drewN]; exact t1b
        have hs1 : IntKind.i64.wrap (m - 1) = (a : Int) := by rw [IntWalk.i64_in _ (by omega)]; omega
        have hs2 : IntKind.i64.wrap (a : Int) = (a : Int) := IntWalk.i64_in _ (by omega)
        clear c0 c1 cb f1 f2 t0b t1b hP3 hd hwr hm
        generalize (w1.drewN nq).setCell ⟨b, 1, none⟩ (.int .i64 ((a : Int) + 1)) = W at HP3 HK3 c0' c1' t1' ⊢
        go_still_tail 15, (by kernel_rfl)
        change wpList _ _ _ _ _ W.drew
        go_wp2_with fail
        go_at_call 125
        refine (rp_node HP3.out (by have : p.adv.adv.out.length = p.out.length := rfl; omega) ⟨3, 0, 0, x, tx, 0⟩ _ _ _ _ _ _ _ (nd_name x tx)).mono ?_
        rintro e w4 ⟨rfl, p4, k4⟩
        have P4 := Lib.hid p4
        have HK4 := Lib.hid (HK3.out.trans k4)
        clear p4 k4
        go_wp2_with fail
        go_ret
        rw [HPV4.out]
        exact ⟨rfl, P4.out, HK4.out⟩
      · have hkI : ((tk : Int) == 2) = false := by rw [beq_eq_false_iff_ne]; omega
        have hkJ : ¬ (tk : Int) = 2 := by omega
        have hkN : ((tk : Int) != 2) = true := by simp; omega
        have hpv := HPV3.out
        rw [if_neg hk2] at hpv
        have HPV4 := Lib.hid hpv
        clear hpv HPV3
        go_quiet (fail)
        go_wp2
        go_ret
        have hd := P1.out.call (below_drewN (Below.refl w1.heap.size w1) nq)
        rw [HPV4.out]
        refine ⟨rfl, hd.setBad, ((HK1.out.trans (Kp.of (below_drewN (Below.refl w1.heap.size w1) nq) P1.out.base)).set P1.out.hB _ _)⟩
end
/- The reference's atom; every rule. -/
section
open Go.RowKit

set_option maxRecDepth 100000 in
set_option maxHeartbeats 4000000 in
theorem rp_atm {B b len cap n : Nat} {A : Option Addr} {l : List Tok} {p : PS} {w : World} {r : Nat × PS} (ih : IR l n) (hT : TokOk l) (h : RAt B b len cap A l p w) (g : PR l p) (e : pR l (n + 1) .atm p = some r) :
    Calls Tryz.prog 177 #[.pointer (some ⟨b, 0, none⟩)] w (RetQ B b len cap A l r w) := by
  have c0 := h.c0
  have c1 := h.c1
  have cb := h.cb
  have f1 := h.fr 1
  have f2 := h.fr 2
  have hlen := h.hl
  have hcap := h.hc
  obtain ⟨bd, hbd⟩ : ∃ x, x = p.bad := ⟨_, rfl⟩
  rw [← hbd] at cb
  have hbad := hbd.symm
  clear hbd
  obtain ⟨a, ha⟩ : ∃ a, a = p.at_ := ⟨_, rfl⟩
  rw [← ha] at c1
  have hae : a ≤ l.length := by rw [ha]; exact g.ha
  by_cases hout : bd = true ∨ a = len
  · have hr : r = (0, p.fai) := by
      rw [pR] at e
      rcases hout with hh | hh
      · rw [hh] at hbad
        rw [if_pos hbad] at e
        injection e with e; exact e.symm
      · by_cases hb2 : p.bad = true
        · rw [if_pos hb2] at e; injection e with e; exact e.symm
        · rw [if_neg hb2, List.getElem?_eq_none (by rw [← ha]; omega)] at e
          injection e with e; exact e.symm
    subst hr
    have P0 := Lib.hid h
    clear e h g hlen ih hT
    cases bd
    · have hal : a = len := by rcases hout with hh | hh; cases hh; exact hh
      subst hal
      clear hout
      go_enter Tryz.func177, Tryz.ntmps177
      go_wp2
      go_quiet (fail)
      go_wp2
      go_ret
      have hd := P0.out.call (below_drewN (Below.refl w.heap.size w) nq)
      exact ⟨rfl, hd.setBad, (Kp.of (below_drewN (Below.refl w.heap.size w) nq) P0.out.base).set P0.out.hB _ _⟩
    · clear hout
      go_enter Tryz.func177, Tryz.ntmps177
      go_wp2
      go_quiet (fail)
      go_wp2
      go_ret
      have hd := P0.out.call (below_drewN (Below.refl w.heap.size w) nq)
      exact ⟨rfl, hd.setBad, (Kp.of (below_drewN (Below.refl w.heap.size w) nq) P0.out.base).set P0.out.hB _ _⟩
  · have hbf : bd = false := by cases bd; rfl; exact absurd (.inl rfl) hout
    subst hbf
    have hne : ¬ a = len := fun hh => hout (.inr hh)
    rw [pR_atm l n p hbad] at e
    obtain ⟨gg, hg, hgB, t0, t1, t2⟩ := h.tokCells (by rw [← ha]; omega)
    subst hg
    rw [← ha] at t0 t1 t2 e
    have hltI : (a : Int) < (len : Int) := by omega
    have hneI : ¬ (a : Int) = (len : Int) := by omega
    have hneB : ((a : Int) == (len : Int)) = false := by rw [beq_eq_false_iff_ne]; omega
    have hal : a ≤ 400 := by have := hT.len; omega
    obtain ⟨tk, hk⟩ : ∃ t : Nat, t = (tokAt l a).kind := ⟨_, rfl⟩
    obtain ⟨tx, hx⟩ : ∃ t, t = (tokAt l a).text := ⟨_, rfl⟩
    obtain ⟨ta, hta⟩ : ∃ t : Nat, t = (tokAt l a).at_ := ⟨_, rfl⟩
    rw [← hk] at t0 e
    rw [← hx] at t1
    rw [← hta] at t2
    have HX := Lib.hid hx
    have HKD := Lib.hid hk
    have HA := Lib.hid ha
    have HE := Lib.hid e
    have P0 := Lib.hid h
    have G0 := Lib.hid g
    have HBD := Lib.hid hbad
    have hbw : b < w.heap.size := h.lt
    have hgb : gg ≠ b := by have := h.hB; omega
    clear hk hx hta ha e h g hbad hout hne hlen hae
    go_enter Tryz.func177, Tryz.ntmps177
    go_wp2
    go_quiet (fail)
    go_upto_region 4 with (fail)
    have PW := Lib.hid (P0.out.call (below_drewN (Below.refl w.heap.size w) nq))
    have HKW : Hid (Kp B b 131 w (w.drewN nq)) := Lib.hid (Kp.of (below_drewN (Below.refl w.heap.size w) nq) P0.out.base)
    have c0' : (w.drewN nq).cell? ⟨b, 0, none⟩ = some (.slice (some ⟨gg, 0, none⟩) len cap) := c0
    have c1' : (w.drewN nq).cell? ⟨b, 1, none⟩ = some (.int .i64 (a : Nat)) := c1
    have t0' : (w.drewN nq).cell? ⟨gg, a * 3, none⟩ = some (.int .i64 (tk : Nat)) := t0
    have t1' : (w.drewN nq).cell? ⟨gg, a * 3 + 1, none⟩ = some (.string tx) := t1
    have t2' : (w.drewN nq).cell? ⟨gg, a * 3 + 2, none⟩ = some (.int .i64 (ta : Nat)) := t2
    have hbw' : b < (w.drewN nq).heap.size := by rw [size_drewN]; exact hbw
    have hgw' : gg < (w.drewN nq).heap.size := by rw [size_drewN]; have := P0.out.base; omega
    clear c0 c1 cb f1 f2 t0 t1 t2 hbw
    generalize w.drewN nq = W at PW HKW c0' c1' t0' t1' t2' hbw' hgw' ⊢
    have z0 : (W.drew.alloc (.cells #[.int .i64 0, .string ⟨#[]⟩, .int .i64 0] 194)).cell? ⟨W.heap.size, 0, none⟩ = some (.int .i64 0) := World.cell?_alloc_new W.drew _ _ 0
    have z1 : (W.drew.alloc (.cells #[.int .i64 0, .string ⟨#[]⟩, .int .i64 0] 194)).cell? ⟨W.heap.size, 1, none⟩ = some (.string ⟨#[]⟩) := World.cell?_alloc_new W.drew _ _ 1
    have z2 : (W.drew.alloc (.cells #[.int .i64 0, .string ⟨#[]⟩, .int .i64 0] 194)).cell? ⟨W.heap.size, 2, none⟩ = some (.int .i64 0) := World.cell?_alloc_new W.drew _ _ 2
    have y0 : (W.drew.alloc (.cells #[.int .i64 0, .string ⟨#[]⟩, .int .i64 0] 194)).frozen? ⟨W.heap.size, 0, none⟩ = false := World.frozen?_alloc_new W.drew ..
    have y1 : (W.drew.alloc (.cells #[.int .i64 0, .string ⟨#[]⟩, .int .i64 0] 194)).frozen? ⟨W.heap.size, 1, none⟩ = false := World.frozen?_alloc_new W.drew ..
    have y2 : (W.drew.alloc (.cells #[.int .i64 0, .string ⟨#[]⟩, .int .i64 0] 194)).frozen? ⟨W.heap.size, 2, none⟩ = false := World.frozen?_alloc_new W.drew ..
    have x0 : (W.drew.alloc (.cells #[.int .i64 0, .string ⟨#[]⟩, .int .i64 0] 194)).cell? ⟨b, 0, none⟩ = some (.slice (some ⟨gg, 0, none⟩) len cap) := by rw [World.cell?_alloc_past _ _ _ (by exact hbw')]; exact c0'
    have x1 : (W.drew.alloc (.cells #[.int .i64 0, .string ⟨#[]⟩, .int .i64 0] 194)).cell? ⟨b, 1, none⟩ = some (.int .i64 (a : Nat)) := by rw [World.cell?_alloc_past _ _ _ (by exact hbw')]; exact c1'
    have u0 : (W.drew.alloc (.cells #[.int .i64 0, .string ⟨#[]⟩, .int .i64 0] 194)).cell? ⟨gg, a * 3, none⟩ = some (.int .i64 (tk : Nat)) := by rw [World.cell?_alloc_past _ _ _ (by exact hgw')]; exact t0'
    have u1 : (W.drew.alloc (.cells #[.int .i64 0, .string ⟨#[]⟩, .int .i64 0] 194)).cell? ⟨gg, a * 3 + 1, none⟩ = some (.string tx) := by rw [World.cell?_alloc_past _ _ _ (by exact hgw')]; exact t1'
    have u2 : (W.drew.alloc (.cells #[.int .i64 0, .string ⟨#[]⟩, .int .i64 0] 194)).cell? ⟨gg, a * 3 + 2, none⟩ = some (.int .i64 (ta : Nat)) := by rw [World.cell?_alloc_past _ _ _ (by exact hgw')]; exact t2'
    go_region
    simp only [Exit.then]
    apply_assumption
    have hbel : Below W.heap.size W ((W.alloc (.cells #[.int .i64 (tk : Nat), .string tx, .int .i64 (ta : Nat)] 194)).drew) := ((Below.refl W.heap.size W).alloc (Nat.le_refl _) _).drew
    have q0 : ((W.alloc (.cells #[.int .i64 (tk : Nat), .string tx, .int .i64 (ta : Nat)] 194)).drew).cell? ⟨W.heap.size, 0, none⟩ = some (.int .i64 (tk : Nat)) := World.cell?_alloc_new W _ _ 0
    have q1 : ((W.alloc (.cells #[.int .i64 (tk : Nat), .string tx, .int .i64 (ta : Nat)] 194)).drew).cell? ⟨W.heap.size, 1, none⟩ = some (.string tx) := World.cell?_alloc_new W _ _ 1
    have P2 := Lib.hid (PW.out.call hbel)
    have HK2 : Hid (Kp B b 131 w ((W.alloc (.cells #[.int .i64 (tk : Nat), .string tx, .int .i64 (ta : Nat)] 194)).drew)) := Lib.hid (HKW.out.trans (Kp.of hbel PW.out.base))
    have hxb : W.heap.size ≠ b := by omega
    clear z0 z1 z2 y0 y1 y2 x0 x1 u0 u1 u2 c0' c1' t0' t1' t2' hbel PW HKW
    generalize ((W.alloc (.cells #[.int .i64 (tk : Nat), .string tx, .int .i64 (ta : Nat)] 194)).drew) = W2 at q0 q1 P2 HK2 ⊢
    generalize W.heap.size = bx at q0 q1 hxb ⊢
    clear hbw' hgw'
    have c1 := P2.out.c1
    rw [← HA.out] at c1
    have f1 := P2.out.fr 1
    have f2 := P2.out.fr 2
    have cb := P2.out.cb
    rw [HBD.out] at cb
    have hwr : IntKind.i64.wrap ((a : Int) + 1) = (a : Int) + 1 := IntWalk.i64_in _ (by omega)
    have hadv := adv_ofR P2.out
    rw [← HA.out] at hadv
    have P3 := Lib.hid hadv
    have HK3 := Lib.hid (HK2.out.set P2.out.hB 1 (.int .i64 ((a : Int) + 1)))
    clear hadv
    have hszx : tx.size ≤ 400 := by rw [HX.out]; exact tokAt_sz hT a
    by_cases h1 : tk = 1
    · subst h1
      have hns : see l p syOpen = false := by rw [see_tok l p HBD.out, ← HA.out, ← HKD.out]; rfl
      have hE := HE.out
      rw [if_neg (by rw [hns]; decide), if_pos rfl] at hE
      obtain ⟨v, hv⟩ : ∃ v, litV (tokAt l a).text = some v := Option.isSome_iff_exists.1 (tokAt_lit hT a HKD.out.symm)
      rw [hv] at hE
      rw [← HX.out] at hv
      injection hE with hE
      have HE2 := Lib.hid hE
      have KV := Lib.hid (fun W => rp_value tx hszx v hv W)
      clear hE hns hv HE ih
      go_wp2_with fail
      go_at_call 179
      refine (KV.out _).mono ?_
      rintro e w3 ⟨rfl, hb3⟩
      have P3b := Lib.hid (P3.out.call hb3)
      have HK3b : Hid (Kp B b 131 w w3) := Lib.hid (HK3.out.trans (Kp.of hb3 P3.out.base))
      clear hb3
      go_wp2_with fail
      go_at_call 125
      refine (rp_node P3b.out (by have := G0.out.ho; have := G0.out.ha; have := hT.len; show p.out.length ≤ _; omega) ⟨1, 0, 0, ⟨#[]⟩, ⟨#[]⟩, v⟩ 1 0 0 ⟨#[]⟩ ⟨#[]⟩ (hi v) (lo v) rfl).mono ?_
      rintro e w4 ⟨rfl, p4, k4⟩
      have P4 := Lib.hid p4
      have HK4 := Lib.hid (HK3b.out.trans k4)
      clear p4 k4
      go_wp2_with fail
      go_ret
      rw [← HE2.out]
      exact ⟨rfl, P4.out, HK4.out⟩
    · have h1B : ((tk : Int) == 1) = false := by rw [beq_eq_false_iff_ne]; omega
      have h1J : ¬ (tk : Int) = 1 := by omega
      by_cases h2 : tk = 2
      · subst h2
        have hns : see l p syOpen = false := by rw [see_tok l p HBD.out, ← HA.out, ← HKD.out]; rfl
        have hE := HE.out
        rw [if_neg (by rw [hns]; decide), if_neg (by decide)] at hE
        unfold pNam at hE
        rw [← HA.out, ← HKD.out, if_pos rfl, ← HX.out] at hE
        injection hE with hE
        have he1 : (tx.toList == [116, 114, 117, 101]) = decide (tx = syTrue) := by
          have hl1 : syTrue.toList = [116, 114, 117, 101] := by rw [ByteArray.toList_eq]; rfl
          rw [← hl1]; exact bs_eq tx syTrue
        have he2 : (tx.toList == [102, 97, 108, 115, 101]) = decide (tx = syFalse) := by
          have hl1 : syFalse.toList = [102, 97, 108, 115, 101] := by rw [ByteArray.toList_eq]; rfl
          rw [← hl1]; exact bs_eq tx syFalse
        clear hns HE h1 h1B h1J ih
        by_cases e1 : tx = syTrue
        · rw [if_pos e1] at hE
          rw [decide_eq_true e1] at he1
          have HE2 := Lib.hid hE
          clear e1 he2 hE
          go_wp2_with fail
          go_at_call 125
          refine (rp_node P3.out (by have := G0.out.ho; have := G0.out.ha; have := hT.len; show p.out.length ≤ _; omega) ⟨2, 0, 0, ⟨#[]⟩, ⟨#[]⟩, 1⟩ 2 0 0 ⟨#[]⟩ ⟨#[]⟩ 0 1 rfl).mono ?_
          rintro e w4 ⟨rfl, p4, k4⟩
          have P4 := Lib.hid p4
          have HK4 := Lib.hid (HK3.out.trans k4)
          clear p4 k4
          go_wp2_with fail
          go_ret
          rw [← HE2.out]
          exact ⟨rfl, P4.out, HK4.out⟩
        · rw [if_neg e1] at hE
          rw [decide_eq_false e1] at he1
          by_cases e2 : tx = syFalse
          · rw [if_pos e2] at hE
            rw [decide_eq_true e2] at he2
            have HE2 := Lib.hid hE
            clear e1 e2 hE
            go_wp2_with fail
            go_at_call 125
            refine (rp_node P3.out (by have := G0.out.ho; have := G0.out.ha; have := hT.len; show p.out.length ≤ _; omega) ⟨2, 0, 0, ⟨#[]⟩, ⟨#[]⟩, 0⟩ _ _ _ _ _ _ _ nd_false).mono ?_
            rintro e w4 ⟨rfl, p4, k4⟩
            have P4 := Lib.hid p4
            have HK4 := Lib.hid (HK3.out.trans k4)
            clear p4 k4
            go_wp2_with fail
            go_ret
            rw [← HE2.out]
            exact ⟨rfl, P4.out, HK4.out⟩
          · rw [if_neg e2] at hE
            rw [decide_eq_false e2] at he2
            have HE2 := Lib.hid hE
            have hlt : p.at_ < l.length := by
              rcases Nat.lt_or_ge p.at_ l.length with hi | hi
              · exact hi
              · have := HKD.out; rw [HA.out, tokAt_ge hi] at this; cases this
            have hol : p.adv.out.length + 1 ≤ 400 := by show p.out.length + 1 ≤ 400; have := G0.out.ho; have := hT.len; omega
            have GA : PR l p.adv := ⟨hlt, by show p.out.length ≤ p.at_ + 1; have := G0.out.ho; omega⟩
            have K := Lib.hid (fun (w : World) (h : RAt B b len cap (some ⟨gg, 0, none⟩) l p.adv w) => rp_var hT h GA hol tx)
            clear e1 e2 hE hlt hol GA
            go_wp2_with fail
            go_at_call 180
            refine (K.out _ P3.out).mono ?_
            rintro e w4 ⟨rfl, p4, k4⟩
            have P4 := Lib.hid p4
            have HK4 := Lib.hid (HK3.out.trans k4)
            clear p4 k4
            go_wp2_with fail
            go_ret
            rw [← HE2.out]
            exact ⟨rfl, P4.out, HK4.out⟩
      · have h2B : ((tk : Int) == 2) = false := by rw [beq_eq_false_iff_ne]; omega
        have h2J : ¬ (tk : Int) = 2 := by omega
        have KT := Lib.hid (rp_take P2.out (by rw [← HA.out]; omega) syOpen)
        obtain ⟨sv, hsv⟩ : ∃ s, s = see l p syOpen := ⟨_, rfl⟩
        rw [← hsv] at KT
        have hE := HE.out
        rw [← hsv] at hE
        have HE1 := Lib.hid hE
        have HSV := Lib.hid hsv
        have hpn : pNam l p = (0, p.fai) := by unfold pNam; rw [← HA.out, ← HKD.out, if_neg h2]
        have HPN := Lib.hid hpn
        have hk1 := h1
        clear hsv hE HE P3 HK3 hpn
        cases sv
        · have KT2 : Hid (Calls Tryz.prog 124 #[.pointer (some ⟨b, 0, none⟩), .string syOpen] W2 (RetR B b len cap (some ⟨gg, 0, none⟩) l (.bool false) p W2)) := Lib.hid (by have := KT.out; simpa using this)
          have hE := HE1.out
          rw [if_neg (by decide), if_neg hk1, HPN.out] at hE
          injection hE with hE
          have HE2 := Lib.hid hE
          clear hE HE1 KT h1 h2 hk1
          go_wp2_with fail
          go_at_call 124
          refine KT2.out.mono ?_
          rintro e w3 ⟨rfl, p3, k3⟩
          have P3 := Lib.hid p3
          have HK3 := Lib.hid (HK2.out.trans k3)
          have cb3 := p3.cb
          have f23 := p3.fr 2
          clear p3 k3 KT2
          go_wp2_with fail
          go_ret
          rw [← HE2.out]
          exact ⟨rfl, P3.out.setBad, HK3.out.set P3.out.hB _ _⟩
        · have KT2 : Hid (Calls Tryz.prog 124 #[.pointer (some ⟨b, 0, none⟩), .string syOpen] W2 (RetR B b len cap (some ⟨gg, 0, none⟩) l (.bool true) p.adv W2)) := Lib.hid (by have := KT.out; simpa using this)
          have hE := HE1.out
          rw [if_pos rfl] at hE
          have GA := Lib.hid (G0.out.adv HSV.out.symm)
          cases h3 : pR l n .imp p.adv with
          | none => rw [h3] at hE; cases hE
          | some q =>
            rw [h3, Option.bind_some] at hE
            have HE2 := Lib.hid hE
            have KI := Lib.hid (fun (w : World) (h : RAt B b len cap (some ⟨gg, 0, none⟩) l p.adv w) => ih.imp h GA.out h3)
            have GQ := Lib.hid (GA.out.went (pR_went l _ _ _ _ h3))
            clear hE HE1 KT h1 h2 hk1 h3
            go_wp2_with fail
            go_at_call 124
            refine KT2.out.mono ?_
            rintro e w3 ⟨rfl, p3, k3⟩
            have P3 := Lib.hid p3
            have HK3 := Lib.hid (HK2.out.trans k3)
            clear p3 k3 KT2
            go_wp2_with fail
            go_at_call 91
            refine (KI.out _ P3.out).mono ?_
            rintro e w4 ⟨rfl, p4, k4⟩
            have P4 := Lib.hid p4
            have HK4 := Lib.hid (HK3.out.trans k4)
            have KC := Lib.hid (rp_take p4 (by have := GQ.out.ha; have := hT.len; omega) syClose)
            obtain ⟨cv, hcv⟩ : ∃ s, s = see l q.2 syClose := ⟨_, rfl⟩
            rw [← hcv] at KC
            have hE := HE2.out
            rw [← hcv] at hE
            have HE3 := Lib.hid hE
            obtain ⟨a3, ha3⟩ : ∃ a, a = q.1 := ⟨_, rfl⟩
            rw [← ha3]
            have HA3 := Lib.hid ha3
            clear p4 k4 hcv hE HE2 ha3 KI
            cases cv
            · have KC2 : Hid (Calls Tryz.prog 124 #[.pointer (some ⟨b, 0, none⟩), .string syClose] w4 (RetR B b len cap (some ⟨gg, 0, none⟩) l (.bool false) q.2 w4)) := Lib.hid (by have := KC.out; simpa using this)
              have hE := HE3.out
              rw [if_neg (by decide)] at hE
              injection hE with hE
              have HE4 := Lib.hid hE
              clear hE HE3 KC
              go_wp2_with fail
              go_at_call 124
              refine KC2.out.mono ?_
              rintro e w5 ⟨rfl, p5, k5⟩
              have P5 := Lib.hid p5
              have HK5 := Lib.hid (HK4.out.trans k5)
              have cb5 := p5.cb
              have f25 := p5.fr 2
              clear p5 k5 KC2
              go_wp2_with fail
              go_ret
              rw [← HE4.out, HA3.out]
              exact ⟨rfl, P5.out.setBad, HK5.out.set P5.out.hB _ _⟩
            · have KC2 : Hid (Calls Tryz.prog 124 #[.pointer (some ⟨b, 0, none⟩), .string syClose] w4 (RetR B b len cap (some ⟨gg, 0, none⟩) l (.bool true) q.2.adv w4)) := Lib.hid (by have := KC.out; simpa using this)
              have hE := HE3.out
              rw [if_pos rfl] at hE
              injection hE with hE
              have HE4 := Lib.hid hE
              clear hE HE3 KC
              go_wp2_with fail
              go_at_call 124
              refine KC2.out.mono ?_
              rintro e w5 ⟨rfl, p5, k5⟩
              have P5 := Lib.hid p5
              have HK5 := Lib.hid (HK4.out.trans k5)
              clear p5 k5 KC2
              go_wp2_with fail
              go_ret
              rw [← HE4.out, HA3.out]
              exact ⟨rfl, P5.out, HK5.out⟩
/-- all rules of the reference, whatever the fuel -/
theorem ir_all (l : List Tok) (hT : TokOk l) : ∀ n, IR l n := by
  intro n
  induction n using Nat.strongRecOn with
  | _ n ih =>
    cases n with
    | zero =>
      exact ⟨(fun _ _ e => by cases e), (fun _ _ e => by cases e), (fun _ _ e => by cases e), (fun _ _ e => by cases e), (fun _ _ e => by cases e), (fun _ _ e => by cases e), (fun _ _ e => by cases e), (fun _ _ e => by cases e)⟩
    | succ n =>
      have i1 := ih n (Nat.lt_succ_self n)
      have i2 : ∀ m, m ≤ n → IR l m := fun m hm => ih m (Nat.lt_succ_of_le hm)
      exact ⟨(fun h g e => rp_imp i1 hT h g e), (fun h g e => rp_or i2 hT h g e), (fun h g e => rp_and i2 hT h g e), (fun h g e => rp_not i1 hT h g e), (fun h g e => rp_cmp i1 hT h g e), (fun h g e => rp_sum i2 hT h g e), (fun h g e => rp_una i1 hT h g e), (fun h g e => rp_atm i1 hT h g e)⟩
end
/- The reference's Depth. -/
section
open Go.RowKit

set_option maxRecDepth 100000 in
set_option maxHeartbeats 8000000 in
theorem rp_depth (w : World) (A : Option Addr) (n cap : Nat) (o : List Nd) (hn : o.length = n) (_hc : n ≤ cap) (hn4 : n ≤ 400) (h : NodR w A o) (hops : okN o) :
    Calls Tryz.prog 92 #[.slice A n cap] w (RetX (.int .i64 (depth o : Nat)) w) := by
  obtain ⟨r, hr⟩ : ∃ r, r = depth o := ⟨_, rfl⟩
  rw [← hr]
  have HR := Lib.hid hr
  have HN := Lib.hid hn
  have H := Lib.hid h
  have HOP := Lib.hid hops
  clear hr hn h hops
  have hmk : ∀ W : World, (Instr.makeSlice 41 (.int .i64 (n : Int)) (.int .i64 (n : Int))).run Tryz.prog W = .ok (.slice (some ⟨W.heap.size, 0, none⟩) n n) (W.alloc (.cells (madeCells #[.int .i64 0] n) 3)) := fun W => by
    exact run_make_row' (P := Tryz.prog) 41 3 (.int .i64 0) 8 Tryz.underlying41 (by kernel_rfl) rfl .i64 .i64 n (by omega) (by omega) W
  have hRow : (w.alloc (.cells (madeCells #[.int .i64 0] n) 3)).rowIs w.heap.size 3 n (fun _ => .int .i64 0) := World.rowIs_made w (.int .i64 0) n 3
  have HRow : Hid ((w.alloc (.cells (madeCells #[.int .i64 0] n) 3)).rowIs w.heap.size 3 n (fun j => .int .i64 (dpF o 0 j : Nat))) := Lib.hid (hRow.congr fun j _ => by unfold dpF; rw [List.take_zero]; rfl)
  have HB0 : Hid (Below w.heap.size w (w.alloc (.cells (madeCells #[.int .i64 0] n) 3))) := Lib.hid ((Below.refl _ _).alloc (Nat.le_refl _) _)
  have hb7 : w.heap.size < (w.alloc (.cells (madeCells #[.int .i64 0] n) 3)).heap.size := by simp
  clear hRow
  obtain ⟨Mk, hMk⟩ : ∃ M, M = madeCells #[.int .i64 0] n := ⟨_, rfl⟩
  rw [← hMk] at HRow HB0 hb7
  rw [← hMk] at hmk
  clear hMk
  go_enter Tryz.func92, Tryz.ntmps92
  go_upto_region 2 with (fail)
  clear hmk
  obtain ⟨b, hb⟩ : ∃ b, b = w.heap.size := ⟨_, rfl⟩
  rw [← hb] at HRow HB0 hb7 ⊢
  have HBB := Lib.hid hb
  generalize w.alloc (.cells Mk 3) = W0 at HRow HB0 hb7 ⊢
  clear hb
  go_wp2_with fail
  go_loopw [11] (fun i w' => ∃ k : Nat, k ≤ n ∧ i = .int .i64 k ∧ Below b w w' ∧ b < w'.heap.size ∧ w'.rowIs b 3 n (fun j => .int .i64 (dpF o k j : Nat))) (fun i _ => n - (intOf i).toNat)
  case atStart => exact ⟨0, by omega, rfl, HB0.out, hb7, HRow.out⟩
  case round =>
    clear HRow HB0 hb7
    obtain ⟨k, hk, rfl, hB, hbs, hrow⟩ := hrel
    have HB := Lib.hid hB
    have HROW := Lib.hid hrow
    clear hB hrow
    by_cases hkn : k < n
    · have hkI : (k : Int) < (n : Int) := by omega
      have hkl : k < o.length := by rw [HN.out]; exact hkn
      have r1 := H.out.below (by rw [← HBB.out]; exact HB.out)
      obtain ⟨g, e1, l1, q⟩ := r1.r.resolve_left (fun e => by rw [e] at hkl; simp at hkl)
      subst e1
      have q0 := q k hkl 0 (by decide)
      have q1 := q k hkl 1 (by decide)
      have q2 := q k hkl 2 (by decide)
      have q3 := q k hkl 3 (by decide)
      have q4 := q k hkl 4 (by decide)
      have q5 := q k hkl 5 (by decide)
      have q6 := q k hkl 6 (by decide)
      have hop := HOP.out _ (List.getElem_mem hkl)
      have hsucc := dpF_succ o k hkl
      generalize (o[k]'hkl) = d at q0 q1 q2 q3 q4 q5 q6 hop hsucc
      simp only [ncell, List.getElem?_cons_zero, List.getElem?_cons_succ, Nat.add_zero] at q0 q1 q2 q3 q4 q5 q6
      obtain ⟨x0, hx0⟩ : ∃ x : Nat, x = d.op := ⟨_, rfl⟩
      obtain ⟨x1, hx1⟩ : ∃ x : Nat, x = d.a := ⟨_, rfl⟩
      obtain ⟨x2, hx2⟩ : ∃ x : Nat, x = d.b := ⟨_, rfl⟩
      obtain ⟨x3, hx3⟩ : ∃ x, x = d.name := ⟨_, rfl⟩
      obtain ⟨x4, hx4⟩ : ∃ x, x = d.attr := ⟨_, rfl⟩
      obtain ⟨x5, hx5⟩ : ∃ x : Int, x = hi d.val := ⟨_, rfl⟩
      obtain ⟨x6, hx6⟩ : ∃ x : Int, x = lo d.val := ⟨_, rfl⟩
      obtain ⟨v, hv⟩ : ∃ v, v = dep1 (deps (o.take k)) d := ⟨_, rfl⟩
      have hia := hop.1
      have hib := hop.2
      rw [HN.out] at hia hib
      obtain ⟨va, hva⟩ : ∃ v, v = dpF o k d.a := ⟨_, rfl⟩
      obtain ⟨vb, hvb⟩ : ∃ v, v = dpF o k d.b := ⟨_, rfl⟩
      have hvD : v = if d.op ≤ 3 then 0 else if d.op ≤ 5 then 1 + va else if d.op = 16 then max va (1 + vb) else max va vb := by rw [hv, hva, hvb]; rfl
      have hle : ∀ x ∈ deps (o.take k), x ≤ 400 := fun x hx => by have := deps_snoc_le _ x hx; rw [List.length_take] at this; omega
      have hla : va ≤ 400 := by rw [hva]; exact getD_lt hle _
      have hlb : vb ≤ 400 := by rw [hvb]; exact getD_lt hle _
      rw [← hv] at hsucc
      rw [← hx0] at q0
      rw [← hx1] at q1
      rw [← hx2] at q2
      rw [← hx3] at q3
      rw [← hx4] at q4
      rw [← hx5] at q5
      rw [← hx6] at q6
      rw [← hx0] at hvD
      rw [← hx1] at hia hva
      rw [← hx2] at hib hvb
      have HS := Lib.hid hsucc
      have HVA := Lib.hid hva
      have HVB := Lib.hid hvb
      have HVD := Lib.hid hvD
      clear hsucc hv hx0 hx1 hx2 hx3 hx4 hx5 hx6 hop r1 q hva hvb hvD hle
      have w0 : (wr.alloc (.cells #[.int .i64 (x0 : Nat), .int .i64 (x1 : Nat), .int .i64 (x2 : Nat), .string x3, .string x4, .int .u64 x5, .int .u64 x6] 131)).rowIs b 3 n (fun j => .int .i64 (dpF o k j : Nat)) := HROW.out.alloc _
      have HB2 := Lib.hid (HB.out.alloc (by omega) (.cells #[.int .i64 (x0 : Nat), .int .i64 (x1 : Nat), .int .i64 (x2 : Nat), .string x3, .string x4, .int .u64 x5, .int .u64 x6] 131))
      have hc : ∀ i, (wr.alloc (.cells #[.int .i64 (x0 : Nat), .int .i64 (x1 : Nat), .int .i64 (x2 : Nat), .string x3, .string x4, .int .u64 x5, .int .u64 x6] 131)).cell? ⟨wr.heap.size, i, none⟩ = #[Value.int .i64 (x0 : Nat), .int .i64 (x1 : Nat), .int .i64 (x2 : Nat), .string x3, .string x4, .int .u64 x5, .int .u64 x6][i]? := fun i => World.cell?_alloc_new ..
      have c0 := hc 0
      have c1 := hc 1
      have c2 := hc 2
      have c3 := hc 3
      have c4 := hc 4
      have c5 := hc 5
      have c6 := hc 6
      simp only [List.getElem?_toArray, List.getElem?_cons_zero, List.getElem?_cons_succ] at c0 c1 c2 c3 c4 c5 c6
      have hbx : wr.heap.size ≠ b := by omega
      have hbs2 : b < (wr.alloc (.cells #[.int .i64 (x0 : Nat), .int .i64 (x1 : Nat), .int .i64 (x2 : Nat), .string x3, .string x4, .int .u64 x5, .int .u64 x6] 131)).heap.size := by simp; omega
      have HROW2 := Lib.hid w0
      clear hc w0 HB HROW hbs
      go_upto_region 6 with (fail)
      generalize wr.alloc (.cells #[.int .i64 (x0 : Nat), .int .i64 (x1 : Nat), .int .i64 (x2 : Nat), .string x3, .string x4, .int .u64 x5, .int .u64 x6] 131) = WB at c0 c1 c2 c3 c4 c5 c6 HROW2 HB2 hbs2 ⊢
      generalize wr.heap.size = bx at c0 c1 c2 c3 c4 c5 c6 hbx ⊢
      clear q0 q1 q2 q3 q4 q5 q6
      have ra := HROW2.out.cell (i := x1) hia
      have rb := HROW2.out.cell (i := x2) hib
      have rk := HROW2.out.cell (i := k) hkn
      have rf := HROW2.out.frozen k
      rw [← HVA.out] at ra
      rw [← HVB.out] at rb
      have hiaI : (x1 : Int) < (n : Int) := by omega
      have hibI : (x2 : Int) < (n : Int) := by omega
      have hwa : IntKind.i64.wrap (1 + (va : Int)) = 1 + (va : Int) := IntWalk.i64_in _ (by omega)
      have hwb : IntKind.i64.wrap (1 + (vb : Int)) = 1 + (vb : Int) := IntWalk.i64_in _ (by omega)
      by_cases h3 : x0 ≤ 3
      · have h3I : (x0 : Int) ≤ 3 := by omega
        have hvv : v = 0 := by rw [HVD.out, if_pos h3]
        have HF : Hid (WB.rowIs b 3 n (fun j => .int .i64 (dpF o (k + 1) j : Nat))) := Lib.hid (HROW2.out.congr fun j _ => by
          rw [← HS.out j]
          by_cases e : j = k
          · rw [if_pos e, hvv, e]
            have : dpF o k k = 0 := by unfold dpF; rw [List.getD_eq_getElem?_getD, List.getElem?_eq_none (by rw [deps_len, List.length_take]; omega)]; rfl
            rw [this]
          · rw [if_neg e])
        clear HROW2 hvv ra rb rk rf
        go_wp2
        go_roundw
        case rel => (go_light; exact ⟨k + 1, by omega, by simp, HB2.out, hbs2, HF.out⟩)
        case measure => simp [intOf]; omega
      · have h3I : ¬ (x0 : Int) ≤ 3 := by omega
        by_cases h5 : x0 ≤ 5
        · have h5I : (x0 : Int) ≤ 5 := by omega
          have hvv : v = 1 + va := by rw [HVD.out, if_neg h3, if_pos h5]
          go_wp2
          have HF : Hid (World.rowIs ((WB.setCell ⟨b, k, none⟩ (.int .i64 (1 + (va : Int))))) b 3 n (fun j => .int .i64 (dpF o (k + 1) j : Nat))) := Lib.hid (((HROW2.out.set k (.int .i64 (1 + (va : Int)))).congr fun j _ => by
            rw [← HS.out j]
            by_cases e : j = k
            · rw [if_pos e, if_pos e, hvv]; first | rfl | (congr 1; omega)
            · rw [if_neg e, if_neg e]))
          have HG : Hid (Below b w ((WB.setCell ⟨b, k, none⟩ (.int .i64 (1 + (va : Int)))))) := Lib.hid ((HB2.out.setCell (p := ⟨b, k, none⟩) (Nat.le_refl _) _))
          have hgs := HF.out.lt
          clear HROW2 HB2 hvv ra rb rk rf
          generalize (WB.setCell ⟨b, k, none⟩ (.int .i64 (1 + (va : Int)))) = WC at HF HG hgs ⊢
          go_roundw
          case rel => (go_light; exact ⟨k + 1, by omega, by simp, HG.out, hgs, HF.out⟩)
          case measure => simp [intOf]; omega
        · have h5I : ¬ (x0 : Int) ≤ 5 := by omega
          by_cases h16 : x0 = 16
          · have h16B : ((x0 : Int) == 16) = true := by simp; omega
            have hvv : v = max va (1 + vb) := by rw [HVD.out, if_neg h3, if_neg h5, if_pos h16]
            go_upto_region 10 with (fail)
            go_region
            have HF : Hid (World.rowIs ((WB.setCell ⟨b, k, none⟩ (.int .i64 (max (va : Int) (1 + (vb : Int))))).drew) b 3 n (fun j => .int .i64 (dpF o (k + 1) j : Nat))) := Lib.hid (((HROW2.out.set k (.int .i64 (max (va : Int) (1 + (vb : Int))))).congr fun j _ => by
              rw [← HS.out j]
              by_cases e : j = k
              · rw [if_pos e, if_pos e, hvv]; first | rfl | (congr 1; omega)
              · rw [if_neg e, if_neg e]).drew)
            have HG : Hid (Below b w ((WB.setCell ⟨b, k, none⟩ (.int .i64 (max (va : Int) (1 + (vb : Int))))).drew)) := Lib.hid ((HB2.out.setCell (p := ⟨b, k, none⟩) (Nat.le_refl _) _).drew)
            have hgs := HF.out.lt
            clear HROW2 HB2 hvv ra rb rk rf
            generalize (WB.setCell ⟨b, k, none⟩ (.int .i64 (max (va : Int) (1 + (vb : Int))))).drew = WC at HF HG hgs ⊢
            go_wp2
            go_roundw
            case rel => (go_light; exact ⟨k + 1, by omega, by simp, HG.out, hgs, HF.out⟩)
            case measure => simp [intOf]; omega
          · have h16B : ((x0 : Int) == 16) = false := by rw [beq_eq_false_iff_ne]; omega
            have hvv : v = max va vb := by rw [HVD.out, if_neg h3, if_neg h5, if_neg h16]
            go_upto_region 5 with (fail)
            go_region
            have HF : Hid (World.rowIs ((WB.setCell ⟨b, k, none⟩ (.int .i64 (max (va : Int) (vb : Int)))).drew) b 3 n (fun j => .int .i64 (dpF o (k + 1) j : Nat))) := Lib.hid (((HROW2.out.set k (.int .i64 (max (va : Int) (vb : Int)))).congr fun j _ => by
              rw [← HS.out j]
              by_cases e : j = k
              · rw [if_pos e, if_pos e, hvv]; first | rfl | (congr 1; omega)
              · rw [if_neg e, if_neg e]).drew)
            have HG : Hid (Below b w ((WB.setCell ⟨b, k, none⟩ (.int .i64 (max (va : Int) (vb : Int)))).drew)) := Lib.hid ((HB2.out.setCell (p := ⟨b, k, none⟩) (Nat.le_refl _) _).drew)
            have hgs := HF.out.lt
            clear HROW2 HB2 hvv ra rb rk rf
            generalize (WB.setCell ⟨b, k, none⟩ (.int .i64 (max (va : Int) (vb : Int)))).drew = WC at HF HG hgs ⊢
            go_wp2
            go_roundw
            case rel => (go_light; exact ⟨k + 1, by omega, by simp, HG.out, hgs, HF.out⟩)
            case measure => simp [intOf]; omega
    · have hkI : ¬ (k : Int) < (n : Int) := by omega
      have hkn2 : o.take k = o := List.take_of_length_le (by rw [HN.out]; omega)
      have hds : (deps o).length = n := by rw [deps_len, HN.out]
      have hR : IntR wr (some ⟨b, 0, none⟩) (deps o) := ⟨.inr ⟨b, rfl, fun j hj => by
        rw [HROW.out.cell (i := j) (by omega)]
        unfold dpF
        rw [hkn2, List.getD_eq_getElem?_getD, List.getElem?_eq_getElem hj]; rfl⟩⟩
      have HIR := Lib.hid hR
      have hdl2 : (deps o).length = n := hds
      clear hR hkn2 hds HROW
      by_cases h0 : n = 0
      · have h0I : ((n : Int) == 0) = true := by simp; omega
        have hr0 : r = 0 := by
          rw [HR.out]; unfold depth
          rw [List.getD_eq_getElem?_getD, List.getElem?_eq_none (by omega)]; rfl
        subst hr0
        go_wp2
        go_ret
        exact ⟨rfl, by rw [← HBB.out]; exact HB.out⟩
      · have h0I : ((n : Int) == 0) = false := by rw [beq_eq_false_iff_ne]; omega
        have hn1 : IntKind.i64.wrap ((n : Int) - 1) = ((n - 1 : Nat) : Int) := by rw [IntWalk.i64_in _ (by omega)]; omega
        have hn2 : (n : Int) - 1 = ((n - 1 : Nat) : Int) := by omega
        have hlt : n - 1 < (deps o).length := by omega
        obtain ⟨g, hg, hcc⟩ := HIR.out.r.resolve_left (fun e => by rw [e] at hlt; simp at hlt)
        have hgb : g = b := by injection hg with hg; injection hg with hg; exact hg.symm
        have hcell := hcc (n - 1) hlt
        have hrv : (deps o)[n - 1]'hlt = r := by
          rw [HR.out]; unfold depth
          rw [HN.out, List.getD_eq_getElem?_getD, List.getElem?_eq_getElem hlt]; rfl
        rw [hrv, hgb] at hcell
        have hm : ((n - 1 : Nat) : Int) < (n : Int) := by omega
        obtain ⟨m, hmm⟩ : ∃ m, m = n - 1 := ⟨_, rfl⟩
        rw [← hmm] at hn1 hn2 hcell hm
        have HB3 := HB
        clear hcc hrv hg hgb hlt hmm hdl2 HIR hn2
        go_wp2
        go_ret
        exact ⟨rfl, by rw [← HBB.out]; exact HB.out⟩
end
end Go.Proofs.YtodmkmoglchoeaaGreatDoor
