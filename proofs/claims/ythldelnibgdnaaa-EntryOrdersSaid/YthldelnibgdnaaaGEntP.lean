/- An entry out of choices. -/
import Derived.Test.YthldelnibgdnaaaGMat
namespace Go.Proofs.Ythldelnibgdnaaa
open Go.RowKit

/-- The schemas for which entries are made. -/
structure GenOk (x : SchemaD) : Prop where
  ne : x.tables ≠ []
  tl : x.tables.length ≤ 1000
  keys : ∀ t ∈ x.tables, ∀ k ∈ t.keys, ∃ b : Nat, fbits x.fields k.field = (b : Int) ∧ 1 ≤ b ∧ b ≤ 32 ∧ (k.kind = 1 ∨ (k.kind = 2 ∧ b = 32) ∨ k.kind = 3 ∨ k.kind = 4)
  kl : ∀ t ∈ x.tables, t.keys ≠ [] ∧ t.keys.length ≤ 1000
  acts : ∀ t ∈ x.tables, t.actions ≠ [] ∧ t.actions.length ≤ 1000
  prm : ∀ a, (actIn x.actions a).params.length ≤ 1000
/-- A valid entry of a table, apart from restrictions. -/
structure EntFit (x : SchemaD) (t : TableD) (e : EntryD) : Prop where
  tab : e.table = t.id
  len : e.ms.length = t.keys.length
  fit : ∀ (j : Nat) (k : KeyD) (m : MatchD), t.keys[j]? = some k → e.ms[j]? = some m → ∃ b : Nat, fbits x.fields k.field = (b : Int) ∧ b ≤ 32 ∧ MFit k.kind b m
  pr0 : (∀ k ∈ t.keys, k.kind ≠ 3 ∧ k.kind ≠ 4) → e.prio = 0
  pr1 : (∃ k ∈ t.keys, k.kind = 3 ∨ k.kind = 4) → 1 ≤ e.prio ∧ e.prio ≤ 5
  act : e.action ∈ t.actions
  alen : e.args.length = (actIn x.actions e.action).params.length
  args : ∀ (j : Nat) (q : ParamD) (a : Nat), (actIn x.actions e.action).params[j]? = some q → e.args[j]? = some a → ∃ N : Nat, N < 256 ∧ a = lowB N q.bits
/-- The loop over the keys. -/
structure EInv (K D : Nat) (l : List Nat) (x : SchemaD) (t : TableD) (sch tc : List Value) (w W : World) (q : Nat) (v : Value) (ms : List MatchD) (pr : Int) : Prop where
  bs : Bx K w.heap.size sch W
  br : Bx K (w.heap.size + 1) [.int .i64 0, .slice none 0 0, .int .i64 0, .int .i64 0, .slice none 0 0] W
  bt : Bx K (w.heap.size + 2) tc W
  be : Bx K (w.heap.size + 3) [.int .i64 t.id, v, .int .i64 pr, .int .i64 0, .slice none 0 0] W
  own : W.ownsRow (w.heap.size + 4) 75 8 v q (flat matchCells ms)
  sz : w.heap.size + 4 ≤ W.heap.size
  len : ms.length = q
  fit : ∀ (j : Nat) (k : KeyD) (m : MatchD), t.keys[j]? = some k → ms[j]? = some m → ∃ b : Nat, fbits x.fields k.field = (b : Int) ∧ b ≤ 32 ∧ MFit k.kind b m
  pr0 : (∀ k ∈ t.keys.take q, k.kind ≠ 3 ∧ k.kind ≠ 4) → pr = 0
  pr1 : (∃ k ∈ t.keys.take q, k.kind = 3 ∨ k.kind = 4) → 1 ≤ pr ∧ pr ≤ 5
  gr : w.grownBy W (some K)
  co : ∃ p, CoAt K D l p W
/-- Behind a match: the entry holds one more. -/
structure EMid (K D : Nat) (l : List Nat) (t : TableD) (sch tc kc : List Value) (w W : World) (kb q : Nat) (v : Value) (ms : List MatchD) (pr : Int) : Prop where
  bs : Bx K w.heap.size sch W
  br : Bx K (w.heap.size + 1) [.int .i64 0, .slice none 0 0, .int .i64 0, .int .i64 0, .slice none 0 0] W
  bt : Bx K (w.heap.size + 2) tc W
  be : Bx K (w.heap.size + 3) [.int .i64 t.id, v, .int .i64 pr, .int .i64 0, .slice none 0 0] W
  bk : Bx K kb kc W
  own : W.ownsRow (w.heap.size + 4) 75 8 v q (flat matchCells ms)
  sz : w.heap.size + 4 ≤ W.heap.size
  gr : w.grownBy W (some K)
  co : ∃ p, CoAt K D l p W
theorem EMid.chose {K D kb q : Nat} {l : List Nat} {t : TableD} {sch tc kc : List Value} {w W W' : World} {v : Value} {ms : List MatchD} {pr : Int} (h : EMid K D l t sch tc kc w W kb q v ms pr) (hK : K < w.heap.size) (hg : W.grownBy W' (some K)) (hc : ∃ p, CoAt K D l p W') : EMid K D l t sch tc kc w W' kb q v ms pr :=
  ⟨h.bs.chose hg, h.br.chose hg, h.bt.chose hg, h.be.chose hg, h.bk.chose hg, own_chose h.own hg (by omega), Nat.le_trans h.sz hg.size, h.gr.trans hg, hc⟩
theorem EMid.setP {K D kb q : Nat} {l : List Nat} {t : TableD} {sch tc kc : List Value} {w W : World} {v : Value} {ms : List MatchD} {pr : Int} (h : EMid K D l t sch tc kc w W kb q v ms pr) (hK : K < w.heap.size) (hD : l ≠ [] → D < w.heap.size) (hkb : w.heap.size + 4 ≤ kb) (pr' : Int) : EMid K D l t sch tc kc w (W.setCell ⟨w.heap.size + 3, 2, none⟩ (.int .i64 pr')) kb q v ms pr' := by
  obtain ⟨p, c⟩ := h.co
  exact ⟨h.bs.other (by omega) 2 _, h.br.other (by omega) 2 _, h.bt.other (by omega) 2 _, h.be.set 2 (.int .i64 pr'), h.bk.other (by omega) 2 _, own_setH (S := w.heap.size + 3) h.own, by simp [World.setCell]; exact h.sz, grown_newM h.gr (grown_set W (w.heap.size + 3) 2 _) (by omega), p, c.kept (grown_set W (w.heap.size + 3) 2 _) (fun e => by injection e with e; omega) (fun h2 e => by have := hD h2; injection e with e; omega)⟩
theorem EMid.inv {K D kb q : Nat} {l : List Nat} {x : SchemaD} {t : TableD} {sch tc kc : List Value} {w wr W : World} {v v0 : Value} {ms : List MatchD} {m : MatchD} {k : KeyD} {pr pr' : Int} (h : EMid K D l t sch tc kc w W kb (q + 1) v (ms ++ [m]) pr') (hE : EInv K D l x t sch tc w wr q v0 ms pr) (hk : t.keys[q]? = some k)
    (hf : ∃ b : Nat, fbits x.fields k.field = (b : Int) ∧ b ≤ 32 ∧ MFit k.kind b m) (hp : ((k.kind = 3 ∨ k.kind = 4) ∧ 1 ≤ pr' ∧ pr' ≤ 5) ∨ ((k.kind ≠ 3 ∧ k.kind ≠ 4) ∧ pr' = pr)) : EInv K D l x t sch tc w W (q + 1) v (ms ++ [m]) pr' := by
  have htk : t.keys.take (q + 1) = t.keys.take q ++ [k] := by
    obtain ⟨a, b⟩ := List.getElem?_eq_some_iff.1 hk
    rw [List.take_succ_eq_append_getElem a, b]
  refine ⟨h.bs, h.br, h.bt, h.be, h.own, h.sz, by rw [List.length_append, hE.len]; rfl, fun j k' m' hk' hm' => ?_, fun ha => ?_, fun ha => ?_, h.gr, h.co⟩
  · rcases Nat.lt_or_ge j ms.length with hj | hj
    · rw [List.getElem?_append_left hj] at hm'
      exact hE.fit j k' m' hk' hm'
    · rw [List.getElem?_append_right hj] at hm'
      have hj2 : j - ms.length = 0 := by
        have := (List.getElem?_eq_some_iff.1 hm').1
        simpa using this
      rw [hj2] at hm'
      have hjq : j = q := by have := hE.len; omega
      subst hjq
      rw [hk] at hk'
      injection hk' with hk'
      subst hk'
      simp at hm'
      subst hm'
      exact hf
  · rw [htk] at ha
    rcases hp with ⟨hp, _⟩ | ⟨_, rfl⟩
    · have := ha k (by simp)
      rcases hp with hp | hp
      · exact absurd hp this.1
      · exact absurd hp this.2
    · exact hE.pr0 fun k' hk' => ha k' (List.mem_append_left _ hk')
  · rw [htk] at ha
    rcases hp with ⟨_, h1, h2⟩ | ⟨hn, rfl⟩
    · exact ⟨h1, h2⟩
    · obtain ⟨k', hk', hk3⟩ := ha
      rcases List.mem_append.1 hk' with hk' | hk'
      · exact hE.pr1 ⟨k', hk', hk3⟩
      · simp at hk'
        subst hk'
        rcases hk3 with h3 | h3
        · exact absurd h3 hn.1
        · exact absurd h3 hn.2
theorem info_valG : (Try.prog.info? 29).map (fun i => (i.zero, i.size, i.bytes)) = some (some (.agg #[.int .u64 0, .int .u64 0]), 2, 16) := by kernel_rfl
theorem i64_n {n : Nat} (h : n ≤ 1000000) : I64 (n : Int) := ⟨by omega, by omega⟩
theorem mfit_ok {kd : Int} {b : Nat} {m : MatchD} (hb : b ≤ 32) (h : MFit kd b m) : MatchOk m := by
  have hp := pow32 hb
  have i0 : I64 (0 : Int) := ⟨by decide, by decide⟩
  have z0 : (0 : Nat) < 2 ^ 128 := by decide
  have up : ∀ {n : Nat}, n < 4294967296 → n < 2 ^ 128 := fun h => Nat.lt_trans h (by decide)
  rcases h with ⟨_, rfl⟩ | ⟨_, v, hv, rfl⟩ | ⟨_, v, n, hv, hn, hn2, rfl⟩ | ⟨_, v, k, hk, hk2, rfl⟩ | ⟨_, v, h, hv, hh, _, rfl⟩
  · exact ⟨z0, z0, z0, i0⟩
  · exact ⟨up (Nat.lt_of_lt_of_le hv hp), z0, z0, i0⟩
  · exact ⟨up (Nat.lt_of_le_of_lt Nat.and_le_left (Nat.lt_of_lt_of_le hv hp)), z0, z0, i64_n (by omega)⟩
  · exact ⟨up (Nat.lt_of_le_of_lt Nat.and_le_right (Nat.lt_of_lt_of_le hk2 hp)), up (Nat.lt_of_lt_of_le hk2 hp), z0, i0⟩
  · exact ⟨up (Nat.lt_of_le_of_lt hv (Nat.lt_of_lt_of_le hh hp)), z0, up (Nat.lt_of_lt_of_le hh hp), i0⟩
theorem info_match : (Try.prog.info? 75).map (fun i => (i.zero, i.size, i.bytes)) = some (some (.agg #[.bool false, .int .u64 0, .int .u64 0, .int .u64 0, .int .u64 0, .int .i64 0, .int .u64 0, .int .u64 0]), 8, 64) := by kernel_rfl
theorem one_match (m : MatchD) : ∀ u ∈ matchCells m, u.oneCell' = true := by
  intro u hu
  simp only [matchCells, List.mem_cons, List.not_mem_nil, or_false] at hu
  rcases hu with rfl | rfl | rfl | rfl | rfl | rfl | rfl | rfl <;> rfl
def encVal (x : Nat) : List Value := [.int .u64 (hi x), .int .u64 (lo x)]
/-- The loop over the parameters. -/
structure EArg (K D : Nat) (l : List Nat) (t : TableD) (ps : List ParamD) (w W1 W : World) (v : Value) (pr a : Int) (q : Nat) (u : Value) (us : List Nat) : Prop where
  br : Bx K (w.heap.size + 1) [.int .i64 0, .slice none 0 0, .int .i64 0, .int .i64 0, .slice none 0 0] W
  be : Bx K (w.heap.size + 3) [.int .i64 t.id, v, .int .i64 pr, .int .i64 a, u] W
  same : SameB (w.heap.size + 4) W1.heap.size W1 W
  own : W.ownsRow W1.heap.size 29 2 u q (flat encVal us)
  len : us.length = q
  fit : ∀ (j : Nat) (p : ParamD) (c : Nat), ps[j]? = some p → us[j]? = some c → ∃ N : Nat, N < 256 ∧ c = lowB N p.bits
  gr : w.grownBy W (some K)
  co : ∃ p, CoAt K D l p W
theorem bx_of {K L : Nat} {cs : List Value} {T : TypeId} {W : World} (h : W.heap[L]? = some (.cells cs.toArray T (0, 0))) (hL : L ≠ K) : Bx K L cs W := by
  refine ⟨?_, hL, fun j hj => blk_cell h j _ (by rw [List.getElem?_toArray]; exact List.getElem?_eq_getElem hj), fun j => blk_froz h j⟩
  rcases Nat.lt_or_ge L W.heap.size with h1 | h1
  · exact h1
  · rw [Array.getElem?_eq_none h1] at h; cases h
def RetEnt (K D : Nat) (l : List Nat) (x : SchemaD) (t : TableD) (w : World) (en : Ending) (w' : World) : Prop := ∃ (v u : Value) (e : EntryD), en = .returned (.agg #[.int .i64 e.table, v, .int .i64 e.prio, .int .i64 e.action, u]) ∧ EntFit x t e ∧
  RowH 8 MatchV w.heap.size w'.heap.size w' v e.ms ∧ RowH 2 ValV w.heap.size w'.heap.size w' u e.args ∧ w.grownBy w' (some K) ∧ ∃ p, CoAt K D l p w'
theorem below_grownK {w w' : World} {B K : Nat} (h : w.grownBy w' (some K)) (hK : B ≤ K) (hB : B ≤ w.heap.size) : Below B w w' := ⟨h.os, h.tape, h.output, h.size, fun k hk => h.block k (by omega) (fun e => by injection e with e; omega)⟩
theorem grown_set5 {k : Nat} (w : World) (v0 v1 v2 v3 v4 : Value) : w.grownBy (((((w.setCell ⟨k, 0, none⟩ v0).setCell ⟨k, 1, none⟩ v1).setCell ⟨k, 2, none⟩ v2).setCell ⟨k, 3, none⟩ v3).setCell ⟨k, 4, none⟩ v4) (some k) := ((((grown_set w k 0 v0).trans (grown_set _ k 1 v1)).trans (grown_set _ k 2 v2)).trans (grown_set _ k 3 v3)).trans (grown_set _ k 4 v4)
theorem ent_end {K D np nk : Nat} {l : List Nat} {x : SchemaD} {t : TableD} {sch tc : List Value} {w W1 wr : World} {v u : Value} {ms : List MatchD} {us : List Nat} {pr a : Int} (hK : K < w.heap.size) (hD : l ≠ [] → D < w.heap.size) (hRM : RowH 8 MatchV (w.heap.size + 4) W1.heap.size W1 v ms) (hE : EInv K D l x t sch tc w W1 nk v ms pr) (hnk : nk = t.keys.length) (ha : a ∈ t.actions) (hnp : np = (actIn x.actions a).params.length)
    (hG : EArg K D l t (actIn x.actions a).params w W1 wr v pr a np u us) (hz : W1.heap.size ≤ wr.heap.size) (v0 v1 v2 v3 v4 : Value) (e : Ending) (he : e = .returned (.agg #[.int .i64 t.id, v, .int .i64 pr, .int .i64 a, u])) :
    RetEnt K D l x t w e (((((wr.setCell ⟨w.heap.size + 1, 0, none⟩ v0).setCell ⟨w.heap.size + 1, 1, none⟩ v1).setCell ⟨w.heap.size + 1, 2, none⟩ v2).setCell ⟨w.heap.size + 1, 3, none⟩ v3).setCell ⟨w.heap.size + 1, 4, none⟩ v4) := by
  have hsz := hE.sz
  have gs := grown_set5 (k := w.heap.size + 1) wr v0 v1 v2 v3 v4
  obtain ⟨p, hc⟩ := hG.co
  have htake : t.keys.take nk = t.keys := by rw [hnk]; exact List.take_length
  have hlt : ∀ (j : Nat) (c : Nat), us[j]? = some c → c < 256 := fun j c hc => by
    have hj := (List.getElem?_eq_some_iff.1 hc).1
    rw [hG.len, hnp] at hj
    obtain ⟨N, hN, rfl⟩ := hG.fit j _ c (List.getElem?_eq_getElem hj) hc
    exact Nat.lt_of_le_of_lt (Nat.mod_le _ _) hN
  have hO := own_chose (K := w.heap.size + 1) hG.own gs (by omega)
  refine ⟨v, u, ⟨t.id, ms, pr, a, us⟩, he, ⟨rfl, hE.len.trans hnk, hE.fit, fun h => hE.pr0 (by rw [htake]; exact h), fun h => hE.pr1 (by rw [htake]; exact h), ha, hG.len.trans hnp, hG.fit⟩, ?_, ?_, grown_newM hG.gr gs (by omega), p, hc.kept gs (fun e => by injection e with e; omega) (fun h2 e => by have := hD h2; injection e with e; omega)⟩
  · refine RowH.widen (a := w.heap.size + 4) (b := W1.heap.size) (hRM.kept (hG.same.trans (.of_grown gs hz (fun k e => ?_)))) (by omega) (Nat.le_trans hz gs.size)
    injection e with e
    omega
  · exact rowH_of_own (enc := encVal) (base := W1.heap.size) (fun _ => rfl) (by omega) (Nat.le_refl _) (fun c hc _ _ _ _ => by
      obtain ⟨j, hj, rfl⟩ := List.mem_iff_getElem.1 hc
      exact ⟨rfl, Nat.lt_trans (hlt j _ (List.getElem?_eq_getElem hj)) (by decide)⟩) (by rw [hG.len]; exact hO)
theorem fit_snoc {ps : List ParamD} {us : List Nat} {q x : Nat} {p : ParamD} (hl : us.length = q) (hp : ps[q]? = some p) (hx : x < 256) (h : ∀ (j : Nat) (p : ParamD) (c : Nat), ps[j]? = some p → us[j]? = some c → ∃ N : Nat, N < 256 ∧ c = lowB N p.bits) :
    ∀ (j : Nat) (p' : ParamD) (c : Nat), ps[j]? = some p' → (us ++ [lowB x p.bits])[j]? = some c → ∃ N : Nat, N < 256 ∧ c = lowB N p'.bits := by
  intro j p' c h1 h2
  rcases Nat.lt_or_ge j us.length with hj | hj
  · rw [List.getElem?_append_left hj] at h2
    exact h j p' c h1 h2
  · rw [List.getElem?_append_right hj] at h2
    have hj2 : j - us.length = 0 := by
      have := (List.getElem?_eq_some_iff.1 h2).1
      simpa using this
    rw [hj2] at h2
    have hjq : j = q := by omega
    subst hjq
    rw [hp] at h1
    injection h1 with h1
    subst h1
    simp at h2
    exact ⟨x, hx, h2.symm⟩
end Go.Proofs.Ythldelnibgdnaaa
