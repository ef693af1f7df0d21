/- Contracts, joined: YPar2, YPar3, YRef9. -/
import Derived.Test.YtodmkmoglchoeaaDoorJYProg
import Derived.Defers
import Derived.Recover
import Derived.Test.YtodmkmoglchoeaaDoorJYRef
namespace Go.Proofs.YtodmkmoglchoeaaDoor
/- Package syntax: parse; what becomes of its panic; Parse. -/
section
open Go.RowKit

theorem opAt_mem {l : List Tok} {p : PS} {os : List Nat} (h : opAt l p os ≠ 0) : opAt l p os ∈ os := by
  induction os with
  | nil => exact absurd rfl h
  | cons o r ih =>
    rw [opAt] at h ⊢
    by_cases hs : see l p (sy o) = true
    · rw [if_pos hs]; simp
    · rw [if_neg hs] at h ⊢; exact List.mem_cons_of_mem _ (ih h)
/-- what holds of every node that a rule makes holds of all its nodes -/
theorem pR_inv (l : List Tok) (P : Nd → Prop) (h1 : ∀ t ∈ l, t.kind = 1 → P ⟨1, 0, 0, ⟨#[]⟩, ⟨#[]⟩, (litV t.text).getD 0⟩) (h2 : P ⟨2, 0, 0, ⟨#[]⟩, ⟨#[]⟩, 1⟩) (h3 : P ⟨2, 0, 0, ⟨#[]⟩, ⟨#[]⟩, 0⟩)
    (h4 : ∀ t ∈ l, t.kind = 2 → t.text ≠ syTrue → t.text ≠ syFalse → P ⟨3, 0, 0, t.text, ⟨#[]⟩, 0⟩) (h5 : ∀ t ∈ l, ∀ u ∈ l, t.kind = 2 → t.text ≠ syTrue → t.text ≠ syFalse → u.kind = 2 → P ⟨3, 0, 0, t.text, u.text, 0⟩)
    (h6 : ∀ o a b, o ∈ [4, 5, 6, 7, 8, 9, 10, 11, 12, 13, 14, 15, 16] → P (nd o a b)) :
    ∀ (n : Nat) (R : Ru) (p : PS) (r : Nat × PS), pR l n R p = some r → (∀ x ∈ p.out, P x) → ∀ x ∈ r.2.out, P x := by
  have hsn : ∀ (p : PS) (d : Nd), (∀ x ∈ p.out, P x) → P d → ∀ x ∈ (p.nod d).2.out, P x := fun p d h hd x hx => by
    rcases List.mem_append.1 (show x ∈ p.out ++ [d] from hx) with hx | hx
    · exact h x hx
    · obtain rfl : x = d := by simpa using hx
      exact hd
  intro n
  induction n with
  | zero => intro R p r h; cases h
  | succ n ih =>
    intro R p r h hp
    cases R with
    | imp =>
      rw [pR] at h
      cases e1 : pR l n (.grp 0) p with
      | none => rw [e1] at h; cases h
      | some r1 =>
        rw [e1, Option.bind_some] at h
        by_cases ho : opAt l r1.2 [16] = 0
        · rw [if_pos ho] at h; injection h with h; subst h; exact ih _ _ _ e1 hp
        · rw [if_neg ho] at h
          cases e2 : pR l n .imp r1.2.adv with
          | none => rw [e2] at h; cases h
          | some q =>
            rw [e2, Option.bind_some] at h; injection h with h; subst h
            exact hsn _ _ (ih _ _ _ e2 (ih _ _ _ e1 hp)) (h6 _ _ _ (by decide))
    | grp k =>
      rw [pR] at h
      cases e1 : pR l n (prt k) p with
      | none => rw [e1] at h; cases h
      | some r1 => rw [e1, Option.bind_some] at h; exact ih _ _ _ h (ih _ _ _ e1 hp)
    | grpL k a =>
      rw [pR] at h
      by_cases ho : opAt l p (gops k) = 0
      · rw [if_pos ho] at h; injection h with h; subst h; exact hp
      · rw [if_neg ho] at h
        cases e2 : pR l n (prt k) p.adv with
        | none => rw [e2] at h; cases h
        | some q =>
          rw [e2, Option.bind_some] at h
          refine ih _ _ _ h (hsn _ _ (ih _ _ _ e2 hp) (h6 _ _ _ ?_))
          have hm := opAt_mem ho
          rcases k with _ | _ | k <;> simp [gops] at hm ⊢ <;> omega
    | not =>
      rw [pR] at h
      by_cases ho : opAt l p [5] = 0
      · rw [if_pos ho] at h; exact ih _ _ _ h hp
      · rw [if_neg ho] at h
        cases e2 : pR l n .not p.adv with
        | none => rw [e2] at h; cases h
        | some q =>
          rw [e2, Option.bind_some] at h; injection h with h; subst h
          exact hsn _ _ (ih _ _ _ e2 hp) (h6 _ _ _ (by decide))
    | cmp =>
      rw [pR] at h
      cases e1 : pR l n (.grp 2) p with
      | none => rw [e1] at h; cases h
      | some r1 =>
        rw [e1, Option.bind_some] at h
        by_cases ho : opAt l r1.2 [8, 9, 10, 11, 12, 13] = 0
        · rw [if_pos ho] at h; injection h with h; subst h; exact ih _ _ _ e1 hp
        · rw [if_neg ho] at h
          cases e2 : pR l n (.grp 2) r1.2.adv with
          | none => rw [e2] at h; cases h
          | some q =>
            rw [e2, Option.bind_some] at h; injection h with h; subst h
            refine hsn _ _ (ih _ _ _ e2 (ih _ _ _ e1 hp)) (h6 _ _ _ ?_)
            have hm := opAt_mem ho
            simp at hm ⊢; omega
    | una =>
      rw [pR] at h
      by_cases ho : opAt l p [4] = 0
      · rw [if_pos ho] at h; exact ih _ _ _ h hp
      · rw [if_neg ho] at h
        cases e2 : pR l n .una p.adv with
        | none => rw [e2] at h; cases h
        | some q =>
          rw [e2, Option.bind_some] at h; injection h with h; subst h
          exact hsn _ _ (ih _ _ _ e2 hp) (h6 _ _ _ (by decide))
    | atm =>
      rw [pR] at h
      by_cases hb : p.bad = true
      · rw [if_pos hb] at h; injection h with h; subst h; exact hp
      · rw [if_neg hb] at h
        cases ht : l[p.at_]? with
        | none => rw [ht] at h; injection h with h; subst h; exact hp
        | some t =>
          have hm := List.mem_of_getElem? ht
          rw [ht] at h
          simp only at h
          by_cases k1 : t.kind = 1
          · rw [if_pos k1] at h; injection h with h; subst h; exact hsn _ _ hp (h1 t hm k1)
          · rw [if_neg k1] at h
            by_cases k2 : t.kind = 2
            · rw [if_pos k2] at h
              by_cases e1 : t.text = syTrue
              · rw [if_pos e1] at h; injection h with h; subst h; exact hsn _ _ hp h2
              · rw [if_neg e1] at h
                by_cases e2 : t.text = syFalse
                · rw [if_pos e2] at h; injection h with h; subst h; exact hsn _ _ hp h3
                · rw [if_neg e2] at h; injection h with h; subst h
                  unfold pVar
                  by_cases hs : see l p.adv syOf = true
                  · rw [if_pos hs]
                    cases hu : l[p.adv.at_ + 1]? with
                    | none => exact hp
                    | some u =>
                      by_cases hk : u.kind = 2
                      · simp only [hk, if_true]
                        exact hsn _ _ hp (h5 t hm u (List.mem_of_getElem? hu) k2 e1 e2 hk)
                      · simp only [hk, if_false]
                        exact hp
                  · rw [if_neg hs]
                    exact hsn _ _ hp (h4 t hm k2 e1 e2)
            · rw [if_neg k2] at h
              by_cases hs : see l p syOpen = true
              · rw [if_pos hs] at h
                cases e2 : pR l n .imp p.adv with
                | none => rw [e2] at h; cases h
                | some q =>
                  rw [e2, Option.bind_some] at h
                  by_cases hc : see l q.2 syClose = true
                  · rw [if_pos hc] at h; injection h with h; subst h; have h9 := ih _ _ _ e2 hp; exact h9
                  · rw [if_neg hc] at h; injection h with h; subst h; have h9 := ih _ _ _ e2 hp; exact h9
              · rw [if_neg hs] at h; injection h with h; subst h; exact hp
theorem pRun_ops (l : List Tok) : OpsOk (pRun l).2.out :=
  pR_inv l (fun x => 1 ≤ x.op) (fun _ _ _ => by show 1 ≤ 1; omega) (by show 1 ≤ 2; omega) (by show 1 ≤ 2; omega) (fun _ _ _ _ _ => by show 1 ≤ 3; omega) (fun _ _ _ _ _ _ _ _ => by show 1 ≤ 3; omega) (fun o a b h => by show 1 ≤ o; simp at h; omega) _ _ _ _ (pRun_some l) (fun x hx => by cases hx)
/-- parse's end: the nodes, or the panic with the place -/
def RetPs (l : List Tok) (w : World) (e : Ending) (w' : World) : Prop :=
  (¬ ((pRun l).2.bad = true ∨ (pRun l).2.at_ < l.length) ∧ ∃ A2 cap2, e = .returned (.slice A2 (pRun l).2.out.length cap2) ∧ w'.ownsRow w.heap.size 105 7 (.slice A2 (pRun l).2.out.length cap2) (pRun l).2.out.length (ncells (pRun l).2.out) ∧ Below w.heap.size w w') ∨
  (((pRun l).2.bad = true ∨ (pRun l).2.at_ < l.length) ∧ e = .panicked (Mis (pRun l).2.at_) ∧ Below w.heap.size w w')
set_option maxRecDepth 100000 in
set_option maxHeartbeats 4000000 in
theorem py_parse (w : World) (A : Option Addr) (n cap : Nat) (l : List Tok) (hn : l.length = n) (hc : n ≤ cap) (hT : TokOk l) (hR : TokB w w.heap.size A l) (hy : SymY w) :
    Calls Tryd.prog 52 #[.slice A n cap] w (RetPs l w) := by
  have hal : Below w.heap.size w (w.alloc (.cells #[.slice A n cap, .int .i64 0, .slice none 0 0] 184)) := (Below.refl _ _).alloc (Nat.le_refl _) _
  have P0 : PAt w.heap.size w.heap.size n cap A l p0 (w.alloc (.cells #[.slice A n cap, .int .i64 0, .slice none 0 0] 184)) :=
    ⟨Nat.le_refl _, hy.lt, by simp, hR.below hal, hn, hc, World.cell?_alloc_new .., World.cell?_alloc_new .., ⟨none, 0, World.cell?_alloc_new .., World.ownsRow_nil _ _ _ _, by simp [Value.ownBlock]⟩, fun i => World.frozen?_alloc_new .., hy.below hal hy.lt⟩
  have K1 := Lib.hid ((ih_all l hT (fuel l)).imp P0 ⟨rfl, Nat.zero_le _, Nat.le_refl _⟩ (pRun_some l))
  have HB0 := Lib.hid hal
  have HW := Lib.hid (pRun_len l)
  have HN := Lib.hid hn
  clear P0 hal hR hy hc hT hn
  unfold RetPs
  go_enter Tryd.func52, Tryd.ntmps52
  go_wp2_with fail
  go_at_call 68
  refine K1.out.mono ?_
  clear K1
  rintro e w1 (⟨hb1, rfl, p1, k1⟩ | ⟨hb1, rfl, hx1⟩)
  · have P1 := Lib.hid p1
    have HK1 := Lib.hid (HB0.out.trans k1.below)
    have HB1 := Lib.hid hb1
    obtain ⟨A2, cap2, c2, ho, _⟩ := p1.c2
    have c1 := p1.c1
    obtain ⟨a, ha⟩ : ∃ a, a = (pRun l).2.at_ := ⟨_, rfl⟩
    rw [← ha] at c1
    have HA := Lib.hid ha
    have HO := Lib.hid ho
    clear p1 k1 hb1 ha ho
    by_cases hlt : a < n
    · have hltI : (a : Int) < (n : Int) := by omega
      go_wp2_with fail
      go_at_call 69
      refine (py_fail P1.out).mono ?_
      rintro e w2 ⟨rfl, hb2⟩
      have HX := Lib.hid (HK1.out.trans (hb2.mono P1.out.base))
      clear hb2
      go_wp2_with fail
      exact ⟨rfl, .inr ⟨.inr (by rw [← HA.out, HN.out]; exact hlt), rfl, HX.out⟩⟩
    · have hltI : ¬ (a : Int) < (n : Int) := by omega
      go_wp2_with fail
      go_ret
      exact .inl ⟨fun h => by
        rcases h with h | h
        · rw [HB1.out] at h; cases h
        · rw [← HA.out, HN.out] at h; exact hlt h, A2, cap2, rfl, HO.out, HK1.out⟩
  · have HX := Lib.hid (HB0.out.trans hx1)
    have HB1 := Lib.hid hb1
    clear hx1 hb1
    go_wp2_with fail
    exact ⟨rfl, .inr ⟨.inl HB1.out, rfl, HX.out⟩⟩
set_option maxRecDepth 100000 in
theorem ta_yes (S : TypeId) (k : Int) (w : World) : (Instr.typeAssert (.iface 158 (.int .i64 k)) S 158 true).run Tryd.prog w = .ok (.tuple #[.int .i64 k, .bool true]) w := by
  first | rfl | kernel_rfl
set_option maxRecDepth 100000 in
theorem ta_no (S : TypeId) (w : World) : (Instr.typeAssert .nilIface S 158 true).run Tryd.prog w = .ok (.tuple #[.int .i64 0, .bool false]) w := by
  first | rfl | kernel_rfl
set_option maxRecDepth 100000 in
set_option maxHeartbeats 2000000 in
theorem py_catch (P Q R k : Nat) (x y z : Value) (w : World) (hp : w.cell? ⟨P, 0, none⟩ = some x) (hq : w.cell? ⟨Q, 0, none⟩ = some y) (hr : w.cell? ⟨R, 0, none⟩ = some z) (fp : w.frozen? ⟨P, 0, none⟩ = false) (fq : w.frozen? ⟨Q, 0, none⟩ = false) (fr : w.frozen? ⟨R, 0, none⟩ = false) (hpq : P ≠ Q) (hpr : P ≠ R) (hqr : Q ≠ R) :
    CallsD Tryd.prog 51 #[.pointer (some ⟨P, 0, none⟩), .pointer (some ⟨Q, 0, none⟩), .pointer (some ⟨R, 0, none⟩)] (.panicking (Mis k)) w fun e u' w' =>
      e = .returned (.tuple #[]) ∧ u' = .panicking [{ v := .iface 158 (.int .i64 k), recovered := true }] ∧ w' = ((w.setCell ⟨P, 0, none⟩ (.slice none 0 0)).setCell ⟨Q, 0, none⟩ (.int .i64 k)).setCell ⟨R, 0, none⟩ (.int .i64 10) := by
  have hta := fun S W => ta_yes S k W
  have hq1 : (w.setCell ⟨P, 0, none⟩ (.slice none 0 0)).cell? ⟨Q, 0, none⟩ = some y := by rw [World.cell?_setCell_other _ _ _ _ (by intro e; injection e with e; exact hpq e)]; exact hq
  have fq1 : (w.setCell ⟨P, 0, none⟩ (.slice none 0 0)).frozen? ⟨Q, 0, none⟩ = false := by rw [World.frozen?_setCell]; exact fq
  have hr1 : ((w.setCell ⟨P, 0, none⟩ (.slice none 0 0)).setCell ⟨Q, 0, none⟩ (.int .i64 k)).cell? ⟨R, 0, none⟩ = some z := by
    rw [World.cell?_setCell_other _ _ _ _ (by intro e; injection e with e; exact hqr e), World.cell?_setCell_other _ _ _ _ (by intro e; injection e with e; exact hpr e)]; exact hr
  have fr1 : ((w.setCell ⟨P, 0, none⟩ (.slice none 0 0)).setCell ⟨Q, 0, none⟩ (.int .i64 k)).frozen? ⟨R, 0, none⟩ = false := by rw [World.frozen?_setCell, World.frozen?_setCell]; exact fr
  refine callsD_of_wpS Tryd.func51 rfl fun c₀ cs hu => ?_
  apply wpS_seq
  apply wpS_region
  simp [wpOpsS, go_sem, recoverD, hu, Mis, Tryd.ntmps51, Exit.thenS, hta]
  apply wpS_seq
  apply wpS_region
  simp [wpOpsS, go_sem, Exit.thenS]
  refine wpS_cond (t := true) (by simp [Act.eval]) ?_
  simp only [if_true]
  apply wpS_region
  simp [wpOpsS, go_sem, hp, fp, hq1, fq1, hr1, fr1, bodyPostS, results, Tryd.results51]
set_option maxRecDepth 100000 in
set_option maxHeartbeats 2000000 in
theorem py_idle (P Q R : Nat) (w : World) :
    CallsD Tryd.prog 51 #[.pointer (some ⟨P, 0, none⟩), .pointer (some ⟨Q, 0, none⟩), .pointer (some ⟨R, 0, none⟩)] .returning w fun e u' w' => e = .returned (.tuple #[]) ∧ u' = .returning ∧ w' = w := by
  have hta := fun S W => ta_no S W
  refine callsD_of_wpS Tryd.func51 rfl fun c₀ cs hu => ?_
  apply wpS_seq
  apply wpS_region
  simp [wpOpsS, go_sem, recoverD, hu, Tryd.ntmps51, Exit.thenS, hta]
  apply wpS_seq
  apply wpS_region
  simp [wpOpsS, go_sem, Exit.thenS]
  refine wpS_cond (t := false) (by simp [Act.eval]) ?_
  simp only [Bool.false_eq_true, if_false]
  refine wpS_of_wp (wp_skip ?_)
  cases c₀
  simp_all [bodyPostS, results, Tryd.results51]
end
/- Package syntax: Parse of every list of tokens. -/
section
open Go.RowKit

/-- Parse's end -/
def RetPt (R : List Nd × Nat × Nat) (w : World) (e : Ending) (w' : World) : Prop := ∃ A cap, e = .returned (.tuple #[.slice A R.1.length cap, .int .i64 (R.2.1 : Nat), .int .i64 (R.2.2 : Nat)]) ∧ R.1.length ≤ cap ∧ NodR w' A R.1 ∧ Below w.heap.size w w'
theorem three_read {w0 w1 : World} {x y z : Value} {a b c : TypeId} (hb : Below (((w0.alloc (.cells #[x] a)).alloc (.cells #[y] b)).alloc (.cells #[z] c)).heap.size (((w0.alloc (.cells #[x] a)).alloc (.cells #[y] b)).alloc (.cells #[z] c)) w1) :
    w1.cell? ⟨w0.heap.size, 0, none⟩ = some x ∧ w1.cell? ⟨w0.heap.size + 1, 0, none⟩ = some y ∧ w1.cell? ⟨w0.heap.size + 2, 0, none⟩ = some z ∧ w1.frozen? ⟨w0.heap.size, 0, none⟩ = false ∧ w1.frozen? ⟨w0.heap.size + 1, 0, none⟩ = false ∧ w1.frozen? ⟨w0.heap.size + 2, 0, none⟩ = false := by
  have s1 : (w0.alloc (.cells #[x] a)).heap.size = w0.heap.size + 1 := by simp
  have s2 : ((w0.alloc (.cells #[x] a)).alloc (.cells #[y] b)).heap.size = w0.heap.size + 2 := by simp
  have s3 : (((w0.alloc (.cells #[x] a)).alloc (.cells #[y] b)).alloc (.cells #[z] c)).heap.size = w0.heap.size + 3 := by simp
  rw [s3] at hb
  refine ⟨?_, ?_, ?_, ?_, ?_, ?_⟩
  · rw [hb.cell (p := ⟨w0.heap.size, 0, none⟩) (by show w0.heap.size < w0.heap.size + 3; omega), World.cell?_alloc_past _ _ _ (by omega), World.cell?_alloc_past _ _ _ (by omega), World.cell?_alloc_new]; rfl
  · rw [hb.cell (p := ⟨w0.heap.size + 1, 0, none⟩) (by show w0.heap.size + 1 < w0.heap.size + 3; omega), World.cell?_alloc_past _ _ _ (by omega)]
    have := World.cell?_alloc_new (w0.alloc (.cells #[x] a)) #[y] b 0
    rw [s1] at this; rw [this]; rfl
  · rw [hb.cell (p := ⟨w0.heap.size + 2, 0, none⟩) (by show w0.heap.size + 2 < w0.heap.size + 3; omega)]
    have := World.cell?_alloc_new ((w0.alloc (.cells #[x] a)).alloc (.cells #[y] b)) #[z] c 0
    rw [s2] at this; rw [this]; rfl
  · rw [hb.frozen (p := ⟨w0.heap.size, 0, none⟩) (by show w0.heap.size < w0.heap.size + 3; omega), World.frozen?_alloc_past _ _ _ (by omega), World.frozen?_alloc_past _ _ _ (by omega)]; exact World.frozen?_alloc_new ..
  · rw [hb.frozen (p := ⟨w0.heap.size + 1, 0, none⟩) (by show w0.heap.size + 1 < w0.heap.size + 3; omega), World.frozen?_alloc_past _ _ _ (by omega)]
    have := World.frozen?_alloc_new (w0.alloc (.cells #[x] a)) #[y] b 0
    rw [s1] at this; exact this
  · rw [hb.frozen (p := ⟨w0.heap.size + 2, 0, none⟩) (by show w0.heap.size + 2 < w0.heap.size + 3; omega)]
    have := World.frozen?_alloc_new ((w0.alloc (.cells #[x] a)).alloc (.cells #[y] b)) #[z] c 0
    rw [s2] at this; exact this
set_option maxRecDepth 100000 in
set_option maxHeartbeats 4000000 in
theorem py_Parse (w : World) (A : Option Addr) (n cap : Nat) (l : List Tok) (hn : l.length = n) (hc : n ≤ cap) (hT : TokOk l) (hR : TokB w w.heap.size A l) (hy : SymY w) :
    Calls Tryd.prog 34 #[.slice A n cap] w (RetPt (parse l) w) := by
  have hal : Below w.heap.size w (((w.alloc (.cells #[.slice none 0 0] 72)).alloc (.cells #[.int .i64 0] 3)).alloc (.cells #[.int .i64 0] 73)) := (((Below.refl _ _).alloc (Nat.le_refl _) _).alloc (by simp) _).alloc (by simp; omega) _
  have hs3 : (((w.alloc (.cells #[.slice none 0 0] 72)).alloc (.cells #[.int .i64 0] 3)).alloc (.cells #[.int .i64 0] 73)).heap.size = w.heap.size + 3 := by simp
  have hTB : TokB (((w.alloc (.cells #[.slice none 0 0] 72)).alloc (.cells #[.int .i64 0] 3)).alloc (.cells #[.int .i64 0] 73)) (((w.alloc (.cells #[.slice none 0 0] 72)).alloc (.cells #[.int .i64 0] 3)).alloc (.cells #[.int .i64 0] 73)).heap.size A l := by
    rcases (hR.below hal).r with h | ⟨g, h1, h2, h3⟩
    · exact ⟨.inl h⟩
    · exact ⟨.inr ⟨g, h1, by omega, h3⟩⟩
  have K := Lib.hid (py_parse _ A n cap l hn hc hT hTB (hy.below hal hy.lt))
  have h400 : ¬ (400 : Int) < (n : Int) := by have := hT.len; omega
  have HL := Lib.hid (pRun_len l)
  have HBL := Lib.hid hal
  have hn4 : l.length ≤ 400 := hT.len
  have hmf : ∀ (fn : Fn) (first cap : Array Value) (w : World), (Instr.makeFunc fn first cap).run Tryd.prog w = .ok (.func fn first cap) w := fun _ _ _ _ => rfl
  clear hTB hal hT hR hy
  obtain ⟨RR, hRR⟩ : ∃ R, R = parse l := ⟨_, rfl⟩
  rw [← hRR]
  have HRR := Lib.hid hRR
  clear hRR
  go_enter_defers Tryd.func34, Tryd.ntmps34
  go_wp2_with fail
  go_at_call 52
  refine K.out.mono ?_
  clear K
  rintro e w1 (⟨hg, A2, cap2, rfl, ho, hb⟩ | ⟨hg, rfl, hb⟩)
  · obtain ⟨c0, c1, c2, f0, f1, f2⟩ := three_read hb
    have hl2 := HL.out
    obtain ⟨out, hout⟩ : ∃ o, o = (pRun l).2.out := ⟨_, rfl⟩
    obtain ⟨m, hm⟩ : ∃ m, m = out.length := ⟨_, rfl⟩
    have hm4 : m ≤ 400 := by rw [hm, hout]; omega
    have hops : OpsOk out := by rw [hout]; exact pRun_ops l
    have hRR : RR = if 120 < m ∨ 12 < depth out then ([], 0, 11) else (out, 0, 0) := by rw [HRR.out]; unfold parse; rw [if_neg hg, hm, hout]
    rw [← hout] at ho ⊢
    rw [← hm] at ho ⊢
    rw [hs3] at ho hb
    have hnb : (Value.slice A2 m cap2).ownBlock ≠ some w.heap.size := fun e => by have := own_block_ge ho e; omega
    have hcap : m ≤ cap2 := own_le ho
    have HO2 := Lib.hid (own_setY (i := 0) (u := .slice A2 m cap2) ho hnb)
    have HB : Hid (Below w.heap.size w w1) := Lib.hid (HBL.out.trans (hb.mono (by omega)))
    have HB2 := Lib.hid (HB.out.setCell (p := ⟨w.heap.size, 0, none⟩) (Nat.le_refl _) (.slice A2 m cap2))
    have d0 : (w1.setCell ⟨w.heap.size, 0, none⟩ (.slice A2 m cap2)).cell? ⟨w.heap.size, 0, none⟩ = some (.slice A2 m cap2) := World.cell?_setCell_same' _ _ _ (by rw [c0]; rfl)
    have d1 : (w1.setCell ⟨w.heap.size, 0, none⟩ (.slice A2 m cap2)).cell? ⟨w.heap.size + 1, 0, none⟩ = some (.int .i64 0) := by rw [World.cell?_setCell_other _ _ _ _ (by intro e; injection e with e; omega)]; exact c1
    have d2 : (w1.setCell ⟨w.heap.size, 0, none⟩ (.slice A2 m cap2)).cell? ⟨w.heap.size + 1 + 1, 0, none⟩ = some (.int .i64 0) := by rw [World.cell?_setCell_other _ _ _ _ (by intro e; injection e with e; omega)]; exact c2
    have e0 : (w1.setCell ⟨w.heap.size, 0, none⟩ (.slice A2 m cap2)).frozen? ⟨w.heap.size, 0, none⟩ = false := by rw [World.frozen?_setCell]; exact f0
    have e1 : (w1.setCell ⟨w.heap.size, 0, none⟩ (.slice A2 m cap2)).frozen? ⟨w.heap.size + 1, 0, none⟩ = false := by rw [World.frozen?_setCell]; exact f1
    have e2 : (w1.setCell ⟨w.heap.size, 0, none⟩ (.slice A2 m cap2)).frozen? ⟨w.heap.size + 1 + 1, 0, none⟩ = false := by rw [World.frozen?_setCell]; exact f2
    have hsz : w.heap.size + 3 ≤ (w1.setCell ⟨w.heap.size, 0, none⟩ (.slice A2 m cap2)).heap.size := by rw [World.size_setCell]; have := hb.size; rw [hs3] at this; exact this
    have HM := Lib.hid hm
    have HRR2 := Lib.hid hRR
    have HOP := Lib.hid hops
    clear hb hg HRR hRR hout ho HB hl2 hops hm
    go_upto_region 5 with (fail)
    clear c0 c1 c2 f0 f1 f2
    generalize w1.setCell ⟨w.heap.size, 0, none⟩ (.slice A2 m cap2) = W at HO2 HB2 d0 d1 d2 e0 e1 e2 hsz ⊢
    by_cases hbig : 120 < m
    · have hbigI : (120 : Int) < (m : Int) := by omega
      have hRR := HRR2.out
      rw [if_pos (.inl hbig)] at hRR
      subst hRR
      have z0 : (((W.setCell ⟨w.heap.size, 0, none⟩ (.slice none 0 0)).setCell ⟨w.heap.size + 1, 0, none⟩ (.int .i64 0)).setCell ⟨w.heap.size + 1 + 1, 0, none⟩ (.int .i64 11)).cell? ⟨w.heap.size, 0, none⟩ = some (.slice none 0 0) := by
        rw [World.cell?_setCell_other _ _ _ _ (by intro e; injection e with e; omega), World.cell?_setCell_other _ _ _ _ (by intro e; injection e with e; omega), World.cell?_setCell_same' _ _ _ (by rw [d0]; rfl)]
      have z1 : (((W.setCell ⟨w.heap.size, 0, none⟩ (.slice none 0 0)).setCell ⟨w.heap.size + 1, 0, none⟩ (.int .i64 0)).setCell ⟨w.heap.size + 1 + 1, 0, none⟩ (.int .i64 11)).cell? ⟨w.heap.size + 1, 0, none⟩ = some (.int .i64 0) := by
        rw [World.cell?_setCell_other _ _ _ _ (by intro e; injection e with e; omega), World.cell?_setCell_same' _ _ _ (by rw [World.cell?_setCell_other _ _ _ _ (by intro e; injection e with e; omega), d1]; rfl)]
      have z2 : (((W.setCell ⟨w.heap.size, 0, none⟩ (.slice none 0 0)).setCell ⟨w.heap.size + 1, 0, none⟩ (.int .i64 0)).setCell ⟨w.heap.size + 1 + 1, 0, none⟩ (.int .i64 11)).cell? ⟨w.heap.size + 1 + 1, 0, none⟩ = some (.int .i64 11) := by
        rw [World.cell?_setCell_same' _ _ _ (by rw [World.cell?_setCell_other _ _ _ _ (by intro e; injection e with e; omega), World.cell?_setCell_other _ _ _ _ (by intro e; injection e with e; omega), d2]; rfl)]
      have HF := Lib.hid (((HB2.out.setCell (p := ⟨w.heap.size, 0, none⟩) (Nat.le_refl _) (.slice none 0 0)).setCell (p := ⟨w.heap.size + 1, 0, none⟩) (Nat.le_add_right _ 1) (.int .i64 0)).setCell (p := ⟨w.heap.size + 1 + 1, 0, none⟩) (Nat.le_add_right _ 2) (.int .i64 11))
      go_wp2_with fail
      refine leaves_cons (f := 51) (args := #[.pointer (some ⟨w.heap.size, 0, none⟩), .pointer (some ⟨w.heap.size + 1, 0, none⟩), .pointer (some ⟨w.heap.size + 1 + 1, 0, none⟩)]) (by simp) (by simp [go_sem]) ?_
      refine (py_idle w.heap.size (w.heap.size + 1) (w.heap.size + 1 + 1) _).mono ?_
      rintro e u' w'' ⟨rfl, rfl, rfl⟩
      simp [Leaves, settle, results, Tryd.results34, go_sem, z0, z1, z2]
      exact ⟨none, 0, rfl, Nat.le_refl _, ⟨.inl rfl⟩, HF.out⟩
    · have hbigI : ¬ (120 : Int) < (m : Int) := by omega
      obtain ⟨d, hd⟩ : ∃ d, d = depth out := ⟨_, rfl⟩
      have K := Lib.hid (py_depth W A2 m cap2 out HM.out.symm hcap hm4 (nodR_own HO2.out HM.out.symm) HOP.out)
      rw [← hd] at K
      have hRR := HRR2.out
      rw [← hd] at hRR
      have HRR3 := Lib.hid hRR
      clear hd hRR HRR2
      go_wp2_with fail
      go_at_call 53
      refine K.out.mono ?_
      rintro e w3 ⟨rfl, hb3⟩
      have g0 : w3.cell? ⟨w.heap.size, 0, none⟩ = some (.slice A2 m cap2) := by rw [hb3.cell (p := ⟨w.heap.size, 0, none⟩) (by show w.heap.size < _; omega)]; exact d0
      have g1 : w3.cell? ⟨w.heap.size + 1, 0, none⟩ = some (.int .i64 0) := by rw [hb3.cell (p := ⟨w.heap.size + 1, 0, none⟩) (by show w.heap.size + 1 < _; omega)]; exact d1
      have g2 : w3.cell? ⟨w.heap.size + 1 + 1, 0, none⟩ = some (.int .i64 0) := by rw [hb3.cell (p := ⟨w.heap.size + 1 + 1, 0, none⟩) (by show w.heap.size + 1 + 1 < _; omega)]; exact d2
      have i0 : w3.frozen? ⟨w.heap.size, 0, none⟩ = false := by rw [hb3.frozen (p := ⟨w.heap.size, 0, none⟩) (by show w.heap.size < _; omega)]; exact e0
      have i1 : w3.frozen? ⟨w.heap.size + 1, 0, none⟩ = false := by rw [hb3.frozen (p := ⟨w.heap.size + 1, 0, none⟩) (by show w.heap.size + 1 < _; omega)]; exact e1
      have i2 : w3.frozen? ⟨w.heap.size + 1 + 1, 0, none⟩ = false := by rw [hb3.frozen (p := ⟨w.heap.size + 1 + 1, 0, none⟩) (by show w.heap.size + 1 + 1 < _; omega)]; exact e2
      have HB3 := Lib.hid (HB2.out.trans (hb3.mono (by omega)))
      have HO3 := Lib.hid (own_below2 HO2.out hb3)
      clear d0 d1 d2 e0 e1 e2 hb3 HO2 HB2 K
      by_cases hdp : 12 < d
      · have hdI : (12 : Int) < (d : Int) := by omega
        have hRR := HRR3.out
        rw [if_pos (.inr hdp)] at hRR
        subst hRR
        have z0 : (((w3.setCell ⟨w.heap.size, 0, none⟩ (.slice none 0 0)).setCell ⟨w.heap.size + 1, 0, none⟩ (.int .i64 0)).setCell ⟨w.heap.size + 1 + 1, 0, none⟩ (.int .i64 11)).cell? ⟨w.heap.size, 0, none⟩ = some (.slice none 0 0) := by
          rw [World.cell?_setCell_other _ _ _ _ (by intro e; injection e with e; omega), World.cell?_setCell_other _ _ _ _ (by intro e; injection e with e; omega), World.cell?_setCell_same' _ _ _ (by rw [g0]; rfl)]
        have z1 : (((w3.setCell ⟨w.heap.size, 0, none⟩ (.slice none 0 0)).setCell ⟨w.heap.size + 1, 0, none⟩ (.int .i64 0)).setCell ⟨w.heap.size + 1 + 1, 0, none⟩ (.int .i64 11)).cell? ⟨w.heap.size + 1, 0, none⟩ = some (.int .i64 0) := by
          rw [World.cell?_setCell_other _ _ _ _ (by intro e; injection e with e; omega), World.cell?_setCell_same' _ _ _ (by rw [World.cell?_setCell_other _ _ _ _ (by intro e; injection e with e; omega), g1]; rfl)]
        have z2 : (((w3.setCell ⟨w.heap.size, 0, none⟩ (.slice none 0 0)).setCell ⟨w.heap.size + 1, 0, none⟩ (.int .i64 0)).setCell ⟨w.heap.size + 1 + 1, 0, none⟩ (.int .i64 11)).cell? ⟨w.heap.size + 1 + 1, 0, none⟩ = some (.int .i64 11) := by
          rw [World.cell?_setCell_same' _ _ _ (by rw [World.cell?_setCell_other _ _ _ _ (by intro e; injection e with e; omega), World.cell?_setCell_other _ _ _ _ (by intro e; injection e with e; omega), g2]; rfl)]
        have HF := Lib.hid (((HB3.out.setCell (p := ⟨w.heap.size, 0, none⟩) (Nat.le_refl _) (.slice none 0 0)).setCell (p := ⟨w.heap.size + 1, 0, none⟩) (Nat.le_add_right _ 1) (.int .i64 0)).setCell (p := ⟨w.heap.size + 1 + 1, 0, none⟩) (Nat.le_add_right _ 2) (.int .i64 11))
        go_wp2_with fail
        refine leaves_cons (f := 51) (args := #[.pointer (some ⟨w.heap.size, 0, none⟩), .pointer (some ⟨w.heap.size + 1, 0, none⟩), .pointer (some ⟨w.heap.size + 1 + 1, 0, none⟩)]) (by simp) (by simp [go_sem]) ?_
        refine (py_idle w.heap.size (w.heap.size + 1) (w.heap.size + 1 + 1) _).mono ?_
        rintro e u' w'' ⟨rfl, rfl, rfl⟩
        simp [Leaves, settle, results, Tryd.results34, go_sem, z0, z1, z2]
        exact ⟨none, 0, rfl, Nat.le_refl _, ⟨.inl rfl⟩, HF.out⟩
      · have hdI : ¬ (12 : Int) < (d : Int) := by omega
        have hRR := HRR3.out
        rw [if_neg (by omega)] at hRR
        subst hRR
        have HO4 := Lib.hid (own_setY (i := 0) (u := .int .i64 0) (own_setY (b := w.heap.size + 1) (i := 0) (u := .int .i64 0) (own_setY (b := w.heap.size) (i := 0) (u := .slice A2 m cap2) HO3.out hnb) (fun e => by have := own_block_ge HO3.out e; omega)) (b := w.heap.size + 1 + 1) (fun e => by have := own_block_ge HO3.out e; omega))
        have z0 : (((w3.setCell ⟨w.heap.size, 0, none⟩ (.slice A2 m cap2)).setCell ⟨w.heap.size + 1, 0, none⟩ (.int .i64 0)).setCell ⟨w.heap.size + 1 + 1, 0, none⟩ (.int .i64 0)).cell? ⟨w.heap.size, 0, none⟩ = some (.slice A2 m cap2) := by
          rw [World.cell?_setCell_other _ _ _ _ (by intro e; injection e with e; omega), World.cell?_setCell_other _ _ _ _ (by intro e; injection e with e; omega), World.cell?_setCell_same' _ _ _ (by rw [g0]; rfl)]
        have z1 : (((w3.setCell ⟨w.heap.size, 0, none⟩ (.slice A2 m cap2)).setCell ⟨w.heap.size + 1, 0, none⟩ (.int .i64 0)).setCell ⟨w.heap.size + 1 + 1, 0, none⟩ (.int .i64 0)).cell? ⟨w.heap.size + 1, 0, none⟩ = some (.int .i64 0) := by
          rw [World.cell?_setCell_other _ _ _ _ (by intro e; injection e with e; omega), World.cell?_setCell_same' _ _ _ (by rw [World.cell?_setCell_other _ _ _ _ (by intro e; injection e with e; omega), g1]; rfl)]
        have z2 : (((w3.setCell ⟨w.heap.size, 0, none⟩ (.slice A2 m cap2)).setCell ⟨w.heap.size + 1, 0, none⟩ (.int .i64 0)).setCell ⟨w.heap.size + 1 + 1, 0, none⟩ (.int .i64 0)).cell? ⟨w.heap.size + 1 + 1, 0, none⟩ = some (.int .i64 0) := by
          rw [World.cell?_setCell_same' _ _ _ (by rw [World.cell?_setCell_other _ _ _ _ (by intro e; injection e with e; omega), World.cell?_setCell_other _ _ _ _ (by intro e; injection e with e; omega), g2]; rfl)]
        have HF := Lib.hid (((HB3.out.setCell (p := ⟨w.heap.size, 0, none⟩) (Nat.le_refl _) (.slice A2 m cap2)).setCell (p := ⟨w.heap.size + 1, 0, none⟩) (Nat.le_add_right _ 1) (.int .i64 0)).setCell (p := ⟨w.heap.size + 1 + 1, 0, none⟩) (Nat.le_add_right _ 2) (.int .i64 0))
        go_wp2_with fail
        refine leaves_cons (f := 51) (args := #[.pointer (some ⟨w.heap.size, 0, none⟩), .pointer (some ⟨w.heap.size + 1, 0, none⟩), .pointer (some ⟨w.heap.size + 1 + 1, 0, none⟩)]) (by simp) (by simp [go_sem]) ?_
        refine (py_idle w.heap.size (w.heap.size + 1) (w.heap.size + 1 + 1) _).mono ?_
        rintro e u' w'' ⟨rfl, rfl, rfl⟩
        simp [Leaves, settle, results, Tryd.results34, go_sem, z0, z1, z2]
        exact ⟨A2, cap2, by rw [HM.out]; rfl, by show out.length ≤ _; rw [← HM.out]; exact hcap, nodR_own HO4.out HM.out.symm, HF.out⟩
  · obtain ⟨c0, c1, c2, f0, f1, f2⟩ := three_read hb
    have HB := Lib.hid (HBL.out.trans (hb.mono (by rw [hs3]; omega)))
    have hRR : RR = ([], (pRun l).2.at_, 10) := by rw [HRR.out]; unfold parse; rw [if_pos hg]
    subst hRR
    clear hb hg
    obtain ⟨k, hk⟩ : ∃ k, k = (pRun l).2.at_ := ⟨_, rfl⟩
    have z0 : (((w1.setCell ⟨w.heap.size, 0, none⟩ (.slice none 0 0)).setCell ⟨w.heap.size + 1, 0, none⟩ (.int .i64 ((pRun l).2.at_ : Nat))).setCell ⟨w.heap.size + 1 + 1, 0, none⟩ (.int .i64 10)).cell? ⟨w.heap.size, 0, none⟩ = some (.slice none 0 0) := by
      rw [World.cell?_setCell_other _ _ _ _ (by intro e; injection e with e; omega), World.cell?_setCell_other _ _ _ _ (by intro e; injection e with e; omega), World.cell?_setCell_same' _ _ _ (by rw [c0]; rfl)]
    have z1 : (((w1.setCell ⟨w.heap.size, 0, none⟩ (.slice none 0 0)).setCell ⟨w.heap.size + 1, 0, none⟩ (.int .i64 ((pRun l).2.at_ : Nat))).setCell ⟨w.heap.size + 1 + 1, 0, none⟩ (.int .i64 10)).cell? ⟨w.heap.size + 1, 0, none⟩ = some (.int .i64 ((pRun l).2.at_ : Nat)) := by
      rw [World.cell?_setCell_other _ _ _ _ (by intro e; injection e with e; omega), World.cell?_setCell_same' _ _ _ (by rw [World.cell?_setCell_other _ _ _ _ (by intro e; injection e with e; omega), c1]; rfl)]
    have z2 : (((w1.setCell ⟨w.heap.size, 0, none⟩ (.slice none 0 0)).setCell ⟨w.heap.size + 1, 0, none⟩ (.int .i64 ((pRun l).2.at_ : Nat))).setCell ⟨w.heap.size + 1 + 1, 0, none⟩ (.int .i64 10)).cell? ⟨w.heap.size + 1 + 1, 0, none⟩ = some (.int .i64 10) := by
      rw [World.cell?_setCell_same' _ _ _ (by rw [World.cell?_setCell_other _ _ _ _ (by intro e; injection e with e; omega), World.cell?_setCell_other _ _ _ _ (by intro e; injection e with e; omega), c2]; rfl)]
    have HF := Lib.hid (((HB.out.setCell (p := ⟨w.heap.size, 0, none⟩) (Nat.le_refl _) (.slice none 0 0)).setCell (p := ⟨w.heap.size + 1, 0, none⟩) (Nat.le_add_right _ 1) (.int .i64 ((pRun l).2.at_ : Nat))).setCell (p := ⟨w.heap.size + 1 + 1, 0, none⟩) (Nat.le_add_right _ 2) (.int .i64 10))
    clear hk k
    go_wp2_with fail
    refine leaves_cons (f := 51) (args := #[.pointer (some ⟨w.heap.size, 0, none⟩), .pointer (some ⟨w.heap.size + 1, 0, none⟩), .pointer (some ⟨w.heap.size + 1 + 1, 0, none⟩)]) (by simp) (by simp [go_sem]) ?_
    refine (py_catch w.heap.size (w.heap.size + 1) (w.heap.size + 1 + 1) (pRun l).2.at_ _ _ _ _ c0 c1 c2 f0 f1 f2 (by omega) (by omega) (by omega)).mono ?_
    rintro e u' w'' ⟨rfl, rfl, rfl⟩
    simp [Leaves, settle, results, Tryd.results34, go_sem, z0, z1, z2]
    exact ⟨none, 0, rfl, Nat.le_refl _, ⟨.inl rfl⟩, HF.out⟩
end
/- The reference's Parse. -/
section
open Go.RowKit

end
end Go.Proofs.YtodmkmoglchoeaaDoor
