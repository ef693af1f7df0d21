/- What actions answers is a row of actions. -/
import Derived.Test.YtldgjahpmlafgaaGreatSActs
namespace Go.Proofs.YtldgjahpmlafgaaGreat

theorem SlOf.row {α : Type} {P : CellP α} {sz K B n : Nat} {cs : List Value} {w : World} {v : Value} (h : SlOf K B n cs w v) (ps : List (List Value × α)) (hsz : ∀ q ∈ ps, q.1.length = sz) (hn : n = ps.length) (hm : n ≤ maxLen) (hc : ps.flatMap Prod.fst = cs) (hP : ∀ q ∈ ps, ElH P B w.heap.size w q.1 q.2) :
    RowH sz P B w.heap.size w v (ps.map Prod.snd) := by
  obtain ⟨L, rfl, hb, hB⟩ := h
  subst hc
  exact rowH_lit ps hsz hB hb.lt hn (Nat.le_refl _) hm hb.c hP
theorem lit_str (a b : ByteArray) (h : a.data = b.data) : (Value.string a) = .string b := by cases a; cases b; cases h; rfl
theorem small_of {l : List Nat} (h : l.all (fun x => decide (x < 256)) = true) : Small l := fun x hx => by simpa using List.all_eq_true.1 h x hx
theorem txt_of {l : List Nat} (h : l.all (fun x => decide (x < 256)) = true) (h2 : l.length ≤ 9223372036854775807) : Txt l := ⟨small_of h, h2⟩
/-- The restrictions of actions. -/
def ActTexts (t3 t5 : List Nat) : Prop := (t3 = [] ∨ t3 = [112, 111, 114, 116, 32, 33, 61, 32, 48]) ∧ (t5 = [] ∨ t5 = [120, 32, 60, 32, 121, 32, 124, 124, 32, 120, 32, 61, 61, 32, 49, 53])
def actDs (q r : Nat) (t3 t5 : List Nat) : List ActionD := [(⟨1, [110, 111, 112], [], [], []⟩ : ActionD), (⟨2, [100, 114, 111, 112], [], [(⟨6, 0, 0, 0, 0⟩ : PrimD)], []⟩ : ActionD), (⟨3, [102, 111, 114, 119, 97, 114, 100], [(⟨[112, 111, 114, 116], 16⟩ : ParamD)], [(⟨7, 0, 3, 0, 0⟩ : PrimD)], t3⟩ : ActionD), (⟨4, [116, 97, 103], [(⟨[120], 4⟩ : ParamD)], [(⟨1, 5, 3, 0, 0⟩ : PrimD), (⟨2, 3, 2, 5, 0⟩ : PrimD)], []⟩ : ActionD), (⟨5, [119, 114, 97, 112], [(⟨[120], 4⟩ : ParamD), (⟨[121], 12⟩ : ParamD)], [(⟨4, 3, 0, 0, 0⟩ : PrimD), (⟨1, 9, 3, 0, 0⟩ : PrimD), (⟨3, 8, 3, 1, 0⟩ : PrimD)], t5⟩ : ActionD), (⟨6, [115, 116, 114, 105, 112], [], [(⟨5, (2 + (q : Int)), 0, 0, 0⟩ : PrimD), (⟨2, 6, 1, 0, r⟩ : PrimD)], []⟩ : ActionD)]
set_option maxRecDepth 100000 in
theorem acts_row {K B : Nat} {w : World} {v : Value} (h : ActsAt K B w v) : ∃ (q r : Nat) (t3 t5 : List Nat), q < 2 ∧ r < 256 ∧ ActTexts t3 t5 ∧ RowH 5 ActionV B w.heap.size w v (actDs q r t3 t5) := by
  obtain ⟨q, r, v8, v11, v14, v17, v22, v26, v32, v44, x3, x5, hp, ⟨L, rfl, hb, hBL⟩, h3, h5⟩ := h
  have hq := hp.q2
  have hr := hp.r2
  have hh : hi r = 0 := by
    unfold hi
    omega
  have hl : lo r = r := by
    unfold lo
    omega
  obtain ⟨t3, e3, l3, k3⟩ : ∃ t3 : List Nat, x3 = .string (strL t3) ∧ (t3 = [] ∨ t3 = [112, 111, 114, 116, 32, 33, 61, 32, 48]) ∧ Txt t3 := by
    rcases h3 with rfl | rfl
    · exact ⟨[], rfl, .inl rfl, txt_of (by decide) (by decide)⟩
    · exact ⟨[112, 111, 114, 116, 32, 33, 61, 32, 48], rfl, .inr rfl, txt_of (by decide) (by decide)⟩
  obtain ⟨t5, e5, l5, k5⟩ : ∃ t5 : List Nat, x5 = .string (strL t5) ∧ (t5 = [] ∨ t5 = [120, 32, 60, 32, 121, 32, 124, 124, 32, 120, 32, 61, 61, 32, 49, 53]) ∧ Txt t5 := by
    rcases h5 with rfl | rfl
    · exact ⟨[], rfl, .inl rfl, txt_of (by decide) (by decide)⟩
    · exact ⟨[120, 32, 60, 32, 121, 32, 124, 124, 32, 120, 32, 61, 61, 32, 49, 53], rfl, .inr rfl, txt_of (by decide) (by decide)⟩
  subst e3 e5
  have r8 : RowH 6 PrimV B w.heap.size w v8 [(⟨6, 0, 0, 0, 0⟩ : PrimD)] := by
    refine hp.s8.row (P := PrimV) (sz := 6) [([.int .i64 6, .int .i64 0, .int .i64 0, .int .i64 0, .int .u64 0, .int .u64 0], (⟨6, 0, 0, 0, 0⟩ : PrimD))] (fun q hq => ?_) rfl (by decide) rfl (fun q hq w2 B2 hs hB2 => ?_)
    · simp only [List.mem_cons, List.not_mem_nil, or_false] at hq
      rcases hq with rfl <;> rfl
    · simp only [List.mem_cons, List.not_mem_nil, or_false] at hq
      rcases hq with rfl
      · exact ⟨by simp only [hi_zero, lo_zero], i64_of (x := 6) (by decide), i64_of (x := 0) (by decide), i64_of (x := 0) (by decide), i64_of (x := 0) (by decide), (by decide : (0 : Nat) < 2 ^ 128)⟩
  have r11 : RowH 2 ParamV B w.heap.size w v11 [(⟨[112, 111, 114, 116], 16⟩ : ParamD)] := by
    refine hp.s11.row (P := ParamV) (sz := 2) [([.string ⟨#[112, 111, 114, 116]⟩, .int .i64 16], (⟨[112, 111, 114, 116], 16⟩ : ParamD))] (fun q hq => ?_) rfl (by decide) rfl (fun q hq w2 B2 hs hB2 => ?_)
    · simp only [List.mem_cons, List.not_mem_nil, or_false] at hq
      rcases hq with rfl <;> rfl
    · simp only [List.mem_cons, List.not_mem_nil, or_false] at hq
      rcases hq with rfl
      · exact ⟨rfl, txt_of (l := [112, 111, 114, 116]) (by decide) (by decide), i64_of (x := 16) (by decide)⟩
  have r14 : RowH 6 PrimV B w.heap.size w v14 [(⟨7, 0, 3, 0, 0⟩ : PrimD)] := by
    refine hp.s14.row (P := PrimV) (sz := 6) [([.int .i64 7, .int .i64 0, .int .i64 3, .int .i64 0, .int .u64 0, .int .u64 0], (⟨7, 0, 3, 0, 0⟩ : PrimD))] (fun q hq => ?_) rfl (by decide) rfl (fun q hq w2 B2 hs hB2 => ?_)
    · simp only [List.mem_cons, List.not_mem_nil, or_false] at hq
      rcases hq with rfl <;> rfl
    · simp only [List.mem_cons, List.not_mem_nil, or_false] at hq
      rcases hq with rfl
      · exact ⟨by simp only [hi_zero, lo_zero], i64_of (x := 7) (by decide), i64_of (x := 0) (by decide), i64_of (x := 3) (by decide), i64_of (x := 0) (by decide), (by decide : (0 : Nat) < 2 ^ 128)⟩
  have r17 : RowH 2 ParamV B w.heap.size w v17 [(⟨[120], 4⟩ : ParamD)] := by
    refine hp.s17.row (P := ParamV) (sz := 2) [([.string ⟨#[120]⟩, .int .i64 4], (⟨[120], 4⟩ : ParamD))] (fun q hq => ?_) rfl (by decide) rfl (fun q hq w2 B2 hs hB2 => ?_)
    · simp only [List.mem_cons, List.not_mem_nil, or_false] at hq
      rcases hq with rfl <;> rfl
    · simp only [List.mem_cons, List.not_mem_nil, or_false] at hq
      rcases hq with rfl
      · exact ⟨rfl, txt_of (l := [120]) (by decide) (by decide), i64_of (x := 4) (by decide)⟩
  have r22 : RowH 6 PrimV B w.heap.size w v22 [(⟨1, 5, 3, 0, 0⟩ : PrimD), (⟨2, 3, 2, 5, 0⟩ : PrimD)] := by
    refine hp.s22.row (P := PrimV) (sz := 6) [([.int .i64 1, .int .i64 5, .int .i64 3, .int .i64 0, .int .u64 0, .int .u64 0], (⟨1, 5, 3, 0, 0⟩ : PrimD)), ([.int .i64 2, .int .i64 3, .int .i64 2, .int .i64 5, .int .u64 0, .int .u64 0], (⟨2, 3, 2, 5, 0⟩ : PrimD))] (fun q hq => ?_) rfl (by decide) rfl (fun q hq w2 B2 hs hB2 => ?_)
    · simp only [List.mem_cons, List.not_mem_nil, or_false] at hq
      rcases hq with rfl | rfl <;> rfl
    · simp only [List.mem_cons, List.not_mem_nil, or_false] at hq
      rcases hq with rfl | rfl
      · exact ⟨by simp only [hi_zero, lo_zero], i64_of (x := 1) (by decide), i64_of (x := 5) (by decide), i64_of (x := 3) (by decide), i64_of (x := 0) (by decide), (by decide : (0 : Nat) < 2 ^ 128)⟩
      · exact ⟨by simp only [hi_zero, lo_zero], i64_of (x := 2) (by decide), i64_of (x := 3) (by decide), i64_of (x := 2) (by decide), i64_of (x := 5) (by decide), (by decide : (0 : Nat) < 2 ^ 128)⟩
  have r26 : RowH 2 ParamV B w.heap.size w v26 [(⟨[120], 4⟩ : ParamD), (⟨[121], 12⟩ : ParamD)] := by
    refine hp.s26.row (P := ParamV) (sz := 2) [([.string ⟨#[120]⟩, .int .i64 4], (⟨[120], 4⟩ : ParamD)), ([.string ⟨#[121]⟩, .int .i64 12], (⟨[121], 12⟩ : ParamD))] (fun q hq => ?_) rfl (by decide) rfl (fun q hq w2 B2 hs hB2 => ?_)
    · simp only [List.mem_cons, List.not_mem_nil, or_false] at hq
      rcases hq with rfl | rfl <;> rfl
    · simp only [List.mem_cons, List.not_mem_nil, or_false] at hq
      rcases hq with rfl | rfl
      · exact ⟨rfl, txt_of (l := [120]) (by decide) (by decide), i64_of (x := 4) (by decide)⟩
      · exact ⟨rfl, txt_of (l := [121]) (by decide) (by decide), i64_of (x := 12) (by decide)⟩
  have r32 : RowH 6 PrimV B w.heap.size w v32 [(⟨4, 3, 0, 0, 0⟩ : PrimD), (⟨1, 9, 3, 0, 0⟩ : PrimD), (⟨3, 8, 3, 1, 0⟩ : PrimD)] := by
    refine hp.s32.row (P := PrimV) (sz := 6) [([.int .i64 4, .int .i64 3, .int .i64 0, .int .i64 0, .int .u64 0, .int .u64 0], (⟨4, 3, 0, 0, 0⟩ : PrimD)), ([.int .i64 1, .int .i64 9, .int .i64 3, .int .i64 0, .int .u64 0, .int .u64 0], (⟨1, 9, 3, 0, 0⟩ : PrimD)), ([.int .i64 3, .int .i64 8, .int .i64 3, .int .i64 1, .int .u64 0, .int .u64 0], (⟨3, 8, 3, 1, 0⟩ : PrimD))] (fun q hq => ?_) rfl (by decide) rfl (fun q hq w2 B2 hs hB2 => ?_)
    · simp only [List.mem_cons, List.not_mem_nil, or_false] at hq
      rcases hq with rfl | rfl | rfl <;> rfl
    · simp only [List.mem_cons, List.not_mem_nil, or_false] at hq
      rcases hq with rfl | rfl | rfl
      · exact ⟨by simp only [hi_zero, lo_zero], i64_of (x := 4) (by decide), i64_of (x := 3) (by decide), i64_of (x := 0) (by decide), i64_of (x := 0) (by decide), (by decide : (0 : Nat) < 2 ^ 128)⟩
      · exact ⟨by simp only [hi_zero, lo_zero], i64_of (x := 1) (by decide), i64_of (x := 9) (by decide), i64_of (x := 3) (by decide), i64_of (x := 0) (by decide), (by decide : (0 : Nat) < 2 ^ 128)⟩
      · exact ⟨by simp only [hi_zero, lo_zero], i64_of (x := 3) (by decide), i64_of (x := 8) (by decide), i64_of (x := 3) (by decide), i64_of (x := 1) (by decide), (by decide : (0 : Nat) < 2 ^ 128)⟩
  have r44 : RowH 6 PrimV B w.heap.size w v44 [(⟨5, (2 + (q : Int)), 0, 0, 0⟩ : PrimD), (⟨2, 6, 1, 0, r⟩ : PrimD)] := by
    refine hp.s44.row (P := PrimV) (sz := 6) [([.int .i64 5, .int .i64 (2 + (q : Int)), .int .i64 0, .int .i64 0, .int .u64 0, .int .u64 0], (⟨5, (2 + (q : Int)), 0, 0, 0⟩ : PrimD)), ([.int .i64 2, .int .i64 6, .int .i64 1, .int .i64 0, .int .u64 0, .int .u64 r], (⟨2, 6, 1, 0, r⟩ : PrimD))] (fun q hq => ?_) rfl (by decide) rfl (fun q hq w2 B2 hs hB2 => ?_)
    · simp only [List.mem_cons, List.not_mem_nil, or_false] at hq
      rcases hq with rfl | rfl <;> rfl
    · simp only [List.mem_cons, List.not_mem_nil, or_false] at hq
      rcases hq with rfl | rfl
      · exact ⟨by simp only [hi_zero, lo_zero], i64_of (x := 5) (by decide), i64_of (x := 2 + (q : Int)) (by omega), i64_of (x := 0) (by decide), i64_of (x := 0) (by decide), (by decide : (0 : Nat) < 2 ^ 128)⟩
      · exact ⟨by simp only [hh, hl], i64_of (x := 2) (by decide), i64_of (x := 6) (by decide), i64_of (x := 1) (by decide), i64_of (x := 0) (by decide), (by omega : r < 2 ^ 128)⟩
  refine ⟨q, r, t3, t5, hq, hr, ⟨l3, l5⟩, ?_⟩
  refine rowH_lit (P := ActionV) (sz := 5) [([.int .i64 1, .string ⟨#[110, 111, 112]⟩, .slice none 0 0, .slice none 0 0, .string ⟨#[]⟩], (⟨1, [110, 111, 112], [], [], []⟩ : ActionD)), ([.int .i64 2, .string ⟨#[100, 114, 111, 112]⟩, .slice none 0 0, v8, .string ⟨#[]⟩], (⟨2, [100, 114, 111, 112], [], [(⟨6, 0, 0, 0, 0⟩ : PrimD)], []⟩ : ActionD)), ([.int .i64 3, .string ⟨#[102, 111, 114, 119, 97, 114, 100]⟩, v11, v14, .string (strL t3)], (⟨3, [102, 111, 114, 119, 97, 114, 100], [(⟨[112, 111, 114, 116], 16⟩ : ParamD)], [(⟨7, 0, 3, 0, 0⟩ : PrimD)], t3⟩ : ActionD)), ([.int .i64 4, .string ⟨#[116, 97, 103]⟩, v17, v22, .string ⟨#[]⟩], (⟨4, [116, 97, 103], [(⟨[120], 4⟩ : ParamD)], [(⟨1, 5, 3, 0, 0⟩ : PrimD), (⟨2, 3, 2, 5, 0⟩ : PrimD)], []⟩ : ActionD)), ([.int .i64 5, .string ⟨#[119, 114, 97, 112]⟩, v26, v32, .string (strL t5)], (⟨5, [119, 114, 97, 112], [(⟨[120], 4⟩ : ParamD), (⟨[121], 12⟩ : ParamD)], [(⟨4, 3, 0, 0, 0⟩ : PrimD), (⟨1, 9, 3, 0, 0⟩ : PrimD), (⟨3, 8, 3, 1, 0⟩ : PrimD)], t5⟩ : ActionD)), ([.int .i64 6, .string ⟨#[115, 116, 114, 105, 112]⟩, .slice none 0 0, v44, .string ⟨#[]⟩], (⟨6, [115, 116, 114, 105, 112], [], [(⟨5, (2 + (q : Int)), 0, 0, 0⟩ : PrimD), (⟨2, 6, 1, 0, r⟩ : PrimD)], []⟩ : ActionD))] (fun q hq => ?_) hBL hb.lt rfl (by decide) (by decide) hb.c (fun q hq w2 B2 hs hB2 => ?_)
  · simp only [List.mem_cons, List.not_mem_nil, or_false] at hq
    rcases hq with rfl | rfl | rfl | rfl | rfl | rfl <;> rfl
  · simp only [List.mem_cons, List.not_mem_nil, or_false] at hq
    rcases hq with rfl | rfl | rfl | rfl | rfl | rfl
    · exact ⟨_, _, rfl, i64_of (x := 1) (by decide), txt_of (l := [110, 111, 112]) (by decide) (by decide), row_nil _ _ _ _, row_nil _ _ _ _, txt_of (l := []) (by decide) (by decide)⟩
    · exact ⟨_, _, rfl, i64_of (x := 2) (by decide), txt_of (l := [100, 114, 111, 112]) (by decide) (by decide), row_nil _ _ _ _, r8 w2 B2 hs hB2, txt_of (l := []) (by decide) (by decide)⟩
    · exact ⟨_, _, rfl, i64_of (x := 3) (by decide), txt_of (l := [102, 111, 114, 119, 97, 114, 100]) (by decide) (by decide), r11 w2 B2 hs hB2, r14 w2 B2 hs hB2, k3⟩
    · exact ⟨_, _, rfl, i64_of (x := 4) (by decide), txt_of (l := [116, 97, 103]) (by decide) (by decide), r17 w2 B2 hs hB2, r22 w2 B2 hs hB2, txt_of (l := []) (by decide) (by decide)⟩
    · exact ⟨_, _, rfl, i64_of (x := 5) (by decide), txt_of (l := [119, 114, 97, 112]) (by decide) (by decide), r26 w2 B2 hs hB2, r32 w2 B2 hs hB2, k5⟩
    · exact ⟨_, _, rfl, i64_of (x := 6) (by decide), txt_of (l := [115, 116, 114, 105, 112]) (by decide) (by decide), row_nil _ _ _ _, r44 w2 B2 hs hB2, txt_of (l := []) (by decide) (by decide)⟩
end Go.Proofs.YtldgjahpmlafgaaGreat
