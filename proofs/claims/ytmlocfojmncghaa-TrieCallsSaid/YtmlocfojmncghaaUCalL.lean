/- TrieCalls is proved: for every input the law returns true, and every argument reads afterwards as before. No condition. -/
import Derived.Test.YtmlocfojmncghaaUCalW
import Derived.Test.YtmlocfojmncghaaURPut
import Derived.Test.YtmlocfojmncghaaURRem
import Derived.Test.YtmlocfojmncghaaUAll
namespace Go.Proofs.Ytmlocfojmncghaa.trieCalls
set_option maxRecDepth 100000 in
/-- appendAll at the root -/
theorem appC : AppC := by
  intro wb X bits N A c th id hT hsh hb8 W Ar cap hB hO hlen
  have h := ut_app hT hsh hb8 (bits + 1) [] (by simp) W Ar cap [] hB hO (by rw [List.length_nil, Nat.zero_add]; exact hlen)
  rw [List.nil_append] at h
  have e1 : pvU bits [] = 0 := rfl
  rw [e1, show hi 0 = 0 from rfl, show lo 0 = 0 from rfl] at h
  refine Calls.mono h ?_
  rintro e w' ⟨A', cap', rfl, ho, hg⟩
  exact ⟨A', cap', rfl, ho, hB.grown hg.g hB.size (fun k e => (own_le hO k e).1)⟩
theorem putE : PutE := fun _ _ _ _ _ _ _ h hb8 hn v hv n id => re_Put h hb8 hn v hv n id
theorem remE : RemE := fun _ _ _ _ _ _ _ h hn v hv n => re_Remove h hn v hv n
theorem getE : GetE := fun _ _ _ _ _ _ _ h hn v hv n => re_Get h hn v hv n
theorem allE : AllE := all_of_appE appC
open Go.ChangeShapes Go.WideShapes Go.ChangeAt Go.RowKit Go.Joins
set_option maxRecDepth 100000 in
theorem lifted (os : Os) (started : os.Started) (H : Type) (enc : TypeId × Value → H) :
    ReturnsInHanded {} Try.checked os 4 .any (Rows.trieCallsSpec.pre6 enc Try.prog Try.f4 Rows.trieCallsRow.domain false) (Rows.trieCallsSpec.post enc Try.prog Try.f4 false true false false) := by
  refine returnsInHanded_of_change (C := Try.checked) own started (by kernel_rfl) Try.func4
    (ChangeSpec.witness6 (enc := enc) (C := Try.checked) false ⟨#[], #[.int .i64 0, .slice none 0 0], []⟩ 8 (by kernel_rfl) (by kernel_rfl) (by kernel_rfl) (by kernel_rfl)) ?_
  intro W base args ds gs before hval0 hW hcnd _
  have hval : ∀ (j : Nat) t v, Try.f4.params[j]? = some t → args[j]? = some v → Value.okWide Try.prog W .any base t v := hval0
  have hW' := hW
  obtain ⟨p, q, hA0, hV, rfl, hfz, hnd⟩ := hW
  have hA : DataW.TrodAll enc Try.prog W 0 (fun _ => true) true Try.f4.params.toList args.toList ds p := hA0
  rw [Try.params4] at hA hval
  obtain ⟨v0, vs0, d0, ds0, p0, q0, hargs, rfl, rfl, h0, r0⟩ := trodAll_cons hA
  obtain ⟨v1, vs1, d1, ds1, p1, q1, rfl, rfl, rfl, h1, r1⟩ := trodAll_cons r0
  obtain ⟨rfl, rfl, rfl⟩ := trodAll_nil r1
  obtain rfl : args = #[v0, v1] := by cases args; simp_all
  obtain ⟨rfl, rfl⟩ := trodVars_none hV
  have k0 := h0
  have lt0 : ∀ x ∈ p0, x.block < W.heap.size := by obtain ⟨m, hm⟩ := k0; exact DataW.trod_lt m _ _ _ hm
  obtain ⟨x0, rfl, _, _, w0⟩ := open_int Try.underlying3 (hval 0 3 v0 rfl rfl) h0
  have k1 := h1
  have lt1 : ∀ x ∈ p1, x.block < W.heap.size := by obtain ⟨m, hm⟩ := k1; exact DataW.trod_lt m _ _ _ hm
  obtain ⟨a1, len1, cap1, rfl⟩ := okWide_slice Try.underlying52 (hval 1 52 v1 rfl rfl)
  obtain ⟨qs1, hn1, c1, e1, ok1, w1⟩ := open_uops h1
  unfold maxLen at e1
  clear hA0 hval0
  refine (calls_anyU putE remE getE allE W x0 a1 len1 cap1 qs1 hn1 c1 e1 ok1 w1).mono fun e W' ⟨he, bel⟩ => ?_
  subst he
  exact ⟨_, rfl, _, _, _, [], _, [], hW', trodAll_mk1 (shut_bool Try.underlying4 _), (trodAll_cons_mk (Below.trod laidOut (by kernel_rfl) (of_decide_eq_true (by kernel_rfl)) k0 bel lt0) (trodAll_cons_mk (Below.trod laidOut (by kernel_rfl) (of_decide_eq_true (by kernel_rfl)) k1 bel lt1) trodAll_mk0)), rfl, bel.frame _, fun h => by cases h⟩

theorem holds : Rows.TrieCallsSaid :=
  OpenClaim.holds_of_wide 4 Try.f4 rfl rfl rfl rfl rfl rfl rfl ⟨rfl, rfl, rfl, rfl, rfl⟩ rfl rfl rfl rfl rfl (by kernel_rfl) Try.func4 (by kernel_rfl)
    (of_decide_eq_true (by kernel_rfl)) (by unfold Func.isWrapper; rw [if_neg (of_decide_eq_false (by kernel_rfl))]; exact ⟨rfl, rfl⟩)
    (fun os started H enc _ => lifted os started H enc)
#print axioms holds
end Go.Proofs.Ytmlocfojmncghaa.trieCalls
