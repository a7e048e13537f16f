/-
  The document's example; a plan that has nothing to do; a plan that makes all.
-/
import Derived.Test.YtfoelahabalbpaaGreatDoorJ25
import Derived.Test.YtfoelahabalbpaaGreatDoorJ29
import Derived.Test.YtfoelahabalbpaaGreatDoorStepsP
import Derived.Test.YtfoelahabalbpaaGreatDoorTam4
namespace Go.Proofs.YtfoelahabalbpaaGreatDoor
open Go.RowKit

theorem ex_ids : ¬ exNet.id = exVm.id := fun h => absurd (congrArg IDd.kind h) (by decide)
theorem ex_tam : TamI [exNet.id, exVm.id] [exNet, exVm] := by
  refine ⟨?_, fun x hx => ?_, fun a => ?_, ?_, fun x hx k hk a ha => ?_⟩
  · refine List.pairwise_cons.2 ⟨fun z hz => ?_, List.pairwise_cons.2 ⟨fun z hz => (by cases hz), List.Pairwise.nil⟩⟩
    rcases List.mem_singleton.1 hz with rfl
    decide
  · rcases List.mem_cons.1 hx with rfl | hx
    · decide
    · rcases List.mem_singleton.1 hx with rfl
      decide
  · constructor
    · intro h
      rcases List.mem_cons.1 h with rfl | h
      · exact ⟨exNet, List.mem_cons_self, rfl⟩
      · rcases List.mem_singleton.1 h with rfl
        exact ⟨exVm, List.mem_cons_of_mem _ List.mem_cons_self, rfl⟩
    · rintro ⟨x, hx, rfl⟩
      rcases List.mem_cons.1 hx with rfl | hx
      · exact List.mem_cons_self
      · rcases List.mem_singleton.1 hx with rfl
        exact List.mem_cons_of_mem _ List.mem_cons_self
  · exact List.nodup_cons.2 ⟨fun h => ex_ids (List.mem_singleton.1 h), List.nodup_cons.2 ⟨fun h => (by cases h), List.nodup_nil⟩⟩
  · rcases List.mem_cons.1 hx with rfl | hx
    · exact absurd ha (by simp [exNet])
    · rcases List.mem_singleton.1 hx with rfl
      have ha' : a = exNet.id := by simpa [exVm, exNet] using ha
      subst ha'
      cases k with
      | zero => simp at hk; exact absurd hk ex_ids
      | succ k => simp
theorem ex_fine : FineP [exNet, exVm] := ex_tam.fine (by decide)
theorem nil_fine : FineP [] := TamI.nil.fine (by decide)
theorem without_few (l : List Resd) (a : IDd) : (withoutS l a).length ≤ l.length := List.length_filter_le _ _
theorem play_len : ∀ (ss : List StepD) (l l' : List Resd), playS l ss = some l' → l'.length ≤ l.length + ss.length
  | [], l, l', h => by simp [playS] at h; rw [h]; simp
  | s :: ss, l, l', h => by
    simp only [playS] at h
    cases hs : stepS l s with
    | none => rw [hs] at h; cases h
    | some m =>
      rw [hs] at h
      have h1 := play_len ss m l' h
      have h2 : m.length ≤ l.length + 1 := by
        unfold stepS at hs
        split at hs
        · split at hs
          · cases hs; have := without_few l s.x.id; omega
          · cases hs
        · split at hs
          · cases hs; exact putGo_len s.x false l
          · cases hs
      rw [List.length_cons]; omega
theorem steps_mem {old want : List Resd} (ho : FineP old) (hw : FineP want) {s : StepD} (hs : s ∈ stepsS old want) : s ∈ makesL old want ∨ s ∈ delsL old want := by
  unfold stepsS at hs
  rcases List.mem_append.1 hs with h | h
  · exact .inl ((ord_sub _ _ (makes_ok hw).nod).1 s h)
  · exact .inr ((ord_sub _ _ (dels_ok ho).nod).1 s h)
theorem steps_none {want : List Resd} (hw : FineP want) : stepsS want want = [] := by
  refine List.eq_nil_iff_forall_not_mem.2 fun s hs => ?_
  have hx : s.x ∈ want := by
    rcases steps_mem hw hw hs with h | h
    · obtain ⟨r, hr, e⟩ := List.mem_filterMap.1 h
      unfold makeOf at e
      split at e
      · cases e; exact hr
      · split at e
        · cases e
        · cases e; exact hr
    · obtain ⟨r, hr, rfl⟩ := List.mem_map.1 h
      exact (List.mem_filter.1 hr).1
  exact plan_right hw hw hx hx (mem_ids hs)
theorem steps_all {want : List Resd} (hw : FineP want) : (stepsS [] want).length = want.length ∧ ∀ s ∈ stepsS [] want, s.op = 1 := by
  constructor
  · have h1 := play_len _ _ _ (play_plan nil_fine hw)
    have h2 : (stepsS [] want).length ≤ want.length := by
      unfold stepsS
      rw [List.length_append]
      have a1 := ordF_len (mayMake want) (makesL [] want).length (makesL [] want)
      have a2 := ordF_len mayDel (delsL [] want).length (delsL [] want)
      have a3 : (makesL [] want).length ≤ want.length := List.length_filterMap_le _ _
      have a4 : (delsL [] want).length = 0 := by simp [delsL]
      omega
    simp at h1
    omega
  · intro s hs
    rcases steps_mem nil_fine hw hs with h | h
    · obtain ⟨r, hr, e⟩ := List.mem_filterMap.1 h
      simp [makeOf] at e
      rw [← e]
    · simp [delsL] at h
end Go.Proofs.YtfoelahabalbpaaGreatDoor
