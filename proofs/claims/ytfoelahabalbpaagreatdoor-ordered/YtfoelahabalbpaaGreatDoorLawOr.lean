/-
  The law Ordered: it answers true.
-/
import Derived.Test.YtfoelahabalbpaaGreatDoorJ25
import Derived.Test.YtfoelahabalbpaaGreatDoorJ29
import Derived.Test.YtfoelahabalbpaaGreatDoorStepsP
import Derived.Test.YtfoelahabalbpaaGreatDoorTam4
import Derived.Test.YtfoelahabalbpaaGreatDoorTam8
import Derived.Test.YtfoelahabalbpaaGreatDoorJ26
import Derived.Test.YtfoelahabalbpaaGreatDoorJ8
import Derived.Test.YtfoelahabalbpaaGreatDoorLawLn
namespace Go.Proofs.YtfoelahabalbpaaGreatDoor
open Go.RowKit

theorem ex_ids : ¬ exNet.id = exVm.id := fun h => absurd (congrArg IDd.kind h) (by decide)
theorem ex_tam : TamI [exNet.id, exVm.id] [exNet, exVm] := by
  refine ⟨?_, fun x hx => ?_, fun a => ?_, ?_, fun x hx k hk a ha => ?_⟩
  · refine List.pairwise_cons.2 ⟨fun z hz => ?_, List.pairwise_cons.2 ⟨fun z hz => (by cases hz), List.Pairwise.nil⟩⟩
    rcases List.mem_singleton.1 hz with rfl
    decide
  · rcases List.mem_cons.1 hx with rfl | hx
    · decide
    · rcases List.mem_singleton.1 hx with rfl
      decide
  · constructor
    · intro h
      rcases List.mem_cons.1 h with rfl | h
      · exact ⟨exNet, List.mem_cons_self, rfl⟩
      · rcases List.mem_singleton.1 h with rfl
        exact ⟨exVm, List.mem_cons_of_mem _ List.mem_cons_self, rfl⟩
    · rintro ⟨x, hx, rfl⟩
      rcases List.mem_cons.1 hx with rfl | hx
      · exact List.mem_cons_self
      · rcases List.mem_singleton.1 hx with rfl
        exact List.mem_cons_of_mem _ List.mem_cons_self
  · exact List.nodup_cons.2 ⟨fun h => ex_ids (List.mem_singleton.1 h), List.nodup_cons.2 ⟨fun h => (by cases h), List.nodup_nil⟩⟩
  · rcases List.mem_cons.1 hx with rfl | hx
    · exact absurd ha (by simp [exNet])
    · rcases List.mem_singleton.1 hx with rfl
      have ha' : a = exNet.id := by simpa [exVm, exNet] using ha
      subst ha'
      cases k with
      | zero => simp at hk; exact absurd hk ex_ids
      | succ k => simp
theorem ex_fine : FineP [exNet, exVm] := ex_tam.fine (by decide)
theorem nil_fine : FineP [] := TamI.nil.fine (by decide)
theorem without_few (l : List Resd) (a : IDd) : (withoutS l a).length ≤ l.length := List.length_filter_le _ _
theorem play_len : ∀ (ss : List StepD) (l l' : List Resd), playS l ss = some l' → l'.length ≤ l.length + ss.length
  | [], l, l', h => by simp [playS] at h; rw [h]; simp
  | s :: ss, l, l', h => by
    simp only [playS] at h
    cases hs : stepS l s with
    | none => rw [hs] at h; cases h
    | some m =>
      rw [hs] at h
      have h1 := play_len ss m l' h
      have h2 : m.length ≤ l.length + 1 := by
        unfold stepS at hs
        split at hs
        · split at hs
          · cases hs; have := without_few l s.x.id; omega
          · cases hs
        · split at hs
          · cases hs; exact putGo_len s.x false l
          · cases hs
      rw [List.length_cons]; omega
theorem steps_mem {old want : List Resd} (ho : FineP old) (hw : FineP want) {s : StepD} (hs : s ∈ stepsS old want) : s ∈ makesL old want ∨ s ∈ delsL old want := by
  unfold stepsS at hs
  rcases List.mem_append.1 hs with h | h
  · exact .inl ((ord_sub _ _ (makes_ok hw).nod).1 s h)
  · exact .inr ((ord_sub _ _ (dels_ok ho).nod).1 s h)
theorem steps_none {want : List Resd} (hw : FineP want) : stepsS want want = [] := by
  refine List.eq_nil_iff_forall_not_mem.2 fun s hs => ?_
  have hx : s.x ∈ want := by
    rcases steps_mem hw hw hs with h | h
    · obtain ⟨r, hr, e⟩ := List.mem_filterMap.1 h
      unfold makeOf at e
      split at e
      · cases e; exact hr
      · split at e
        · cases e
        · cases e; exact hr
    · obtain ⟨r, hr, rfl⟩ := List.mem_map.1 h
      exact (List.mem_filter.1 hr).1
  exact plan_right hw hw hx hx (mem_ids hs)
theorem steps_all {want : List Resd} (hw : FineP want) : (stepsS [] want).length = want.length ∧ ∀ s ∈ stepsS [] want, s.op = 1 := by
  constructor
  · have h1 := play_len _ _ _ (play_plan nil_fine hw)
    have h2 : (stepsS [] want).length ≤ want.length := by
      unfold stepsS
      rw [List.length_append]
      have a1 := ordF_len (mayMake want) (makesL [] want).length (makesL [] want)
      have a2 := ordF_len mayDel (delsL [] want).length (delsL [] want)
      have a3 : (makesL [] want).length ≤ want.length := List.length_filterMap_le _ _
      have a4 : (delsL [] want).length = 0 := by simp [delsL]
      omega
    simp at h1
    omega
  · intro s hs
    rcases steps_mem nil_fine hw hs with h | h
    · obtain ⟨r, hr, e⟩ := List.mem_filterMap.1 h
      simp [makeOf] at e
      rw [← e]
    · simp [delsL] at h


attribute [local go_sem] Go.World.cell?_alloc_some
theorem cellsV_get {B : Nat} {w : World} {pl : Option Addr} {n cl : Nat} {ss : List StepC} (h : w.ownsRow B 38 5 (.slice pl n cl) ss.length (cellsV ss)) {k : Nat} {s : StepC} (hs' : ss[k]? = some s) : ∃ g, pl = some ⟨g, 0, none⟩ ∧ w.cell? ⟨g, k * 5, none⟩ = some (.int .i64 s.op) ∧ w.cell? ⟨g, k * 5 + 1, none⟩ = some (.string s.r.x.id.kind) ∧ w.cell? ⟨g, k * 5 + 2, none⟩ = some (.string s.r.x.id.name) ∧ w.cell? ⟨g, k * 5 + 3, none⟩ = some (.slice s.r.a2 s.r.n2 s.r.p2) ∧ w.cell? ⟨g, k * 5 + 4, none⟩ = some (.slice s.r.a3 s.r.n3 s.r.p3) := by
  have hlt : k < ss.length := (List.getElem?_eq_some_iff.1 hs').1
  rcases h.2 with ⟨hv, h0⟩ | ⟨g, cap', cur, hv, _, hg, hc, hm, hs, ht⟩
  · omega
  · injection hv with e1 e2 e3
    have key : ∀ r, r < 5 → w.cell? ⟨g, k * 5 + r, none⟩ = (cV s)[r]? := fun r hr => by
      have h1 : (cellsV ss)[k * 5 + r]? = (cV s)[r]? := flat_get (show ∀ s : StepC, (cV s).length = 5 from fun _ => rfl) hs' hr
      rw [← h1, ← ht, List.getElem?_take, if_pos (by omega)]
      simp [World.cell?, hg]
    exact ⟨g, e1, key 0 (by omega), key 1 (by omega), key 2 (by omega), key 3 (by omega), key 4 (by omega)⟩
theorem step_len {l l' : List Resd} {s : StepD} (h : stepS l s = some l') : l'.length ≤ l.length + 1 := by
  have := play_len [s] l l' (by simp only [playS, h])
  simpa using this
theorem play_cons {l : List Resd} {s : StepD} {ss : List StepD} {m : List Resd} (h : playS l (s :: ss) = some m) : ∃ l', stepS l s = some l' ∧ playS l' ss = some m := by
  simp only [playS] at h
  cases hs : stepS l s with
  | none => rw [hs] at h; cases h
  | some l' => rw [hs] at h; exact ⟨l', rfl, h⟩
theorem StpsAt.inW {B : Nat} {w : World} {v : Value} {ss : List StepC} (h : StpsAt B w v ss) : ∀ s ∈ ss, s.r.In w := fun s hs => (h.each s hs).1.resV (h.each s hs).2
theorem steps_few {l m : List Resd} (hl : FineP l) (hm : FineP m) : (stepsS l m).length ≤ 24 := by
  unfold stepsS
  rw [List.length_append]
  have a1 := ordF_len (mayMake m) (makesL l m).length (makesL l m)
  have a2 := ordF_len mayDel (delsL l m).length (delsL l m)
  have a3 : (makesL l m).length ≤ m.length := List.length_filterMap_le _ _
  have a4 : (delsL l m).length ≤ l.length := by unfold delsL; rw [List.length_map]; exact List.length_filter_le _ _
  have a5 : l.length ≤ 12 := by have := hl.1; simp only [mayAllB, Bool.and_eq_true, decide_eq_true_eq] at this; exact this.1.1
  have a6 : m.length ≤ 12 := by have := hm.1; simp only [mayAllB, Bool.and_eq_true, decide_eq_true_eq] at this; exact this.1.1
  omega
theorem own_far {w : World} {B B' : Nat} {T T' : TypeId} {sz sz' n n' : Nat} {v v' : Value} {xs xs' : List Value} (h : w.ownsRow B T sz v n xs) (h' : w.ownsRow B' T' sz' v' n' xs') (ht : T ≠ T') : ∀ g, v.ownBlock = some g → ¬ some g = v'.ownBlock := by
  intro g hg e
  rcases h.2 with ⟨rfl, _⟩ | ⟨g', cap, cur, rfl, _, hg', _⟩
  · cases hg
  · injection hg with hg
    subst hg
    exact ownsRow_ne h' hg' ht e
theorem nilV (w : World) : RessV w (.slice none 0 0) [] := ⟨⟨none, 0, rfl, Nat.le_refl _, by decide, .inl rfl⟩, by decide⟩

set_option maxRecDepth 100000 in
set_option maxHeartbeats 6400000 in
theorem orderedLaw (u v : Value) (rl rm : List Int) (w : World) (hu : IntsV w u rl) (hv : IntsV w v rm) (ht : TabP w) :
    Calls Tryz.prog 3 #[u, v] w fun e w' => e = .returned (.bool true) ∧ Ext w w' := by
  obtain ⟨i0, hi0, hz0, hz1, hz2⟩ := info_of infoID
  obtain ⟨upa, ucap, rfl, -⟩ := hu.shape
  obtain ⟨vpa, vcap, rfl, -⟩ := hv.shape
  replace hu := hide hu; replace hv := hide hv; replace ht := hide ht; replace hi0 := hide hi0
  go_enter Tryz.func3, Tryz.ntmps3
  go_wp2_with fail
  refine (readsP w ht.out).mono ?_
  rintro e1 w1 ⟨rfl, X1⟩
  replace X1 := hide X1
  go_wp2_with fail
  refine (tamedL _ rl w1 (hu.out.ext X1.out)).mono ?_
  rintro e2 w2 ⟨qa, pa, ca, rfl, ra, ia, fa, na, X2⟩
  replace ra := hide ra.out; replace ia := hide ia.out; replace fa := hide fa.out; replace X2 := hide X2.out
  go_wp2_with fail
  refine (tamedL _ rm w2 (hv.out.ext (X1.out.trans X2.out))).mono ?_
  rintro e3 w3 ⟨qb, pb, cb, rfl, rb, ib, fb, nb, X3⟩
  replace rb := hide rb.out; replace ib := hide ib.out; replace fb := hide fb.out; replace X3 := hide X3.out
  have va3 := hide ((ressV_own ra.out (by omega) ia.out).ext X3.out)
  have vb3 := hide (ressV_own rb.out (by omega) ib.out)
  go_wp2_with fail
  refine (stepsYes _ _ _ _ w3 va3.out vb3.out fa.out fb.out).mono ?_
  rintro e4 w4 ⟨p4, c4, ss, rfl, h4, t4, X4⟩
  replace h4 := hide h4.out; replace t4 := hide t4.out; replace X4 := hide X4.out
  go_wp2_with fail
  refine (stepsYes _ _ _ _ w4 (vb3.out.ext X4.out) (vb3.out.ext X4.out) fb.out fb.out).mono ?_
  rintro e5 w5 ⟨p5, c5, s5, rfl, h5, t5, X5⟩
  obtain rfl : s5 = [] := by
    have := h5.out
    rw [steps_none fb.out] at this
    exact List.map_eq_nil_iff.1 this
  replace h5 := hide h5.out; replace t5 := hide t5.out; replace X5 := hide X5.out
  go_wp2_with fail
  refine (netP _).mono ?_
  rintro e6 w6 ⟨rfl, X6⟩
  replace X6 := hide X6
  go_wp2_with fail
  refine (vmP _).mono ?_
  rintro e7 w7 ⟨q2, q3, rfl, hv7, X7⟩
  replace X7 := hide X7.out
  go_wp2_with fail
  have H8 := heap_alloc_new w7 (.cells #[.string ⟨#[110, 101, 116]⟩, .string ⟨#[98]⟩, .slice none 0 0, .slice none 0 0, .string ⟨#[118, 109]⟩, .string ⟨#[97]⟩, .slice (some ⟨q2, 0, none⟩) 2 2, .slice (some ⟨q3, 0, none⟩) 1 1] 35)
  have E8 := (Ext.refl w7).alloc (.cells #[.string ⟨#[110, 101, 116]⟩, .string ⟨#[98]⟩, .slice none 0 0, .slice none 0 0, .string ⟨#[118, 109]⟩, .string ⟨#[97]⟩, .slice (some ⟨q2, 0, none⟩) 2 2, .slice (some ⟨q3, 0, none⟩) 1 1] 35)
  have v8 := hide (ressV_made H8 (l := [exNet, exVm]) (n := 2) rfl (by decide) (fun i x hx => by
    have hi := (List.getElem?_eq_some_iff.1 hx).1
    have : i = 0 ∨ i = 1 := by simp at hi; omega
    rcases this with rfl | rfl
    · simp at hx; subst hx
      exact ⟨rfl, rfl, .slice none 0 0, .slice none 0 0, rfl, rfl, netV _⟩
    · simp at hx; subst hx
      exact ⟨rfl, rfl, .slice (some ⟨q2, 0, none⟩) 2 2, .slice (some ⟨q3, 0, none⟩) 1 1, rfl, rfl, hv7.out.ext E8⟩))
  replace H8 := hide H8; replace E8 := hide E8; replace hv7 := hide hv7
  refine (stepsYes _ _ _ _ _ (nilV _) v8.out nil_fine ex_fine).mono ?_
  rintro e9 w9 ⟨p9, c9, s9, rfl, h9, t9, X9⟩
  obtain ⟨sx, sy, rfl, hsy⟩ : ∃ sx sy, s9 = [sx, sy] ∧ sy.op = 1 := by
    have h := steps_all ex_fine
    rw [← h9.out] at h
    match s9, h with
    | [], h => simp at h
    | [_], h => simp at h
    | [sx, sy], h => exact ⟨sx, sy, rfl, h.2 sy.d (by simp)⟩
    | _ :: _ :: _ :: _, h => simp at h
  obtain ⟨g9, rfl, y9, -⟩ := cellsV_get t9.out.row (k := 1) (s := sy) rfl
  rw [hsy] at y9
  have X39 := hide ((((((X4.out.trans X5.out).trans X6.out).trans X7.out).trans E8.out).trans X9.out))
  have X09 := hide (((X1.out.trans X2.out).trans X3.out).trans X39.out)
  replace h9 := hide h9.out; replace t9 := hide t9.out; replace X9 := hide X9.out; replace hsy := hide hsy
  go_wp2_with fail
  have hD : Hid (ss.map StepC.d = stepsS (qa.map ResC.x) (qb.map ResC.x)) := h4
  have n24 : ss.length ≤ 24 := by
    have := steps_few fa.out fb.out
    rw [← hD.out, List.length_map] at this
    exact this
  have X49 := hide ((((X5.out.trans X6.out).trans X7.out).trans E8.out).trans X9.out)
  have T9 := hide (own_ext t4.out.row X49.out)
  have hin9 : Hid (∀ s ∈ ss, s.r.In w9) := fun s hs => (t4.out.inW s hs).ext X49.out
  have hok9 : Hid (∀ s ∈ ss, okI s.r.x.id) := fun s hs => (hin9.out s hs).id
  have ra9 := hide (own_ext ra.out (X3.out.trans X39.out))
  have rb9 := hide (own_ext rb.out X39.out)
  have ia9 : Hid (∀ q ∈ qa, q.In w9) := fun q hq => (ia.out q hq).ext (X3.out.trans X39.out)
  have ib9 : Hid (∀ q ∈ qb, q.In w9) := fun q hq => (ib.out q hq).ext X39.out
  obtain ⟨W, hW⟩ : ∃ W, W = qb.map ResC.x := ⟨_, rfl⟩
  have pl9 : Hid (playS (qa.map ResC.x) (ss.map StepC.d) = some W) := by show _ = _; rw [hD.out, hW]; exact play_plan fa.out fb.out
  have on9 : Hid ((ss.map (fun s => s.r.x.id)).Nodup) := by
    have := plan_once fa.out fb.out
    rw [← hD.out] at this
    show List.Nodup _
    simpa [idsT, List.map_map, Function.comp_def, StepC.d] using this
  have rt9 : Hid (∀ x, x ∈ qa.map ResC.x → x ∈ qb.map ResC.x → x.id ∉ ss.map (fun s => s.r.x.id)) := by
    intro x h1 h2 h3
    refine plan_right fa.out fb.out h1 h2 ?_
    rw [← hD.out]
    simpa [idsT, List.map_map, Function.comp_def, StepC.d] using h3
  replace hW := hide hW
  clear y9 va3 vb3 v8 H8 t5 h5 t9 h9 hsy hv7
  go_loopw [5, 14, 15, 16] (fun okv nv sv kv wr => ∃ (qs : List ResC) (pn : Option Addr) (cn : Nat) (ps : Option Addr) (cs k : Nat), okv = .bool true ∧ nv = .slice pn qs.length cn ∧ sv = .slice ps k cs ∧ kv = .int .i64 k ∧ k ≤ ss.length ∧ qs.length ≤ 12 + k ∧ Hid (playS (qs.map ResC.x) ((ss.drop k).map StepC.d) = some W) ∧ Hid (∀ q ∈ qs, q.In w9) ∧ Hid (wr.ownsRow 0 35 4 (.slice pn qs.length cn) qs.length (cellsQ qs)) ∧ Hid (wr.ownsRow w9.heap.size 31 2 (.slice ps k cs) k (cellsI ((ss.take k).map (fun s => s.r.x.id)))) ∧ Hid (Ext w9 wr)) (fun _ _ _ kv _ => ss.length - (intOf kv).toNat)
  case atStart => exact ⟨qa, pa, ca, none, 0, 0, rfl, rfl, rfl, rfl, Nat.zero_le _, by omega, by simpa using pl9, ia9, ra9, World.ownsRow_nil _ _ _ _, Ext.refl _⟩
  case round =>
    obtain ⟨qs, pn, cn, ps, cs, k, rfl, rfl, rfl, rfl, hk, hqk, hpl, hin, hrow, hsn, hX⟩ := hrel
    have hlen : ((ss.take k).map (fun s => s.r.x.id)).length = k := by rw [List.length_map, List.length_take]; omega
    have hIs : Hid (IDsV wr (.slice ps k cs) ((ss.take k).map (fun s => s.r.x.id))) := by
      have h := hsn.out
      refine idsV_own (B := w9.heap.size) ?_ (by rw [hlen]; omega) (fun a ha => ?_)
      · rw [hlen]; exact h
      · obtain ⟨s, hs, rfl⟩ := List.mem_map.1 ha
        exact hok9.out s (List.mem_of_mem_take hs)
    replace hlen := hide hlen
    by_cases hlt : k < ss.length
    · obtain ⟨s, hs⟩ := some_of_lt hlt
      have hsm := hide (List.mem_of_getElem? hs)
      obtain ⟨g, rfl, c0, c1, c2, c3, c4⟩ := cellsV_get (own_ext T9.out hX.out) hs
      have PP := hide (And.intro c0 (And.intro c1 (And.intro c2 (And.intro c3 c4))))
      have k2 : (k : Int) < (ss.length : Int) := by omega
      have k4 : (0 : Int) ≤ (k : Int) := by omega
      have hdrop : ss.drop k = s :: ss.drop (k + 1) := by
        obtain ⟨h1, h2⟩ := List.getElem?_eq_some_iff.1 hs
        rw [← h2]; exact List.drop_eq_getElem_cons h1
      rw [hdrop, List.map_cons] at hpl
      obtain ⟨l', hst, hpl'⟩ := play_cons hpl.out
      have hnot : Hid (¬ s.r.x.id ∈ (ss.take k).map (fun s => s.r.x.id)) := by
        intro hm
        have hn := on9.out
        have e : ss = ss.take k ++ s :: ss.drop (k + 1) := by rw [← hdrop, List.take_append_drop]
        rw [e, List.map_append, List.map_cons] at hn
        have := (List.nodup_append.1 hn).2.2 _ hm _ List.mem_cons_self
        exact this rfl
      replace hs := hide hs; replace hdrop := hide hdrop; replace hst := hide hst; replace hpl' := hide hpl'
      go_wp2_with fail
      refine (holdsL _ _ s.r.x.id wr hIs.out).mono ?_
      rintro e10 w10 ⟨b10, rfl, hb10, X10⟩
      obtain rfl : b10 = false := by
        cases b10 with
        | true => exact absurd (hb10.out.1 rfl) hnot.out
        | false => rfl
      replace hb10 := hide hb10; replace X10 := hide X10.out
      have P10 := hide PP.out
      replace c0 := X10.out.cells c0; replace c1 := X10.out.cells c1; replace c2 := X10.out.cells c2; replace c3 := X10.out.cells c3; replace c4 := X10.out.cells c4
      have sn10 := hide (own_ext hsn.out X10.out)
      have hs10 : Hid (w9.heap.size ≤ w10.heap.size) := Ext.size (hX.out.trans X10.out)
      go_wp2_with (at_builtin; go_loud (refine wpList_append_lies _ rfl (.tmp 92) (.tmp 99) 33 rfl w9.heap.size 31 i0 (.agg #[.string ⟨#[]⟩, .string ⟨#[]⟩]) 2 32 Tryz.underlying33 hi0.out hz0 hz1 hz2 rfl (by omega) _ k (cellsI ((ss.take k).map (fun s => s.r.x.id))) rfl (sn10.out.alloc _) ⟨w10.heap.size, 0, none⟩ 1 1 (cI s.r.x.id) rfl rfl ?_ (cI_one _) (by omega) (by unfold maxLen; omega) (by omega) (by have := hs10.out; simp; omega) (w10.heap.size + 1) (by simp) ?_; (intro j u hu; rw [add_eq]; (match j, hu with | 0, hu => (simp [cI] at hu; subst hu; simp [go_sem]) | 1, hu => (simp [cI] at hu; subst hu; simp [go_sem]) | _ + 2, hu => (simp [cI] at hu))); intro g11 c11 w11 hown11 hgrow11 hat11 hlt11; have K11 := grown_kept hgrow11; have X11 : Ext w9 w11 := (hX.out.trans X10.out).since K11 (fun j e => (own_ge sn10.out e.symm).1); have R11 := own_ext T9.out X11; obtain ⟨gg, hgg, d0, d1, d2, d3, d4⟩ := cellsV_get R11 hs.out; (obtain rfl : gg = g := by injection hgg with h1; injection h1 with h1; exact h1.symm); clear hgg; have N11 := ownsRow_keptR (own_ext hrow.out X10.out) K11 (own_far (own_ext hrow.out X10.out) sn10.out (by decide)); replace R11 := hide R11; replace X11 := hide X11; replace K11 := hide K11; replace N11 := hide N11; replace hown11 := hide hown11; replace hgrow11 := hide hgrow11; replace hat11 := hide hat11; replace hlt11 := hide hlt11))
      have in11 : Hid (∀ q ∈ qs, q.In w11) := fun q hq => (hin.out q hq).ext X11.out
      have hsr := hide (hin9.out s hsm.out)
      refine (steppedL 0 _ qs l' s.op s.r w11 N11.out in11.out (by omega) (hsr.out.ext X11.out) hst.out).mono ?_
      rintro e12 w12 ⟨qs', pn', cn', rfl, hmp, hmm, hro, X12⟩
      have hl' : qs'.length ≤ 12 + (k + 1) := by
        have h1 := step_len hst.out
        rw [← hmp.out, List.length_map, List.length_map] at h1
        omega
      have hpl2 : Hid (playS (qs'.map ResC.x) ((ss.drop (k + 1)).map StepC.d) = some W) := by show _ = _; rw [hmp.out]; exact hpl'.out
      have hin2 : Hid (∀ q ∈ qs', q.In w9) := fun q hq => by
        rcases hmm.out q hq with h | rfl
        · exact hin.out q h
        · exact hsr.out
      have hsn2 : Hid (w12.ownsRow w9.heap.size 31 2 (.slice (some ⟨g11, 0, none⟩) (k + 1) c11) (k + 1) (cellsI ((ss.take (k + 1)).map (fun s => s.r.x.id)))) := by
        show World.ownsRow _ _ _ _ _ _ _
        have e : (ss.take (k + 1)).map (fun s => s.r.x.id) = (ss.take k).map (fun s => s.r.x.id) ++ [s.r.x.id] := by
          obtain ⟨h1, h2⟩ := List.getElem?_eq_some_iff.1 hs.out
          rw [List.take_succ_eq_append_getElem h1, List.map_append, h2]; rfl
        rw [e, show cellsI ((ss.take k).map (fun s => s.r.x.id) ++ [s.r.x.id]) = cellsI ((ss.take k).map (fun s => s.r.x.id)) ++ cI s.r.x.id by simp [cellsI]]
        exact own_ext hown11.out X12.out
      have X92 := hide (X11.out.trans X12.out)
      replace hmp := hide hmp; replace hmm := hide hmm; replace hro := hide hro.out; replace X12 := hide X12
      clear c0 c1 c2 c3 c4 d0 d1 d2 d3 d4
      go_wp2_with fail
      go_roundw
      case rel => exact ⟨qs', pn', cn', some ⟨g11, 0, none⟩, c11, k + 1, rfl, rfl, rfl, by go_num, by omega, hl', hpl2, hin2, hro, hsn2, X92⟩
      case measure => simp [intOf]; omega
    · obtain rfl : k = ss.length := by omega
      have hfin : Hid (qs.map ResC.x = W) := by
        have := hpl.out
        rw [List.drop_length] at this
        show _ = _
        simpa [playS] using this
      have hIs2 : Hid (IDsV wr (.slice ps ss.length cs) (ss.map (fun s => s.r.x.id))) := by
        have := hIs.out
        rw [List.take_length] at this
        exact this
      obtain ⟨wo, rfl⟩ : ∃ wo : World, wo = wr := ⟨_, rfl⟩
      have ra10 := hide (own_ext ra9.out hX.out)
      have rb10 := hide (own_ext rb9.out hX.out)
      clear hIs hpl hsn hlen
      go_wp2_with fail
      go_loopw [18] (fun iv wx => ∃ i : Nat, iv = .int .i64 i ∧ i ≤ qa.length ∧ Hid (Ext wo wx)) (fun iv _ => qa.length - (intOf iv).toNat)
      case atStart => exact ⟨0, rfl, Nat.zero_le _, Ext.refl _⟩
      case round =>
        obtain ⟨i, rfl, hi, hE⟩ := hrel
        obtain ⟨wp, rfl⟩ : ∃ wp : World, wp = wr := ⟨_, rfl⟩
        by_cases hil : i < qa.length
        · have i2 : (i : Int) < (qa.length : Int) := by omega
          have i4 : (0 : Int) ≤ (i : Int) := by omega
          obtain ⟨q, hq⟩ := some_of_lt hil
          obtain ⟨ga, rfl, -⟩ := cellsQ_get ra10.out hq
          go_wp2_with fail
          go_loopw [19] (fun jv wx => ∃ j : Nat, jv = .int .i64 j ∧ j ≤ qb.length ∧ Hid (Ext wo wx)) (fun jv _ => qb.length - (intOf jv).toNat)
          case atStart => exact ⟨0, rfl, Nat.zero_le _, hE⟩
          case round =>
            obtain ⟨j, rfl, hj, hF⟩ := hrel
            by_cases hjl : j < qb.length
            · have j2 : (j : Int) < (qb.length : Int) := by omega
              have j4 : (0 : Int) ≤ (j : Int) := by omega
              obtain ⟨r, hr⟩ := some_of_lt hjl
              obtain ⟨ga', hga, a0, a1, a2, a3⟩ := cellsQ_get (own_ext ra10.out hF.out) hq
              obtain rfl : ga = ga' := by injection hga with h1; injection h1
              obtain ⟨gb, rfl, b0, b1, b2, b3⟩ := cellsQ_get (own_ext rb10.out hF.out) hr
              have PA := hide (And.intro a0 (And.intro a1 (And.intro a2 a3)))
              have PB := hide (And.intro b0 (And.intro b1 (And.intro b2 b3)))
              have hqi := hide ((ia9.out q (List.mem_of_getElem? hq)).ext (hX.out.trans hF.out))
              have hri := hide ((ib9.out r (List.mem_of_getElem? hr)).ext (hX.out.trans hF.out))
              have hqr : Hid (q.x = r.x → q.x.id ∉ ss.map (fun s => s.r.x.id)) := fun e => rt9.out q.x (List.mem_map.2 ⟨q, List.mem_of_getElem? hq, rfl⟩) (List.mem_map.2 ⟨r, List.mem_of_getElem? hr, e.symm⟩)
              have hI3 := hide (hIs2.out.ext hF.out)
              have hq' := hide hq
              clear hga
              replace hr := hide hr
              go_wp2_with fail
              go_region_held3 (fun w' => w'.cell? ⟨ga, i * 4, none⟩ = some (.string q.x.id.kind) ∧ w'.cell? ⟨ga, i * 4 + 1, none⟩ = some (.string q.x.id.name) ∧ w'.cell? ⟨ga, i * 4 + 2, none⟩ = some (.slice q.a2 q.n2 q.p2) ∧ w'.cell? ⟨ga, i * 4 + 3, none⟩ = some (.slice q.a3 q.n3 q.p3) ∧ w'.cell? ⟨gb, j * 4, none⟩ = some (.string r.x.id.kind) ∧ w'.cell? ⟨gb, j * 4 + 1, none⟩ = some (.string r.x.id.name) ∧ w'.cell? ⟨gb, j * 4 + 2, none⟩ = some (.slice r.a2 r.n2 r.p2) ∧ w'.cell? ⟨gb, j * 4 + 3, none⟩ = some (.slice r.a3 r.n3 r.p3)) (go_keep)
                ((go_at_call 11; refine (sameResL _ _ _ _ q.x r.x _ (ResV.ext hqi.out (Ext.refl wr).drew) (ResV.ext hri.out (Ext.refl wr).drew)).mono ?_; rintro e13 w13 ⟨b13, rfl, hb13, he13⟩; go_must (have E13 : Hid (Ext wr w13) := (Ext.refl wr).drew.trans he13.out; have m0 := E13.out.cells PA.out.1; have m1 := E13.out.cells PA.out.2.1; have m2 := E13.out.cells PA.out.2.2.1; have m3 := E13.out.cells PA.out.2.2.2; have m4 := E13.out.cells PB.out.1; have m5 := E13.out.cells PB.out.2.1; have m6 := E13.out.cells PB.out.2.2.1; have m7 := E13.out.cells PB.out.2.2.2; replace he13 := hide he13)))
              clear a0 a1 a2 a3 b0 b1 b2 b3
              go_wp2_with fail
              refine (holdsL _ _ q.x.id w13 (hI3.out.ext E13.out)).mono ?_
              rintro e14 w14 ⟨b14, rfl, hb14, X14⟩
              have X94 := hide ((hF.out.trans E13.out).trans X14.out)
              replace X14 := hide X14
              clear m0 m1 m2 m3 m4 m5 m6 m7
              cases b13 with
              | true =>
                obtain rfl : b14 = false := by
                  cases b14 with
                  | true => exact absurd (hb14.out.1 rfl) (hqr.out (hb13.out.1 rfl))
                  | false => rfl
                go_wp2_with fail
                go_roundw
                case rel => exact ⟨j + 1, by go_num, by omega, X94⟩
                case measure => simp [intOf]; omega
              | false =>
                go_wp2_with fail
                go_roundw
                case rel => exact ⟨j + 1, by go_num, by omega, X94⟩
                case measure => simp [intOf]; omega
            · go_wp2_with fail
              go_roundw
              case rel => exact ⟨i + 1, by go_num, by omega, hF⟩
              case measure => simp [intOf]; omega
        · have hN : Hid (RessV wp (.slice pn qs.length cn) W) := by
            have := ressV_own (own_ext hrow.out hE.out) (by omega) (fun q hq => (hin.out q hq).ext (hX.out.trans hE.out))
            rw [hfin.out] at this
            exact this
          have hWn : Hid (RessV wp (.slice pb qb.length cb) W) := by
            have := ressV_own (own_ext rb10.out hE.out) (by omega) (fun q hq => (ib9.out q hq).ext (hX.out.trans hE.out))
            rw [← hW.out] at this
            exact this
          go_wp2_with fail
          refine (sameRess _ _ W wp hN.out hWn.out).mono ?_
          rintro e15 w15 ⟨rfl, X15⟩
          replace X15 := hide X15
          go_wp2_with fail
          go_ret
          exact ⟨rfl, (((X09.out.trans hX.out).trans hE.out).trans X15.out)⟩
end Go.Proofs.YtfoelahabalbpaaGreatDoor
