/-
  What is read may be, on plain lists: entries, resources, what Parse answers.
-/
import Derived.Test.YtfnbbohbicffpaaGreatDoorJ31
namespace Go.Proofs.YtfnbbohbicffpaaGreatDoor
open Go.RowKit

theorem UpG.put {κ ρ : Type} {cmp : κ → κ → Int} {key : ρ → κ} (ho : OrdK cmp) (x : ρ) : ∀ {rs : List ρ}, UpG cmp key rs → ¬ HasK key rs (key x) → UpG cmp key (rs.takeWhile (fun r => decide (cmp (key r) (key x) < 0)) ++ x :: rs.dropWhile (fun r => decide (cmp (key r) (key x) < 0)))
  | [], _, _ => by simp [UpG]
  | r :: rs, hu, hn => by
    obtain ⟨h1, h2⟩ := List.pairwise_cons.1 hu
    have hn' : ¬ HasK key rs (key x) := fun ⟨y, hy, e⟩ => hn ⟨y, List.mem_cons_of_mem _ hy, e⟩
    have hne : cmp (key r) (key x) ≠ 0 := fun e => hn ⟨r, List.mem_cons_self, ho.zero.1 e⟩
    by_cases hp : cmp (key r) (key x) < 0
    · have ih := UpG.put ho x h2 hn'
      simp only [List.takeWhile, List.dropWhile, hp, decide_true, List.cons_append]
      refine List.pairwise_cons.2 ⟨fun y hy => ?_, ih⟩
      rcases List.mem_append.1 hy with hy | hy
      · exact h1 y ((List.takeWhile_sublist _).subset hy)
      · rcases List.mem_cons.1 hy with rfl | hy
        · exact hp
        · exact h1 y ((List.dropWhile_sublist _).subset hy)
    · simp only [List.takeWhile, List.dropWhile, hp, decide_false, List.nil_append]
      have hx : cmp (key x) (key r) < 0 := by rw [ho.flip]; omega
      refine List.pairwise_cons.2 ⟨fun y hy => ?_, hu⟩
      rcases List.mem_cons.1 hy with rfl | hy
      · exact hx
      · exact ho.trans hx (h1 y hy)
structure EntM (n : Nat) (e : EntD) : Prop where
  id : idB e.id = true
  place : e.place ≤ n
  attrs : ∀ r ∈ e.attrs, attrB r.val = true ∧ r.val.name = r.key
  up : UpG cmpS RowA.key e.attrs
  few : e.attrs.length ≤ 6
  after : ∀ a ∈ e.after, idB a = true
  upA : UpG cmpI (fun a : IDd => a) e.after
  fewA : e.after.length ≤ 6
/-- An entry that may be, and its refs among those that were read. -/
def EntR (n : Nat) (e : EntD) (rf : List (IDd × Nat)) : Prop := EntM n e ∧ (∀ r ∈ rf, r.2 ≤ n) ∧ ∀ a ∈ e.after, a ∈ rf.map Prod.fst
/-- What a reading gives. -/
def GivesE (n : Nat) (rf : List (IDd × Nat)) (r : Except Flt (Nat × EntD × List (IDd × Nat))) : Prop := (∀ i' e' rf', r = .ok (i', e', rf') → EntR n e' rf' ∧ ∀ x ∈ rf, x ∈ rf') ∧ ∀ x, r = .error x → x.1 ≠ 0 ∧ x.2 ≤ n
theorem GivesE.err {n : Nat} {rf : List (IDd × Nat)} {x : Flt} (h : x.1 ≠ 0 ∧ x.2 ≤ n) : GivesE n rf (.error x) := ⟨fun _ _ _ h => (by cases h), fun y hy => by cases hy; exact h⟩
theorem GivesE.ok {n : Nat} {rf : List (IDd × Nat)} {i : Nat} {e : EntD} {rf' : List (IDd × Nat)} (h : EntR n e rf') (hs : ∀ x ∈ rf, x ∈ rf') : GivesE n rf (.ok (i, e, rf')) := ⟨fun _ _ _ h' => by cases h'; exact ⟨h, hs⟩, fun y hy => (by cases hy)⟩
theorem GivesE.mono {n : Nat} {rf rf1 : List (IDd × Nat)} {r : Except Flt (Nat × EntD × List (IDd × Nat))} (h : GivesE n rf1 r) (hs : ∀ x ∈ rf, x ∈ rf1) : GivesE n rf r := ⟨fun i e f hr => ⟨(h.1 i e f hr).1, fun x hx => (h.1 i e f hr).2 x (hs x hx)⟩, h.2⟩
theorem listS_id {ts : List Tok} {i : Nat} {e : EntD} {rf : List (IDd × Nat)} {i' : Nat} {e' : EntD} {rf' : List (IDd × Nat)} (h : listS ts i e rf = .ok (i', e', rf')) : e'.id = e.id := by
  unfold listS at h
  split at h
  · cases h
  · split at h
    · cases h
    · rename_i i2 e2 rf2 h2
      have g2 : e2.id = e.id := by
        split at h2
        · cases h2; rfl
        · exact refsS_id _ h2
      split at h
      · cases h
      · cases h; exact g2
theorem lineS_id {ts : List Tok} {i : Nat} {e : EntD} {rf : List (IDd × Nat)} {i' : Nat} {e' : EntD} {rf' : List (IDd × Nat)} (h : lineS ts i e rf = .ok (i', e', rf')) : e'.id = e.id := by
  unfold lineS at h
  split at h
  · cases h
  · split at h
    · cases h
    · split at h
      · cases h
      · split at h
        · exact listS_id (e := { e with hasAfter := true }) h
        · unfold valueS at h
          split at h
          · cases h
          · rename_i h1
            split at h1
            · cases h1
            · cases h1; cases h; rfl
theorem linesS_id {ts : List Tok} : ∀ (f : Nat) {i : Nat} {e : EntD} {rf : List (IDd × Nat)} {i' : Nat} {e' : EntD} {rf' : List (IDd × Nat)}, linesS ts f i e rf = .ok (i', e', rf') → e'.id = e.id
  | 0, i, e, rf, i', e', rf', h => by cases h
  | f + 1, i, e, rf, i', e', rf', h => by
    unfold linesS at h
    split at h
    · cases h; rfl
    · split at h
      · cases h
      · rename_i i1 e1 rf1 h1
        exact (linesS_id f h).trans (lineS_id h1)
theorem take_may {ts : List Tok} {n : Nat} (hM : ∀ t ∈ ts, TokM n t) (i k : Nat) : (∃ t, takeS ts i k = .ok (t, i + 1) ∧ TokM n t ∧ t.kind = k) ∨ (∃ x, takeS ts i k = .error x ∧ x.1 ≠ 0 ∧ x.2 ≤ n) := by
  unfold takeS
  cases h : ts[i]? with
  | none => exact .inr ⟨_, rfl, by simp, Nat.zero_le _⟩
  | some t =>
    have ht := hM t (List.mem_of_getElem? h)
    dsimp only
    by_cases hk : t.kind = k
    · rw [if_pos hk]; exact .inl ⟨t, rfl, ht, hk⟩
    · rw [if_neg hk]; exact .inr ⟨_, rfl, by simp, ht.place⟩
theorem refS_may {ts : List Tok} {n : Nat} (hM : ∀ t ∈ ts, TokM n t) {i : Nat} {e : EntD} {rf : List (IDd × Nat)} (h : EntR n e rf) : GivesE n rf (refS ts i e rf) := by
  unfold refS
  rcases take_may hM i 1 with ⟨k, a1, a2, a3⟩ | ⟨x, a1, a2⟩
  · rw [a1]; dsimp only
    rcases take_may hM (i + 1) 10 with ⟨d, b1, b2, b3⟩ | ⟨x, b1, b2⟩
    · rw [b1]; dsimp only
      rcases take_may hM (i + 1 + 1) 1 with ⟨m, c1, c2, c3⟩ | ⟨x, c1, c2⟩
      · rw [c1]; dsimp only
        by_cases h6 : e.after.length = 6
        · rw [if_pos h6]; exact .err ⟨by simp, a2.place⟩
        · rw [if_neg h6]
          by_cases hm : (⟨k.text, m.text⟩ : IDd) ∈ e.after
          · rw [if_pos hm]; exact .err ⟨by simp, a2.place⟩
          · rw [if_neg hm]
            obtain ⟨hE, hR, hC⟩ := h
            refine .ok ⟨⟨hE.id, hE.place, hE.attrs, hE.up, hE.few, fun a ha => ?_, ?_, by rw [insI_len]; have := hE.fewA; omega⟩, fun r hr => ?_, fun a ha => ?_⟩ (fun x hx => by simp [hx])
            · rcases insI_mem.1 ha with rfl | ha
              · unfold idB; rw [a2.word a3, c2.word c3]; rfl
              · exact hE.after a ha
            · exact UpG.put (key := fun a : IDd => a) ordI _ hE.upA (fun ⟨y, hy, he⟩ => hm (by rw [← he]; exact hy))
            · rcases List.mem_append.1 hr with hr | hr
              · exact hR r hr
              · simp at hr; subst hr; exact a2.place
            · rcases insI_mem.1 ha with rfl | ha
              · simp
              · rw [List.map_append]; exact List.mem_append_left _ (hC a ha)
      · rw [c1]; exact .err c2
    · rw [b1]; exact .err b2
  · rw [a1]; exact .err a2
theorem refsS_may {ts : List Tok} {n : Nat} (hM : ∀ t ∈ ts, TokM n t) : ∀ (f : Nat) {i : Nat} {e : EntD} {rf : List (IDd × Nat)}, EntR n e rf → GivesE n rf (refsS ts f i e rf)
  | 0, i, e, rf, h => .err ⟨by simp, Nat.zero_le _⟩
  | f + 1, i, e, rf, h => by
    unfold refsS
    have h1 := refS_may hM (i := i) h
    cases hr : refS ts i e rf with
    | error x => exact .err (h1.2 x hr)
    | ok r =>
      obtain ⟨i1, e1, rf1⟩ := r
      obtain ⟨h2, h3⟩ := h1.1 i1 e1 rf1 hr
      dsimp only
      split
      · exact (refsS_may hM f h2).mono h3
      · exact .ok h2 h3
theorem listS_may {ts : List Tok} {n : Nat} (hM : ∀ t ∈ ts, TokM n t) {i : Nat} {e : EntD} {rf : List (IDd × Nat)} (h : EntR n e rf) : GivesE n rf (listS ts i e rf) := by
  unfold listS
  rcases take_may hM i 6 with ⟨k, a1, a2, a3⟩ | ⟨x, a1, a2⟩
  · rw [a1]; dsimp only
    have h1 : GivesE n rf (if kindAt ts (i + 1) = 7 then .ok (i + 1, e, rf) else refsS ts ts.length (i + 1) e rf) := by
      split
      · exact .ok h fun _ hx => hx
      · exact refsS_may hM _ h
    cases hr : (if kindAt ts (i + 1) = 7 then .ok (i + 1, e, rf) else refsS ts ts.length (i + 1) e rf : Except Flt (Nat × EntD × List (IDd × Nat))) with
    | error x => exact .err (h1.2 x hr)
    | ok r =>
      obtain ⟨i1, e1, rf1⟩ := r
      obtain ⟨h2, h3⟩ := h1.1 i1 e1 rf1 hr
      dsimp only
      rcases take_may hM i1 7 with ⟨k, b1, b2, b3⟩ | ⟨x, b1, b2⟩
      · rw [b1]; exact .ok h2 h3
      · rw [b1]; exact .err b2
  · rw [a1]; exact .err a2
theorem valueS_may {ts : List Tok} {n : Nat} (hM : ∀ t ∈ ts, TokM n t) {i : Nat} {e : EntD} {name : ByteArray} {rf : List (IDd × Nat)} (h : EntR n e rf) (hw : wordB name.data.toList = true) (hna : name ≠ wAfter) (hno : ¬ HasK RowA.key e.attrs name) (h6 : e.attrs.length ≠ 6) : GivesE n rf (valS ts i e name rf) := by
  obtain ⟨hE, hR, hC⟩ := h
  have hnb : (name.data.toList == afterW) = false := by
    cases hb : name.data.toList == afterW with
    | false => rfl
    | true =>
      exfalso
      refine hna ?_
      have : name.data.toList = afterW := by simpa using hb
      cases name with | mk d =>
        have h2 : d = #[97, 102, 116, 101, 114] := Array.toList_inj.1 this
        rw [h2]; rfl
  have key : ∀ (a : Attrd) (j : Nat), a.name = name → (if a.isText then stringB a.text.data.toList && a.number == 0 else a.text.data.toList.isEmpty && decide (-1000000000 ≤ a.number ∧ a.number ≤ 1000000000)) = true → GivesE n rf (.ok (j, { e with attrs := insA e.attrs ⟨name, a⟩ }, rf)) := by
    intro a j hn hv
    refine .ok ⟨⟨hE.id, hE.place, fun r hr => ?_, UpG.put (key := RowA.key) ordS ⟨name, a⟩ hE.up hno, by rw [insA_len]; have := hE.few; omega, hE.after, hE.upA, hE.fewA⟩, hR, hC⟩ fun _ hx => hx
    rcases insA_mem.1 hr with rfl | hr
    · refine ⟨?_, hn⟩
      unfold attrB
      rw [hn, hw, hnb]
      simpa using hv
    · exact hE.attrs r hr
  unfold valS valueS
  by_cases h3 : kindAt ts i = 3
  · rw [if_pos h3]
    rcases take_may hM i 3 with ⟨t, a1, a2, a3⟩ | ⟨x, a1, a2⟩
    · rw [a1]; dsimp only
      refine key _ _ rfl ?_
      obtain ⟨s1, s2⟩ := a2.str a3
      simp [h3, s1, s2]
    · rw [a1]; exact .err a2
  · rw [if_neg h3]
    rcases take_may hM i 2 with ⟨t, a1, a2, a3⟩ | ⟨x, a1, a2⟩
    · rw [a1]; dsimp only
      refine key _ _ rfl ?_
      obtain ⟨s1, s2, s3⟩ := a2.num a3
      simp [h3, s1, s2, s3]
    · rw [a1]; exact .err a2
theorem lineS_may {ts : List Tok} {n : Nat} (hM : ∀ t ∈ ts, TokM n t) {i : Nat} {e : EntD} {rf : List (IDd × Nat)} (h : EntR n e rf) : GivesE n rf (lineS ts i e rf) := by
  unfold lineS
  rcases take_may hM i 1 with ⟨k, a1, a2, a3⟩ | ⟨x, a1, a2⟩
  · rw [a1]; dsimp only
    by_cases hz : nameS e k.text = 0
    · obtain ⟨hno, h6⟩ := nameS_ok hz
      rw [if_neg (fun hh => hh hz)]
      rcases take_may hM (i + 1) 8 with ⟨t, b1, b2, b3⟩ | ⟨x, b1, b2⟩
      · rw [b1]; dsimp only
        by_cases ha : k.text = wAfter
        · rw [if_pos ha]
          obtain ⟨hE, hR, hC⟩ := h
          exact listS_may hM ⟨⟨hE.id, hE.place, hE.attrs, hE.up, hE.few, hE.after, hE.upA, hE.fewA⟩, hR, hC⟩
        · rw [if_neg ha]
          exact valueS_may hM h (a2.word a3) ha hno (h6 ha)
      · rw [b1]; exact .err b2
    · rw [if_pos hz]; exact .err ⟨hz, a2.place⟩
  · rw [a1]; exact .err a2
theorem linesS_may {ts : List Tok} {n : Nat} (hM : ∀ t ∈ ts, TokM n t) : ∀ (f : Nat) {i : Nat} {e : EntD} {rf : List (IDd × Nat)}, EntR n e rf → GivesE n rf (linesS ts f i e rf)
  | 0, i, e, rf, h => .err ⟨by simp, Nat.zero_le _⟩
  | f + 1, i, e, rf, h => by
    unfold linesS
    split
    · exact .ok h fun _ hx => hx
    · have h1 := lineS_may hM (i := i) h
      cases hr : lineS ts i e rf with
      | error x => exact .err (h1.2 x hr)
      | ok r =>
        obtain ⟨i1, e1, rf1⟩ := r
        obtain ⟨h2, h3⟩ := h1.1 i1 e1 rf1 hr
        exact (linesS_may hM f h2).mono h3
/-- What is known of all that was read. -/
def AllR (n : Nat) (es : List EntD) (rf : List (IDd × Nat)) : Prop := (∀ e ∈ es, EntM n e ∧ ∀ a ∈ e.after, a ∈ rf.map Prod.fst) ∧ (∀ r ∈ rf, r.2 ≤ n) ∧ (es.map EntD.id).Nodup ∧ es.length ≤ 12
theorem AllR.more {n : Nat} {es : List EntD} {rf rf' : List (IDd × Nat)} (h : AllR n es rf) {e : EntD} (he : EntR n e rf') (hs : ∀ x ∈ rf, x ∈ rf') (hno : e.id ∉ es.map EntD.id) (hn : es.length ≠ 12) : AllR n (es ++ [e]) rf' := by
  obtain ⟨h1, h2, h3, h4⟩ := h
  refine ⟨fun x hx => ?_, he.2.1, ?_, by rw [List.length_append, List.length_singleton]; omega⟩
  · rcases List.mem_append.1 hx with hx | hx
    · refine ⟨(h1 x hx).1, fun a ha => ?_⟩
      obtain ⟨r, hr, rfl⟩ := List.mem_map.1 ((h1 x hx).2 a ha)
      exact List.mem_map.2 ⟨r, hs r hr, rfl⟩
    · simp at hx; subst hx; exact ⟨he.1, he.2.2⟩
  · rw [List.map_append]
    refine List.nodup_append.2 ⟨h3, by simp, fun a ha b hb => ?_⟩
    simp at hb
    subst hb
    rintro rfl
    exact hno ha
theorem resS_may {ts : List Tok} {n : Nat} (hM : ∀ t ∈ ts, TokM n t) {i : Nat} {es : List EntD} {rf : List (IDd × Nat)} (h : AllR n es rf) : (∀ i' es' rf', resS ts i es rf = .ok (i', es', rf') → AllR n es' rf') ∧ ∀ x, resS ts i es rf = .error x → x.1 ≠ 0 ∧ x.2 ≤ n := by
  unfold resS headS
  rcases take_may hM i 1 with ⟨b, a1, a2, a3⟩ | ⟨x, a1, a2⟩
  · rw [a1]; dsimp only
    by_cases hr : b.text ≠ wRes
    · rw [if_pos hr]; exact ⟨fun _ _ _ h => (by cases h), fun x hx => by cases hx; exact ⟨by simp, a2.place⟩⟩
    · rw [if_neg hr]
      by_cases h12 : es.length = 12
      · rw [if_pos h12]; exact ⟨fun _ _ _ h => (by cases h), fun x hx => by cases hx; exact ⟨by simp, a2.place⟩⟩
      · rw [if_neg h12]
        rcases take_may hM (i + 1) 1 with ⟨k, b1, b2, b3⟩ | ⟨x, b1, b2⟩
        · rw [b1]; dsimp only
          rcases take_may hM (i + 1 + 1) 1 with ⟨m, c1, c2, c3⟩ | ⟨x, c1, c2⟩
          · rw [c1]; dsimp only
            by_cases hm : (⟨k.text, m.text⟩ : IDd) ∈ es.map EntD.id
            · rw [if_pos hm]; exact ⟨fun _ _ _ h => (by cases h), fun x hx => by cases hx; exact ⟨by simp, b2.place⟩⟩
            · rw [if_neg hm]; dsimp only
              rcases take_may hM (i + 1 + 1 + 1) 4 with ⟨t, d1, d2, d3⟩ | ⟨x, d1, d2⟩
              · rw [d1]; dsimp only
                have he : EntR n ⟨⟨k.text, m.text⟩, k.place, [], false, []⟩ rf := ⟨⟨by unfold idB; rw [b2.word b3, c2.word c3]; rfl, b2.place, fun r hr => (by cases hr), List.Pairwise.nil, by simp, fun a ha => (by cases ha), List.Pairwise.nil, by simp⟩, h.2.1, fun a ha => (by cases ha)⟩
                have h1 := linesS_may hM ts.length (i := i + 1 + 1 + 1 + 1) he
                cases hl : linesS ts ts.length (i + 1 + 1 + 1 + 1) ⟨⟨k.text, m.text⟩, k.place, [], false, []⟩ rf with
                | error x => exact ⟨fun _ _ _ h => (by cases h), fun y hy => by cases hy; exact h1.2 x hl⟩
                | ok r =>
                  obtain ⟨i5, e5, rf5⟩ := r
                  obtain ⟨h2, h3⟩ := h1.1 i5 e5 rf5 hl
                  dsimp only
                  have hid : e5.id = ⟨k.text, m.text⟩ := linesS_id _ hl
                  rcases take_may hM i5 5 with ⟨t, e1, e2, e3⟩ | ⟨x, e1, e2⟩
                  · rw [e1]
                    exact ⟨fun _ _ _ hh => by cases hh; exact h.more h2 h3 (by rw [hid]; exact hm) h12, fun x hx => (by cases hx)⟩
                  · rw [e1]; exact ⟨fun _ _ _ h => (by cases h), fun y hy => by cases hy; exact e2⟩
              · rw [d1]; exact ⟨fun _ _ _ h => (by cases h), fun y hy => by cases hy; exact d2⟩
          · rw [c1]; exact ⟨fun _ _ _ h => (by cases h), fun y hy => by cases hy; exact c2⟩
        · rw [b1]; exact ⟨fun _ _ _ h => (by cases h), fun y hy => by cases hy; exact b2⟩
  · rw [a1]; exact ⟨fun _ _ _ h => (by cases h), fun y hy => by cases hy; exact a2⟩
theorem textS_may {ts : List Tok} {n : Nat} (hM : ∀ t ∈ ts, TokM n t) : ∀ (f : Nat) {i : Nat} {es : List EntD} {rf : List (IDd × Nat)}, AllR n es rf → (∀ es' rf', textS ts f i es rf = .ok (es', rf') → AllR n es' rf') ∧ ∀ x, textS ts f i es rf = .error x → x.1 ≠ 0 ∧ x.2 ≤ n
  | 0, i, es, rf, h => ⟨fun _ _ h => (by cases h), fun x hx => by cases hx; exact ⟨by simp, Nat.zero_le _⟩⟩
  | f + 1, i, es, rf, h => by
    unfold textS
    split
    · exact ⟨fun _ _ hh => by cases hh; exact h, fun x hx => (by cases hx)⟩
    · obtain ⟨h1, h2⟩ := resS_may hM (i := i) h
      cases hr : resS ts i es rf with
      | error x => exact ⟨fun _ _ h => (by cases h), fun y hy => by cases hy; exact h2 x hr⟩
      | ok r =>
        obtain ⟨i1, es1, rf1⟩ := r
        exact textS_may hM f (h1 i1 es1 rf1 hr)
end Go.Proofs.YtfnbbohbicffpaaGreatDoor
