/-
  What was printed is read as it was, on plain lists: resources, a text, what Parse answers.
-/
/-
  What is read may be, on plain lists: tokens, entries, resources.
-/
/-
  What is read may be, on plain lists: entries, resources, what Parse answers.
-/
/-
  At most twelve resources are read.
-/
import Derived.Test.YtfnbbohbicffpaaGreatDoorJ30
namespace Go.Proofs.YtfnbbohbicffpaaGreatDoor
open Go.RowKit

theorem attrs_len (l : List Attrd) : (l.flatMap tAttr).length = 3 * l.length := by
  induction l with
  | nil => rfl
  | cons x l ih =>
    rw [List.flatMap_cons, List.length_append, ih, show (tAttr x).length = 3 from rfl, List.length_cons]
    omega
/-- A resource is read. -/
theorem res_read {ts : List Tok} {i : Nat} {x : Resd} {ss : List Bare} (h : AtT ts i (tRes x ++ ss)) (hm : mayB x = true) {es : List EntD} {rf : List (IDd × Nat)} (hn : es.length ≠ 12) (hno : x.id ∉ es.map EntD.id) : ∃ i' e rf', resS ts i es rf = .ok (i', es ++ [e], rf') ∧ resOf e = x ∧ AtT ts i' ss ∧ rf'.map Prod.fst = rf.map Prod.fst ++ x.after := by
  simp only [mayB, Bool.and_eq_true, decide_eq_true_eq] at hm
  obtain ⟨⟨⟨⟨⟨⟨m1, m2⟩, m3⟩, m4⟩, m5⟩, m6⟩, m7⟩ := hm
  have hup : UpG cmpS Attrd.name x.attrs := rises_up ordS (fun a b hab => by simpa [lessA] using hab) m5
  have hupI : UpG cmpI id x.after := rises_up ordI (fun a b hab => by simpa [lessI] using hab) m7
  have ht : tRes x ++ ss = tWord wRes :: tWord x.id.kind :: tWord x.id.name :: tSign 4 :: (x.attrs.flatMap tAttr ++ (tAfter x.after ++ (tSign 5 :: ss))) := by simp [tRes]
  rw [ht] at h
  have hlen := at_len h
  obtain ⟨t0, a1, a2, a3, a4, h1⟩ := at_cons (show AtT ts i ((1, wRes, 0) :: _) from h)
  obtain ⟨t1, b1, b2, b3, b4, h2⟩ := at_cons (show AtT ts (i + 1) ((1, x.id.kind, 0) :: _) from h1)
  obtain ⟨t2, c1, c2, c3, c4, h3⟩ := at_cons (show AtT ts (i + 2) ((1, x.id.name, 0) :: _) from h2)
  obtain ⟨t3, d1, d2, d3, d4, h4⟩ := at_cons (show AtT ts (i + 3) ((4, ⟨#[]⟩, 0) :: _) from h3)
  have hid : (⟨t1.text, t2.text⟩ : IDd) = x.id := by rw [b3, c3]
  have hfu : x.attrs.length + 2 ≤ ts.length := by
    rcases hlen with hl | hl
    · simp only [List.length_cons, List.length_append, attrs_len] at hl; omega
    · simp at hl
  obtain ⟨f, hf⟩ : ∃ f, ts.length = x.attrs.length + f := ⟨ts.length - x.attrs.length, by omega⟩
  obtain ⟨g1, g2⟩ := attrs_read x.attrs f (e := ⟨x.id, t1.place, [], false, []⟩) (rf := rf) h4 (fun a ha => List.all_eq_true.1 m4 a ha) (by
    rw [List.nil_append]
    exact List.pairwise_map.2 hup) (by simpa using m1)
  have hk : ¬ HasK RowA.key (x.attrs.map rowOf) wAfter := by
    rintro ⟨r, hr, he⟩
    obtain ⟨a, ha, rfl⟩ := List.mem_map.1 hr
    have := List.all_eq_true.1 m4 a ha
    simp only [attrB, Bool.and_eq_true] at this
    have h2 := this.1.2
    rw [show a.name = wAfter from he] at h2
    revert h2; decide
  obtain ⟨i5, rf5, b, k1, k2, k3⟩ := after_read x.after f (e := ⟨x.id, t1.place, [] ++ x.attrs.map rowOf, false, []⟩) (rf := rf) g2 (by omega) hupI m2 rfl rfl (by simpa using hk)
  obtain ⟨t5, e1, e2, e3, e4, h5⟩ := at_cons (show AtT ts i5 ((5, ⟨#[]⟩, 0) :: ss) from k2)
  refine ⟨i5 + 1, ⟨x.id, t1.place, x.attrs.map rowOf, b, x.after⟩, rf5, ?_, ?_, h5, k3⟩
  · unfold resS headS
    rw [take_ok a1 a2]
    dsimp only
    rw [if_neg (fun hh => hh a3), if_neg hn, take_ok b1 b2]
    dsimp only
    rw [take_ok (show ts[i + 1 + 1]? = some t2 from c1) c2]
    dsimp only
    rw [hid, if_neg hno]
    dsimp only
    rw [take_ok (show ts[i + 1 + 1 + 1]? = some t3 from d1) d2]
    dsimp only
    rw [show linesS ts ts.length (i + 1 + 1 + 1 + 1) ⟨x.id, t1.place, [], false, []⟩ rf = linesS ts (x.attrs.length + f) (i + 3 + 1) ⟨x.id, t1.place, [], false, []⟩ rf by rw [← hf], g1, k1]
    dsimp only
    rw [take_ok e1 e2]
    simp
  · obtain ⟨id, attrs, after⟩ := x
    simp [resOf, rowOf, Function.comp_def]
/-- Resources are read. -/
theorem text_read {ts : List Tok} : ∀ (l : List Resd) (f : Nat) {i : Nat} {es : List EntD} {rf : List (IDd × Nat)}, AtT ts i (l.flatMap tRes ++ [(11, ⟨#[]⟩, 0)]) → l.length < f → (∀ x ∈ l, mayB x = true) → (es.map EntD.id ++ l.map Resd.id).Nodup → es.length + l.length ≤ 12 → ∃ es' rf', textS ts f i es rf = .ok (es', rf') ∧ es'.map resOf = es.map resOf ++ l ∧ rf'.map Prod.fst = rf.map Prod.fst ++ l.flatMap Resd.after
  | [], f, i, es, rf, h, hf, _, _, _ => by
    obtain ⟨g, rfl⟩ : ∃ g, f = g + 1 := ⟨f - 1, by simp at hf; omega⟩
    refine ⟨es, rf, ?_, by simp, by simp⟩
    unfold textS
    rw [if_pos (kind_ss (show AtT ts i ((11, ⟨#[]⟩, 0) :: []) from h))]
  | x :: l, f, i, es, rf, h, hf, hm, hd, hn => by
    obtain ⟨g, rfl⟩ : ∃ g, f = g + 1 := ⟨f - 1, by simp at hf; omega⟩
    have he : (x :: l).flatMap tRes ++ [(11, ⟨#[]⟩, 0)] = tRes x ++ (l.flatMap tRes ++ [(11, ⟨#[]⟩, 0)]) := by simp
    rw [he] at h
    have hno : x.id ∉ es.map EntD.id := fun hx => (List.nodup_append.1 hd).2.2 x.id hx x.id (by simp) rfl
    obtain ⟨i', e, rf', g1, g2, g3, g4⟩ := res_read h (hm x List.mem_cons_self) (es := es) (rf := rf) (by simp at hn; omega) hno
    have hide : e.id = x.id := by rw [← g2]; rfl
    obtain ⟨es', rf'', k1, k2, k3⟩ := text_read l g (es := es ++ [e]) (rf := rf') g3 (by simp at hf; omega) (fun y hy => hm y (List.mem_cons_of_mem _ hy)) (by simpa [hide] using hd) (by simp at hn ⊢; omega)
    have hk : kindAt ts i = 1 := kind_ss (show AtT ts i ((1, wRes, 0) :: _) from by simpa [tRes, tWord] using h)
    refine ⟨es', rf'', ?_, by rw [k2]; simp [g2], by rw [k3, g4]; simp⟩
    unfold textS
    rw [if_neg (by rw [hk]; decide), g1]
    dsimp only
    exact k1
theorem srtN_up {es : List EntD} (h : UpG cmpI EntD.id es) : srtN es = es := by
  unfold srtN
  have : ∀ (l m : List EntD), UpG cmpI EntD.id (m ++ l) → l.foldl insN m = m ++ l := by
    intro l
    induction l with
    | nil => intro m _; simp
    | cons x l ih =>
      intro m hu
      have hx : insN m x = m ++ [x] := by
        unfold insN
        obtain ⟨u1, u2⟩ := tw_all (l := m) (p := fun q => decide (cmpI q.id x.id < 0)) (fun y hy => by simpa using (List.pairwise_append.1 hu).2.2 y hy x (by simp))
        rw [u1, u2]
      simp only [List.foldl_cons]
      rw [hx, ih (m ++ [x]) (by simpa using hu)]
      simp
  simpa using this es [] (by simpa using h)
theorem res_count (l : List Resd) : l.length ≤ (l.flatMap tRes).length := by
  induction l with
  | nil => simp
  | cons x l ih =>
    have : 0 < (tRes x).length := by simp [tRes]
    rw [List.flatMap_cons, List.length_append, List.length_cons]; omega
/-- What Parse answers of a printed text. -/
theorem parse_print {l : List Resd} (hm : mayAllB l = true) (hn : (printL l).length ≤ 2000) : ∃ es rf, es.map resOf = l ∧ rf.map Prod.fst = l.flatMap Resd.after ∧
    (((refsF es rf).1 ≠ 0 ∧ parseS (printL l) = ([], refsF es rf)) ∨ ((refsF es rf).1 = 0 ∧ (circF l es).1 ≠ 0 ∧ parseS (printL l) = ([], circF l es)) ∨ ((refsF es rf).1 = 0 ∧ (circF l es).1 = 0 ∧ parseS (printL l) = (l, (0, 0)))) := by
  classical
  simp only [mayAllB, Bool.and_eq_true, decide_eq_true_eq] at hm
  obtain ⟨⟨m1, m2⟩, m3⟩ := hm
  have hall : ∀ x ∈ l, mayB x = true := fun x hx => List.all_eq_true.1 m2 x hx
  have hup : UpG cmpI Resd.id l := rises_up ordI (fun a b hab => by simpa [lessR, lessI] using hab) m3
  obtain ⟨c1, c2⟩ := cut_print hall
  have hat : AtT (cutL (printL l)).1 0 (l.flatMap tRes ++ [(11, ⟨#[]⟩, 0)]) := c2
  have hlen : l.length < (cutL (printL l)).1.length := by
    have h1 := congrArg List.length c2
    rw [List.length_map, List.length_append] at h1
    have := res_count l
    rw [List.length_singleton] at h1; omega
  have hnd : (l.map Resd.id).Nodup := List.pairwise_map.2 (hup.imp fun {a b} hab => by
    intro he
    rw [he, cmpI_zero.2 rfl] at hab
    omega)
  obtain ⟨es, rf, h1, h2, h3⟩ := text_read l (cutL (printL l)).1.length (es := []) (rf := []) hat hlen hall (by simpa using hnd) (by simpa using m1)
  simp only [List.map_nil, List.nil_append] at h2 h3
  have hue : UpG cmpI EntD.id es := by
    rw [← h2] at hup
    exact List.pairwise_map.1 hup
  have hs : (srtN es).map resOf = l := by rw [srtN_up hue, h2]
  have hst : parseS (printL l) = if (refsF es rf).1 ≠ 0 then ([], refsF es rf)
      else if (circF ((srtN es).map resOf) es).1 ≠ 0 then ([], circF ((srtN es).map resOf) es)
      else ((srtN es).map resOf, (0, 0)) := by
    unfold parseS
    rw [if_neg (by omega), if_neg (fun h => h c1), h1]
  rw [hs] at hst
  refine ⟨es, rf, h2, h3, ?_⟩
  by_cases hz : (refsF es rf).1 ≠ 0
  · rw [if_pos hz] at hst; exact .inl ⟨hz, hst⟩
  · rw [if_neg hz] at hst
    have hz' : (refsF es rf).1 = 0 := Classical.byContradiction hz
    by_cases hy : (circF l es).1 ≠ 0
    · rw [if_pos hy] at hst; exact .inr (.inl ⟨hz', hy, hst⟩)
    · rw [if_neg hy] at hst
      exact .inr (.inr ⟨hz', Classical.byContradiction hy, hst⟩)
end Go.Proofs.YtfnbbohbicffpaaGreatDoor

namespace Go.Proofs.YtfnbbohbicffpaaGreatDoor
open Go.RowKit

/-- A token as it may stand in a text of so many bytes. -/
structure TokM (n : Nat) (t : Tok) : Prop where
  word : t.kind = 1 → wordB t.text.data.toList = true
  num : t.kind = 2 → t.text = ⟨#[]⟩ ∧ -1000000000 ≤ t.value ∧ t.value ≤ 1000000000
  str : t.kind = 3 → stringB t.text.data.toList = true ∧ t.value = 0
  place : t.place ≤ n
theorem str_text {l : List UInt8} : ∀ (f a : Nat) {m : List UInt8} {e : Nat}, strF l f a = some (m, e) → ∀ x ∈ m, isTextB x.toNat = true
  | 0, a, m, e, h => by simp [strF] at h
  | f + 1, a, m, e, h => by
    simp only [strF] at h
    cases hc : l[a]? with
    | none => rw [hc] at h; cases h
    | some c =>
      rw [hc] at h
      dsimp only at h
      by_cases h34 : c = 34
      · rw [if_pos h34] at h
        cases h
        intro x hx; cases hx
      · rw [if_neg h34] at h
        by_cases hu : (signL (l.drop a)).2 = 0
        · rw [if_pos hu] at h; cases h
        · rw [if_neg hu] at h
          cases hr : strF l f (a + (signL (l.drop a)).2) with
          | none => rw [hr] at h; cases h
          | some r =>
            obtain ⟨m', e'⟩ := r
            rw [hr] at h
            dsimp only at h
            cases h
            intro x hx
            rcases List.mem_cons.1 hx with rfl | hx
            · clear hr
              revert hu
              cases l.drop a with
              | nil => intro hu; exact absurd rfl hu
              | cons d r =>
                intro hu
                simp only [signL] at hu ⊢
                by_cases h92 : d = 92
                · rw [if_pos h92] at hu ⊢
                  cases r with
                  | nil => exact absurd rfl hu
                  | cons d2 r =>
                    dsimp only at hu ⊢
                    by_cases h2 : d2 = 92 ∨ d2 = 34
                    · rw [if_pos h2]
                      rcases h2 with rfl | rfl <;> decide
                    · rw [if_neg h2] at hu ⊢
                      by_cases h3 : d2 = 110
                      · rw [if_pos h3]; decide
                      · rw [if_neg h3] at hu; exact absurd rfl hu
                · rw [if_neg h92] at hu ⊢
                  by_cases hp : isPlainB d.toNat = true
                  · rw [if_pos hp]
                    unfold isTextB
                    dsimp only
                    rw [hp]; rfl
                  · rw [if_neg hp] at hu; exact absurd rfl hu
            · exact str_text f _ hr x hx
theorem tokL_may {l : List UInt8} {a : Nat} {c : UInt8} {t : Tok} {b : Nat} (hc : l[a]? = some c) (h : tokL l a c = .inl (t, b)) : TokM l.length t := by
  have hlt := (List.getElem?_eq_some_iff.1 hc).1
  have hok := tok_ok h
  unfold tokL at h
  split at h
  · rename_i hl
    split at h
    · rename_i h12
      simp only [Sum.inl.injEq, Prod.mk.injEq] at h
      obtain ⟨rfl, -⟩ := h
      refine ⟨fun _ => ?_, fun h => absurd h (by decide : ¬ (1 : Nat) = 2), fun h => absurd h (by decide : ¬ (1 : Nat) = 3), by show a ≤ l.length; omega⟩
      show wordB (baOf _).data.toList = true
      have hb : behindL (fun b => isInnerB b.toNat) l a - a = ((l.drop a).takeWhile fun b => isInnerB b.toNat).length := by unfold behindL; omega
      rw [hb] at h12 ⊢
      have hp : (l.drop a).take ((l.drop a).takeWhile fun b => isInnerB b.toNat).length = (l.drop a).takeWhile fun b => isInnerB b.toNat := by
        conv => lhs; arg 2; rw [← List.takeWhile_append_dropWhile (p := fun b : UInt8 => isInnerB b.toNat) (l := l.drop a)]
        rw [List.take_left]
      rw [hp]
      have hd : l.drop a = c :: l.drop (a + 1) := by
        obtain ⟨h1, rfl⟩ := List.getElem?_eq_some_iff.1 hc
        exact List.drop_eq_getElem_cons h1
      have hin : isInnerB c.toNat = true := by unfold isInnerB; rw [hl]; rfl
      rw [hd] at h12 ⊢
      simp only [List.takeWhile, hin, List.length_cons] at h12 ⊢
      show wordB (c :: _) = true
      simp only [wordB, Bool.and_eq_true, decide_eq_true_eq]
      refine ⟨h12, hl, ?_⟩
      rw [List.all_eq_true]
      intro x hx
      rcases List.mem_cons.1 hx with rfl | hx
      · exact hin
      · exact List.all_eq_true.1 (List.all_takeWhile (l := l.drop (a + 1)) (p := fun b : UInt8 => isInnerB b.toNat)) x hx
    · cases h
  · split at h
    · generalize (if c = 45 then a + 1 else a) = k at h
      split at h
      · simp only [Sum.inl.injEq, Prod.mk.injEq] at h
        obtain ⟨rfl, -⟩ := h
        exact ⟨fun h => absurd h (by decide : ¬ (2 : Nat) = 1), fun _ => ⟨rfl, hok.2⟩, fun h => absurd h (by decide : ¬ (2 : Nat) = 3), by show a ≤ l.length; omega⟩
      · cases h
    · split at h
      · split at h
        · cases h
        · rename_i m e hs
          split at h
          · rename_i h20
            simp only [Sum.inl.injEq, Prod.mk.injEq] at h
            obtain ⟨rfl, -⟩ := h
            refine ⟨fun h => absurd h (by decide : ¬ (3 : Nat) = 1), fun h => absurd h (by decide : ¬ (3 : Nat) = 2), fun _ => ⟨?_, rfl⟩, by show a ≤ l.length; omega⟩
            show stringB (baOf m).data.toList = true
            simp only [stringB, baOf, Bool.and_eq_true]
            refine ⟨decide_eq_true h20, ?_⟩
            rw [List.all_eq_true]
            exact str_text _ _ hs
          · cases h
      · split at h
        · cases h
        · rename_i hk
          simp only [Sum.inl.injEq, Prod.mk.injEq] at h
          obtain ⟨rfl, -⟩ := h
          have h4 : 4 ≤ signKind c := by
            unfold signKind at hk ⊢
            repeat' split
            all_goals first | omega | (exfalso; simp_all)
          exact ⟨fun h => by have : signKind c = 1 := h; omega, fun h => by have : signKind c = 2 := h; omega, fun h => by have : signKind c = 3 := h; omega, by show a ≤ l.length; omega⟩
theorem cutF_may (l : List UInt8) : ∀ (f a : Nat), a ≤ l.length → (∀ t ∈ (cutF l f a).1, TokM l.length t) ∧ (cutF l f a).2.2 ≤ l.length
  | 0, a, h1 => by simp [cutF]
  | f + 1, a, h1 => by
    have hsk := skip_le h1
    simp only [cutF]
    cases hc : l[skipL l a]? with
    | none =>
      dsimp only
      refine ⟨fun t ht => ?_, Nat.zero_le _⟩
      simp at ht
      subst ht
      exact ⟨fun h => absurd h (by show ¬ (11 : Nat) = 1; decide), fun h => absurd h (by show ¬ (11 : Nat) = 2; decide), fun h => absurd h (by show ¬ (11 : Nat) = 3; decide), Nat.le_refl _⟩
    | some c =>
      dsimp only
      cases ht : tokL l (skipL l a) c with
      | inr e => exact ⟨fun t h => (by cases h), hsk.2⟩
      | inl r =>
        obtain ⟨t, b⟩ := r
        dsimp only
        obtain ⟨_, g1, g2, g3, g4⟩ := tok_at hc ht
        obtain ⟨i1, i2⟩ := cutF_may l f b (by omega)
        split
        · refine ⟨fun x hx => ?_, Nat.zero_le _⟩
          rcases List.mem_cons.1 hx with rfl | hx
          · exact tokL_may hc ht
          · exact i1 x hx
        · exact ⟨fun t h => (by cases h), i2⟩
end Go.Proofs.YtfnbbohbicffpaaGreatDoor

namespace Go.Proofs.YtfnbbohbicffpaaGreatDoor
open Go.RowKit

theorem UpG.put {κ ρ : Type} {cmp : κ → κ → Int} {key : ρ → κ} (ho : OrdK cmp) (x : ρ) : ∀ {rs : List ρ}, UpG cmp key rs → ¬ HasK key rs (key x) → UpG cmp key (rs.takeWhile (fun r => decide (cmp (key r) (key x) < 0)) ++ x :: rs.dropWhile (fun r => decide (cmp (key r) (key x) < 0)))
  | [], _, _ => by simp [UpG]
  | r :: rs, hu, hn => by
    obtain ⟨h1, h2⟩ := List.pairwise_cons.1 hu
    have hn' : ¬ HasK key rs (key x) := fun ⟨y, hy, e⟩ => hn ⟨y, List.mem_cons_of_mem _ hy, e⟩
    have hne : cmp (key r) (key x) ≠ 0 := fun e => hn ⟨r, List.mem_cons_self, ho.zero.1 e⟩
    by_cases hp : cmp (key r) (key x) < 0
    · have ih := UpG.put ho x h2 hn'
      simp only [List.takeWhile, List.dropWhile, hp, decide_true, List.cons_append]
      refine List.pairwise_cons.2 ⟨fun y hy => ?_, ih⟩
      rcases List.mem_append.1 hy with hy | hy
      · exact h1 y ((List.takeWhile_sublist _).subset hy)
      · rcases List.mem_cons.1 hy with rfl | hy
        · exact hp
        · exact h1 y ((List.dropWhile_sublist _).subset hy)
    · simp only [List.takeWhile, List.dropWhile, hp, decide_false, List.nil_append]
      have hx : cmp (key x) (key r) < 0 := by rw [ho.flip]; omega
      refine List.pairwise_cons.2 ⟨fun y hy => ?_, hu⟩
      rcases List.mem_cons.1 hy with rfl | hy
      · exact hx
      · exact ho.trans hx (h1 y hy)
structure EntM (n : Nat) (e : EntD) : Prop where
  id : idB e.id = true
  place : e.place ≤ n
  attrs : ∀ r ∈ e.attrs, attrB r.val = true ∧ r.val.name = r.key
  up : UpG cmpS RowA.key e.attrs
  few : e.attrs.length ≤ 6
  after : ∀ a ∈ e.after, idB a = true
  upA : UpG cmpI (fun a : IDd => a) e.after
  fewA : e.after.length ≤ 6
/-- An entry that may be, and its refs among those that were read. -/
def EntR (n : Nat) (e : EntD) (rf : List (IDd × Nat)) : Prop := EntM n e ∧ (∀ r ∈ rf, r.2 ≤ n) ∧ ∀ a ∈ e.after, a ∈ rf.map Prod.fst
/-- What a reading gives. -/
def GivesE (n : Nat) (rf : List (IDd × Nat)) (r : Except Flt (Nat × EntD × List (IDd × Nat))) : Prop := (∀ i' e' rf', r = .ok (i', e', rf') → EntR n e' rf' ∧ ∀ x ∈ rf, x ∈ rf') ∧ ∀ x, r = .error x → x.1 ≠ 0 ∧ x.2 ≤ n
theorem GivesE.err {n : Nat} {rf : List (IDd × Nat)} {x : Flt} (h : x.1 ≠ 0 ∧ x.2 ≤ n) : GivesE n rf (.error x) := ⟨fun _ _ _ h => (by cases h), fun y hy => by cases hy; exact h⟩
theorem GivesE.ok {n : Nat} {rf : List (IDd × Nat)} {i : Nat} {e : EntD} {rf' : List (IDd × Nat)} (h : EntR n e rf') (hs : ∀ x ∈ rf, x ∈ rf') : GivesE n rf (.ok (i, e, rf')) := ⟨fun _ _ _ h' => by cases h'; exact ⟨h, hs⟩, fun y hy => (by cases hy)⟩
theorem GivesE.mono {n : Nat} {rf rf1 : List (IDd × Nat)} {r : Except Flt (Nat × EntD × List (IDd × Nat))} (h : GivesE n rf1 r) (hs : ∀ x ∈ rf, x ∈ rf1) : GivesE n rf r := ⟨fun i e f hr => ⟨(h.1 i e f hr).1, fun x hx => (h.1 i e f hr).2 x (hs x hx)⟩, h.2⟩
theorem listS_id {ts : List Tok} {i : Nat} {e : EntD} {rf : List (IDd × Nat)} {i' : Nat} {e' : EntD} {rf' : List (IDd × Nat)} (h : listS ts i e rf = .ok (i', e', rf')) : e'.id = e.id := by
  unfold listS at h
  split at h
  · cases h
  · split at h
    · cases h
    · rename_i i2 e2 rf2 h2
      have g2 : e2.id = e.id := by
        split at h2
        · cases h2; rfl
        · exact refsS_id _ h2
      split at h
      · cases h
      · cases h; exact g2
theorem lineS_id {ts : List Tok} {i : Nat} {e : EntD} {rf : List (IDd × Nat)} {i' : Nat} {e' : EntD} {rf' : List (IDd × Nat)} (h : lineS ts i e rf = .ok (i', e', rf')) : e'.id = e.id := by
  unfold lineS at h
  split at h
  · cases h
  · split at h
    · cases h
    · split at h
      · cases h
      · split at h
        · exact listS_id (e := { e with hasAfter := true }) h
        · unfold valueS at h
          split at h
          · cases h
          · rename_i h1
            split at h1
            · cases h1
            · cases h1; cases h; rfl
theorem linesS_id {ts : List Tok} : ∀ (f : Nat) {i : Nat} {e : EntD} {rf : List (IDd × Nat)} {i' : Nat} {e' : EntD} {rf' : List (IDd × Nat)}, linesS ts f i e rf = .ok (i', e', rf') → e'.id = e.id
  | 0, i, e, rf, i', e', rf', h => by cases h
  | f + 1, i, e, rf, i', e', rf', h => by
    unfold linesS at h
    split at h
    · cases h; rfl
    · split at h
      · cases h
      · rename_i i1 e1 rf1 h1
        exact (linesS_id f h).trans (lineS_id h1)
theorem take_may {ts : List Tok} {n : Nat} (hM : ∀ t ∈ ts, TokM n t) (i k : Nat) : (∃ t, takeS ts i k = .ok (t, i + 1) ∧ TokM n t ∧ t.kind = k) ∨ (∃ x, takeS ts i k = .error x ∧ x.1 ≠ 0 ∧ x.2 ≤ n) := by
  unfold takeS
  cases h : ts[i]? with
  | none => exact .inr ⟨_, rfl, by simp, Nat.zero_le _⟩
  | some t =>
    have ht := hM t (List.mem_of_getElem? h)
    dsimp only
    by_cases hk : t.kind = k
    · rw [if_pos hk]; exact .inl ⟨t, rfl, ht, hk⟩
    · rw [if_neg hk]; exact .inr ⟨_, rfl, by simp, ht.place⟩
theorem refS_may {ts : List Tok} {n : Nat} (hM : ∀ t ∈ ts, TokM n t) {i : Nat} {e : EntD} {rf : List (IDd × Nat)} (h : EntR n e rf) : GivesE n rf (refS ts i e rf) := by
  unfold refS
  rcases take_may hM i 1 with ⟨k, a1, a2, a3⟩ | ⟨x, a1, a2⟩
  · rw [a1]; dsimp only
    rcases take_may hM (i + 1) 10 with ⟨d, b1, b2, b3⟩ | ⟨x, b1, b2⟩
    · rw [b1]; dsimp only
      rcases take_may hM (i + 1 + 1) 1 with ⟨m, c1, c2, c3⟩ | ⟨x, c1, c2⟩
      · rw [c1]; dsimp only
        by_cases h6 : e.after.length = 6
        · rw [if_pos h6]; exact .err ⟨by simp, a2.place⟩
        · rw [if_neg h6]
          by_cases hm : (⟨k.text, m.text⟩ : IDd) ∈ e.after
          · rw [if_pos hm]; exact .err ⟨by simp, a2.place⟩
          · rw [if_neg hm]
            obtain ⟨hE, hR, hC⟩ := h
            refine .ok ⟨⟨hE.id, hE.place, hE.attrs, hE.up, hE.few, fun a ha => ?_, ?_, by rw [insI_len]; have := hE.fewA; omega⟩, fun r hr => ?_, fun a ha => ?_⟩ (fun x hx => by simp [hx])
            · rcases insI_mem.1 ha with rfl | ha
              · unfold idB; rw [a2.word a3, c2.word c3]; rfl
              · exact hE.after a ha
            · exact UpG.put (key := fun a : IDd => a) ordI _ hE.upA (fun ⟨y, hy, he⟩ => hm (by rw [← he]; exact hy))
            · rcases List.mem_append.1 hr with hr | hr
              · exact hR r hr
              · simp at hr; subst hr; exact a2.place
            · rcases insI_mem.1 ha with rfl | ha
              · simp
              · rw [List.map_append]; exact List.mem_append_left _ (hC a ha)
      · rw [c1]; exact .err c2
    · rw [b1]; exact .err b2
  · rw [a1]; exact .err a2
theorem refsS_may {ts : List Tok} {n : Nat} (hM : ∀ t ∈ ts, TokM n t) : ∀ (f : Nat) {i : Nat} {e : EntD} {rf : List (IDd × Nat)}, EntR n e rf → GivesE n rf (refsS ts f i e rf)
  | 0, i, e, rf, h => .err ⟨by simp, Nat.zero_le _⟩
  | f + 1, i, e, rf, h => by
    unfold refsS
    have h1 := refS_may hM (i := i) h
    cases hr : refS ts i e rf with
    | error x => exact .err (h1.2 x hr)
    | ok r =>
      obtain ⟨i1, e1, rf1⟩ := r
      obtain ⟨h2, h3⟩ := h1.1 i1 e1 rf1 hr
      dsimp only
      split
      · exact (refsS_may hM f h2).mono h3
      · exact .ok h2 h3
theorem listS_may {ts : List Tok} {n : Nat} (hM : ∀ t ∈ ts, TokM n t) {i : Nat} {e : EntD} {rf : List (IDd × Nat)} (h : EntR n e rf) : GivesE n rf (listS ts i e rf) := by
  unfold listS
  rcases take_may hM i 6 with ⟨k, a1, a2, a3⟩ | ⟨x, a1, a2⟩
  · rw [a1]; dsimp only
    have h1 : GivesE n rf (if kindAt ts (i + 1) = 7 then .ok (i + 1, e, rf) else refsS ts ts.length (i + 1) e rf) := by
      split
      · exact .ok h fun _ hx => hx
      · exact refsS_may hM _ h
    cases hr : (if kindAt ts (i + 1) = 7 then .ok (i + 1, e, rf) else refsS ts ts.length (i + 1) e rf : Except Flt (Nat × EntD × List (IDd × Nat))) with
    | error x => exact .err (h1.2 x hr)
    | ok r =>
      obtain ⟨i1, e1, rf1⟩ := r
      obtain ⟨h2, h3⟩ := h1.1 i1 e1 rf1 hr
      dsimp only
      rcases take_may hM i1 7 with ⟨k, b1, b2, b3⟩ | ⟨x, b1, b2⟩
      · rw [b1]; exact .ok h2 h3
      · rw [b1]; exact .err b2
  · rw [a1]; exact .err a2
theorem valueS_may {ts : List Tok} {n : Nat} (hM : ∀ t ∈ ts, TokM n t) {i : Nat} {e : EntD} {name : ByteArray} {rf : List (IDd × Nat)} (h : EntR n e rf) (hw : wordB name.data.toList = true) (hna : name ≠ wAfter) (hno : ¬ HasK RowA.key e.attrs name) (h6 : e.attrs.length ≠ 6) : GivesE n rf (valS ts i e name rf) := by
  obtain ⟨hE, hR, hC⟩ := h
  have hnb : (name.data.toList == afterW) = false := by
    cases hb : name.data.toList == afterW with
    | false => rfl
    | true =>
      exfalso
      refine hna ?_
      have : name.data.toList = afterW := by simpa using hb
      cases name with | mk d =>
        have h2 : d = #[97, 102, 116, 101, 114] := Array.toList_inj.1 this
        rw [h2]; rfl
  have key : ∀ (a : Attrd) (j : Nat), a.name = name → (if a.isText then stringB a.text.data.toList && a.number == 0 else a.text.data.toList.isEmpty && decide (-1000000000 ≤ a.number ∧ a.number ≤ 1000000000)) = true → GivesE n rf (.ok (j, { e with attrs := insA e.attrs ⟨name, a⟩ }, rf)) := by
    intro a j hn hv
    refine .ok ⟨⟨hE.id, hE.place, fun r hr => ?_, UpG.put (key := RowA.key) ordS ⟨name, a⟩ hE.up hno, by rw [insA_len]; have := hE.few; omega, hE.after, hE.upA, hE.fewA⟩, hR, hC⟩ fun _ hx => hx
    rcases insA_mem.1 hr with rfl | hr
    · refine ⟨?_, hn⟩
      unfold attrB
      rw [hn, hw, hnb]
      simpa using hv
    · exact hE.attrs r hr
  unfold valS valueS
  by_cases h3 : kindAt ts i = 3
  · rw [if_pos h3]
    rcases take_may hM i 3 with ⟨t, a1, a2, a3⟩ | ⟨x, a1, a2⟩
    · rw [a1]; dsimp only
      refine key _ _ rfl ?_
      obtain ⟨s1, s2⟩ := a2.str a3
      simp [h3, s1, s2]
    · rw [a1]; exact .err a2
  · rw [if_neg h3]
    rcases take_may hM i 2 with ⟨t, a1, a2, a3⟩ | ⟨x, a1, a2⟩
    · rw [a1]; dsimp only
      refine key _ _ rfl ?_
      obtain ⟨s1, s2, s3⟩ := a2.num a3
      simp [h3, s1, s2, s3]
    · rw [a1]; exact .err a2
theorem lineS_may {ts : List Tok} {n : Nat} (hM : ∀ t ∈ ts, TokM n t) {i : Nat} {e : EntD} {rf : List (IDd × Nat)} (h : EntR n e rf) : GivesE n rf (lineS ts i e rf) := by
  unfold lineS
  rcases take_may hM i 1 with ⟨k, a1, a2, a3⟩ | ⟨x, a1, a2⟩
  · rw [a1]; dsimp only
    by_cases hz : nameS e k.text = 0
    · obtain ⟨hno, h6⟩ := nameS_ok hz
      rw [if_neg (fun hh => hh hz)]
      rcases take_may hM (i + 1) 8 with ⟨t, b1, b2, b3⟩ | ⟨x, b1, b2⟩
      · rw [b1]; dsimp only
        by_cases ha : k.text = wAfter
        · rw [if_pos ha]
          obtain ⟨hE, hR, hC⟩ := h
          exact listS_may hM ⟨⟨hE.id, hE.place, hE.attrs, hE.up, hE.few, hE.after, hE.upA, hE.fewA⟩, hR, hC⟩
        · rw [if_neg ha]
          exact valueS_may hM h (a2.word a3) ha hno (h6 ha)
      · rw [b1]; exact .err b2
    · rw [if_pos hz]; exact .err ⟨hz, a2.place⟩
  · rw [a1]; exact .err a2
theorem linesS_may {ts : List Tok} {n : Nat} (hM : ∀ t ∈ ts, TokM n t) : ∀ (f : Nat) {i : Nat} {e : EntD} {rf : List (IDd × Nat)}, EntR n e rf → GivesE n rf (linesS ts f i e rf)
  | 0, i, e, rf, h => .err ⟨by simp, Nat.zero_le _⟩
  | f + 1, i, e, rf, h => by
    unfold linesS
    split
    · exact .ok h fun _ hx => hx
    · have h1 := lineS_may hM (i := i) h
      cases hr : lineS ts i e rf with
      | error x => exact .err (h1.2 x hr)
      | ok r =>
        obtain ⟨i1, e1, rf1⟩ := r
        obtain ⟨h2, h3⟩ := h1.1 i1 e1 rf1 hr
        exact (linesS_may hM f h2).mono h3
/-- What is known of all that was read. -/
def AllR (n : Nat) (es : List EntD) (rf : List (IDd × Nat)) : Prop := (∀ e ∈ es, EntM n e ∧ ∀ a ∈ e.after, a ∈ rf.map Prod.fst) ∧ (∀ r ∈ rf, r.2 ≤ n) ∧ (es.map EntD.id).Nodup ∧ es.length ≤ 12
theorem AllR.more {n : Nat} {es : List EntD} {rf rf' : List (IDd × Nat)} (h : AllR n es rf) {e : EntD} (he : EntR n e rf') (hs : ∀ x ∈ rf, x ∈ rf') (hno : e.id ∉ es.map EntD.id) (hn : es.length ≠ 12) : AllR n (es ++ [e]) rf' := by
  obtain ⟨h1, h2, h3, h4⟩ := h
  refine ⟨fun x hx => ?_, he.2.1, ?_, by rw [List.length_append, List.length_singleton]; omega⟩
  · rcases List.mem_append.1 hx with hx | hx
    · refine ⟨(h1 x hx).1, fun a ha => ?_⟩
      obtain ⟨r, hr, rfl⟩ := List.mem_map.1 ((h1 x hx).2 a ha)
      exact List.mem_map.2 ⟨r, hs r hr, rfl⟩
    · simp at hx; subst hx; exact ⟨he.1, he.2.2⟩
  · rw [List.map_append]
    refine List.nodup_append.2 ⟨h3, by simp, fun a ha b hb => ?_⟩
    simp at hb
    subst hb
    rintro rfl
    exact hno ha
theorem resS_may {ts : List Tok} {n : Nat} (hM : ∀ t ∈ ts, TokM n t) {i : Nat} {es : List EntD} {rf : List (IDd × Nat)} (h : AllR n es rf) : (∀ i' es' rf', resS ts i es rf = .ok (i', es', rf') → AllR n es' rf') ∧ ∀ x, resS ts i es rf = .error x → x.1 ≠ 0 ∧ x.2 ≤ n := by
  unfold resS headS
  rcases take_may hM i 1 with ⟨b, a1, a2, a3⟩ | ⟨x, a1, a2⟩
  · rw [a1]; dsimp only
    by_cases hr : b.text ≠ wRes
    · rw [if_pos hr]; exact ⟨fun _ _ _ h => (by cases h), fun x hx => by cases hx; exact ⟨by simp, a2.place⟩⟩
    · rw [if_neg hr]
      by_cases h12 : es.length = 12
      · rw [if_pos h12]; exact ⟨fun _ _ _ h => (by cases h), fun x hx => by cases hx; exact ⟨by simp, a2.place⟩⟩
      · rw [if_neg h12]
        rcases take_may hM (i + 1) 1 with ⟨k, b1, b2, b3⟩ | ⟨x, b1, b2⟩
        · rw [b1]; dsimp only
          rcases take_may hM (i + 1 + 1) 1 with ⟨m, c1, c2, c3⟩ | ⟨x, c1, c2⟩
          · rw [c1]; dsimp only
            by_cases hm : (⟨k.text, m.text⟩ : IDd) ∈ es.map EntD.id
            · rw [if_pos hm]; exact ⟨fun _ _ _ h => (by cases h), fun x hx => by cases hx; exact ⟨by simp, b2.place⟩⟩
            · rw [if_neg hm]; dsimp only
              rcases take_may hM (i + 1 + 1 + 1) 4 with ⟨t, d1, d2, d3⟩ | ⟨x, d1, d2⟩
              · rw [d1]; dsimp only
                have he : EntR n ⟨⟨k.text, m.text⟩, k.place, [], false, []⟩ rf := ⟨⟨by unfold idB; rw [b2.word b3, c2.word c3]; rfl, b2.place, fun r hr => (by cases hr), List.Pairwise.nil, by simp, fun a ha => (by cases ha), List.Pairwise.nil, by simp⟩, h.2.1, fun a ha => (by cases ha)⟩
                have h1 := linesS_may hM ts.length (i := i + 1 + 1 + 1 + 1) he
                cases hl : linesS ts ts.length (i + 1 + 1 + 1 + 1) ⟨⟨k.text, m.text⟩, k.place, [], false, []⟩ rf with
                | error x => exact ⟨fun _ _ _ h => (by cases h), fun y hy => by cases hy; exact h1.2 x hl⟩
                | ok r =>
                  obtain ⟨i5, e5, rf5⟩ := r
                  obtain ⟨h2, h3⟩ := h1.1 i5 e5 rf5 hl
                  dsimp only
                  have hid : e5.id = ⟨k.text, m.text⟩ := linesS_id _ hl
                  rcases take_may hM i5 5 with ⟨t, e1, e2, e3⟩ | ⟨x, e1, e2⟩
                  · rw [e1]
                    exact ⟨fun _ _ _ hh => by cases hh; exact h.more h2 h3 (by rw [hid]; exact hm) h12, fun x hx => (by cases hx)⟩
                  · rw [e1]; exact ⟨fun _ _ _ h => (by cases h), fun y hy => by cases hy; exact e2⟩
              · rw [d1]; exact ⟨fun _ _ _ h => (by cases h), fun y hy => by cases hy; exact d2⟩
          · rw [c1]; exact ⟨fun _ _ _ h => (by cases h), fun y hy => by cases hy; exact c2⟩
        · rw [b1]; exact ⟨fun _ _ _ h => (by cases h), fun y hy => by cases hy; exact b2⟩
  · rw [a1]; exact ⟨fun _ _ _ h => (by cases h), fun y hy => by cases hy; exact a2⟩
theorem textS_may {ts : List Tok} {n : Nat} (hM : ∀ t ∈ ts, TokM n t) : ∀ (f : Nat) {i : Nat} {es : List EntD} {rf : List (IDd × Nat)}, AllR n es rf → (∀ es' rf', textS ts f i es rf = .ok (es', rf') → AllR n es' rf') ∧ ∀ x, textS ts f i es rf = .error x → x.1 ≠ 0 ∧ x.2 ≤ n
  | 0, i, es, rf, h => ⟨fun _ _ h => (by cases h), fun x hx => by cases hx; exact ⟨by simp, Nat.zero_le _⟩⟩
  | f + 1, i, es, rf, h => by
    unfold textS
    split
    · exact ⟨fun _ _ hh => by cases hh; exact h, fun x hx => (by cases hx)⟩
    · obtain ⟨h1, h2⟩ := resS_may hM (i := i) h
      cases hr : resS ts i es rf with
      | error x => exact ⟨fun _ _ h => (by cases h), fun y hy => by cases hy; exact h2 x hr⟩
      | ok r =>
        obtain ⟨i1, es1, rf1⟩ := r
        exact textS_may hM f (h1 i1 es1 rf1 hr)
end Go.Proofs.YtfnbbohbicffpaaGreatDoor

namespace Go.Proofs.YtfnbbohbicffpaaGreatDoor
open Go.RowKit

theorem resS_few {ts : List Tok} {i : Nat} {es : List EntD} {rf : List (IDd × Nat)} {i' : Nat} {es' : List EntD} {rf' : List (IDd × Nat)} (h : resS ts i es rf = .ok (i', es', rf')) (hn : es.length ≤ 12) : es'.length ≤ 12 := by
  unfold resS at h
  split at h
  · cases h
  · rename_i i1 e1 h1
    have h12 : es.length ≠ 12 := by
      unfold headS at h1
      split at h1
      · cases h1
      · split at h1
        · cases h1
        · split at h1
          · cases h1
          · assumption
    split at h
    · cases h
    · split at h
      · cases h
      · split at h
        · cases h
        · cases h
          rw [List.length_append, List.length_singleton]; omega
theorem textS_few {ts : List Tok} : ∀ (f : Nat) {i : Nat} {es : List EntD} {rf : List (IDd × Nat)} {es' : List EntD} {rf' : List (IDd × Nat)}, es.length ≤ 12 → textS ts f i es rf = .ok (es', rf') → es'.length ≤ 12
  | 0, i, es, rf, es', rf', _, h => by cases h
  | f + 1, i, es, rf, es', rf', hn, h => by
    unfold textS at h
    split at h
    · cases h; exact hn
    · split at h
      · cases h
      · rename_i i1 es1 rf1 h1
        exact textS_few f (resS_few h1 hn) h
theorem parseS_few (l : List UInt8) : (parseS l).1.length ≤ 12 := by
  unfold parseS
  split
  · simp
  · split
    · simp
    · split
      · simp
      · rename_i es rf h
        have := textS_few _ (by simp) h
        split
        · simp
        · split
          · simp
          · simp [srtN_len]; exact this
end Go.Proofs.YtfnbbohbicffpaaGreatDoor
