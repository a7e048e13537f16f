/-
  The reference's reading and the program's, on plain lists: a text is the same.
-/
/-
  The reference: what the reading between the braces needs.
-/
import Derived.Test.YtejhegnlmldomaaGreatJ26
import Derived.Test.YtejhegnlmldomaaGreatParseP
namespace Go.Proofs.YtejhegnlmldomaaGreat
open Go.RowKit

def gotOf (es : List EntD) (rf : List (IDd × Nat)) : Got := ⟨es.map resOf, es.map EntD.place, rf⟩
theorem ids_of (es : List EntD) : (es.map resOf).map Resd.id = es.map EntD.id := by rw [List.map_map]; rfl
theorem fits_res {t : Tok} (hk : TokK t) : fitsR t 1 wRes ↔ t.kind = 1 ∧ t.text = wRes := by
  unfold fitsR
  rcases rTok_kind hk with ⟨h1, h2⟩ | ⟨h1, h2, h3⟩ | ⟨h1, h2⟩
  · rw [rTok_low h1]
    constructor
    · rintro ⟨a, b | b⟩
      · exact absurd b (by decide)
      · exact ⟨a, b⟩
    · rintro ⟨a, b⟩; exact ⟨a, .inr b⟩
  · rw [h3]; exact ⟨fun h => by omega, fun h => by omega⟩
  · rw [h2]; exact ⟨fun h => by omega, fun h => by omega⟩
/-- Behind an error a resource is read to no end. -/
theorem resM_tail {ts : List Tok} {s : RSt} (h : s.en ≠ 0) (k n : Tok) (g : Got) :
    (match nextM ts (againM g.out ⟨k.text, n.text⟩ k.place s) 4 ⟨#[123]⟩ with
        | (_, s4) => match insM ts ts.length ⟨⟨k.text, n.text⟩, [], []⟩ false s4 g.rf with
          | (x, _, s5, rf) => match nextM ts s5 4 ⟨#[125]⟩ with
            | (_, s6) => ((s6, ⟨g.out ++ [x], g.ats ++ [k.place], rf⟩) : RSt × Got)).1 = s := by
  have ha : againM g.out ⟨k.text, n.text⟩ k.place s = s := by
    unfold againM
    split
    · exact wrongM_bad h _ _
    · rfl
  rw [ha, nextM_bad h]
  dsimp only
  rw [insM_bad h]
  dsimp only
  rw [nextM_bad h]
theorem resM_end {ts : List Tok} {s : RSt} (h : s.en ≠ 0) (t : Tok) (g : Got) :
    (match nextM ts (fullM g.out.length t.place s) 1 ⟨#[]⟩ with
    | (k, s2) => match nextM ts s2 1 ⟨#[]⟩ with
      | (n, s3) => match nextM ts (againM g.out ⟨k.text, n.text⟩ k.place s3) 4 ⟨#[123]⟩ with
        | (_, s4) => match insM ts ts.length ⟨⟨k.text, n.text⟩, [], []⟩ false s4 g.rf with
          | (x, _, s5, rf) => match nextM ts s5 4 ⟨#[125]⟩ with
            | (_, s6) => ((s6, ⟨g.out ++ [x], g.ats ++ [k.place], rf⟩) : RSt × Got)).1 = s := by
  have ha : fullM g.out.length t.place s = s := by
    unfold fullM
    split
    · exact wrongM_bad h _ _
    · rfl
  rw [ha, nextM_bad h]
  dsimp only
  rw [nextM_bad h]
  exact resM_tail h zTok zTok g
/-- A resource is read alike. -/
theorem res_same {ts : List Tok} (hK : ∀ t ∈ ts, TokK t) (he : TsEnd ts) {i : Nat} (hi : i < ts.length) (pl : Nat) {es : List EntD} {rf : List (IDd × Nat)} :
    (∀ i' es' rf', resS ts i es rf = .ok (i', es', rf') → resM ts ⟨i, 0, pl⟩ (gotOf es rf) = (⟨i', 0, pl⟩, gotOf es' rf') ∧ i < i' ∧ i' < ts.length ∧ ∃ e, es' = es ++ [e] ∧ e.id ∉ es.map EntD.id) ∧
    (∀ x, resS ts i es rf = .error x → x.1 ≠ 0 ∧ (resM ts ⟨i, 0, pl⟩ (gotOf es rf)).1.en = x.1 ∧ (resM ts ⟨i, 0, pl⟩ (gotOf es rf)).1.pl = x.2) := by
  obtain ⟨t, ht⟩ := TsEnd.there hi
  have htk := hK t (List.mem_of_getElem? ht)
  have hout : (gotOf es rf).out.length = es.length := by simp [gotOf]
  unfold resS headS resM
  by_cases hk : t.kind = 1
  · rw [take_ok ht hk]
    dsimp only
    have hi1 := he.next ht (by omega)
    by_cases hr : t.text = wRes
    · rw [if_neg (fun h => h hr), nextM_yes (s := ⟨i, 0, pl⟩) ht rfl ((fits_res htk).2 ⟨hk, hr⟩), rTok_low (by omega)]
      dsimp only
      by_cases h12 : es.length = 12
      · rw [if_pos h12]
        refine ⟨fun _ _ _ h => (by cases h), fun x h => ?_⟩
        cases h
        have hf : fullM (gotOf es rf).out.length t.place ⟨i + 1, 0, pl⟩ = fullM (gotOf es rf).out.length t.place ⟨i + 1, 7, t.place⟩ := by
          unfold fullM
          rw [if_pos (by rw [hout]; exact h12), if_pos (by rw [hout]; exact h12), wrongM_good rfl, wrongM_bad (by simp)]
        rw [hf]
        have hq := resM_end (ts := ts) (s := ⟨i + 1, 7, t.place⟩) (by simp) t (gotOf es rf)
        dsimp only at hq
        rw [hq]
        exact ⟨by simp, rfl, rfl⟩
      · rw [if_neg h12]
        have hf : fullM (gotOf es rf).out.length t.place ⟨i + 1, 0, pl⟩ = ⟨i + 1, 0, pl⟩ := by
          unfold fullM
          rw [if_neg (by rw [hout]; exact h12)]
        rw [hf]
        rcases next_word hK hi1 pl (k := 1) (by omega) with ⟨k, b1, b2, b3, b4, -⟩ | ⟨p, b1, b2⟩
        · rw [b1, b2]
          dsimp only
          have hi2 := he.next b3 (by omega)
          rcases next_word hK hi2 pl (k := 1) (by omega) with ⟨n, c1, c2, c3, c4, -⟩ | ⟨p, c1, c2⟩
          · rw [c1, c2]
            dsimp only
            have hi3 := he.next c3 (by omega)
            have hids : (gotOf es rf).out.map Resd.id = es.map EntD.id := ids_of es
            by_cases hm : (⟨k.text, n.text⟩ : IDd) ∈ es.map EntD.id
            · rw [if_pos hm]
              refine ⟨fun _ _ _ h => (by cases h), fun x h => ?_⟩
              cases h
              have hf : againM (gotOf es rf).out ⟨k.text, n.text⟩ k.place ⟨i + 1 + 1 + 1, 0, pl⟩ = againM (gotOf es rf).out ⟨k.text, n.text⟩ k.place ⟨i + 1 + 1 + 1, 8, k.place⟩ := by
                unfold againM
                rw [hids, if_pos hm, if_pos hm, wrongM_good rfl, wrongM_bad (by simp)]
              rw [hf]
              have hq := resM_tail (ts := ts) (s := ⟨i + 1 + 1 + 1, 8, k.place⟩) (by simp) k n (gotOf es rf)
              dsimp only at hq
              rw [hq]
              exact ⟨by simp, rfl, rfl⟩
            · rw [if_neg hm]
              have hf : againM (gotOf es rf).out ⟨k.text, n.text⟩ k.place ⟨i + 1 + 1 + 1, 0, pl⟩ = ⟨i + 1 + 1 + 1, 0, pl⟩ := by
                unfold againM
                rw [hids, if_neg hm]
              rw [hf]
              dsimp only
              rcases next_sign hK hi3 pl (k := 4) (by omega) (by omega) (c := 123) rfl with ⟨t1, d1, d2, d3, d4, -⟩ | ⟨p, d1, d2⟩
              · rw [d1, d2]
                dsimp only
                have hi4 := he.next d3 (by omega)
                have hE : EInv ⟨⟨k.text, n.text⟩, k.place, [], false, []⟩ := ⟨List.Pairwise.nil, fun r hr => (by cases hr), fun _ => rfl⟩
                obtain ⟨g1, g2⟩ := lines_same hK he pl ts.length (rf := rf) hi4 (by omega) hE
                have hres : resOf ⟨⟨k.text, n.text⟩, k.place, [], false, []⟩ = ⟨⟨k.text, n.text⟩, [], []⟩ := rfl
                rw [hres] at g1 g2
                dsimp only at g1 g2
                have hrf : (gotOf es rf).rf = rf := rfl
                rw [hrf]
                cases hl : linesS ts ts.length (i + 1 + 1 + 1 + 1) ⟨⟨k.text, n.text⟩, k.place, [], false, []⟩ rf with
                | error x =>
                  obtain ⟨f1, f2, f3⟩ := g2 x hl
                  dsimp only
                  generalize insM ts ts.length ⟨⟨k.text, n.text⟩, [], []⟩ false ⟨i + 1 + 1 + 1 + 1, 0, pl⟩ rf = r at *
                  obtain ⟨x1, q1, s5, rf5⟩ := r
                  dsimp only at f2 f3 ⊢
                  generalize nextM ts s5 4 ⟨#[125]⟩ = r6 at *
                  obtain ⟨t6, s6⟩ := r6
                  refine ⟨fun _ _ _ h => (by cases h), fun y h => ?_⟩
                  cases h
                  exact ⟨f1, f2, f3⟩
                | ok r =>
                  obtain ⟨i5, e5, rf5⟩ := r
                  obtain ⟨f1, f2, f3⟩ := g1 i5 e5 rf5 hl
                  obtain ⟨l1, l2, l3, l4⟩ := linesS_in he _ hi4 hl
                  dsimp only at l3 f3
                  rw [f1]
                  dsimp only
                  obtain ⟨t5, ht5⟩ := TsEnd.there l2
                  have hk5 : t5.kind = 5 := by rw [← kind_at ht5]; exact l4
                  rw [take_ok ht5 hk5, nextM_yes (s := ⟨i5, 0, pl⟩) (k := 4) (sg := ⟨#[125]⟩) ht5 rfl ((fits_sign (k := 5) (hK t5 (List.mem_of_getElem? ht5)) (by omega) (by omega)).2 hk5)]
                  dsimp only
                  refine ⟨fun _ _ _ h => ?_, fun y h => (by cases h)⟩
                  cases h
                  refine ⟨?_, by omega, he.next ht5 (by omega), e5, rfl, by rw [l3]; exact hm⟩
                  simp [gotOf, f3]
              · rw [d1, d2]
                dsimp only
                rw [insM_bad (by simp)]
                dsimp only
                rw [nextM_bad (by simp)]
                refine ⟨fun _ _ _ h => (by cases h), fun x h => ?_⟩
                cases h
                exact ⟨by simp, rfl, rfl⟩
          · rw [c1, c2]
            dsimp only
            refine ⟨fun _ _ _ h => (by cases h), fun x h => ?_⟩
            cases h
            have hq := resM_tail (ts := ts) (s := ⟨i + 1 + 1, 6, p⟩) (by simp) k zTok (gotOf es rf)
            dsimp only at hq
            rw [hq]
            exact ⟨by simp, rfl, rfl⟩
        · rw [b1, b2]
          dsimp only
          rw [nextM_bad (s := ⟨i + 1, 6, p⟩) (by simp)]
          dsimp only
          refine ⟨fun _ _ _ h => (by cases h), fun x h => ?_⟩
          cases h
          have hq := resM_tail (ts := ts) (s := ⟨i + 1, 6, p⟩) (by simp) zTok zTok (gotOf es rf)
          dsimp only at hq
          rw [hq]
          exact ⟨by simp, rfl, rfl⟩
    · rw [if_pos hr, nextM_no (s := ⟨i, 0, pl⟩) ht rfl (fun h => hr ((fits_res htk).1 h).2)]
      dsimp only
      refine ⟨fun _ _ _ h => (by cases h), fun x h => ?_⟩
      cases h
      have hq := resM_end (ts := ts) (s := ⟨i, 6, t.place⟩) (by simp) zTok (gotOf es rf)
      dsimp only at hq
      rw [hq]
      exact ⟨by simp, rfl, rfl⟩
  · rw [take_no ht hk, nextM_no (s := ⟨i, 0, pl⟩) ht rfl (fun h => hk ((fits_res htk).1 h).1)]
    dsimp only
    refine ⟨fun _ _ _ h => (by cases h), fun x h => ?_⟩
    cases h
    have hq := resM_end (ts := ts) (s := ⟨i, 6, t.place⟩) (by simp) zTok (gotOf es rf)
    dsimp only at hq
    rw [hq]
    exact ⟨by simp, rfl, rfl⟩
theorem txtM_bad {ts : List Tok} {s : RSt} (h : s.en ≠ 0) (f : Nat) (g : Got) : txtM ts f s g = (s, g) := by
  cases f with
  | zero => rfl
  | succ f => unfold txtM; rw [if_neg (fun hh => h hh.1)]
theorem end_same {ts : List Tok} (hK : ∀ t ∈ ts, TokK t) {i : Nat} (hi : i < ts.length) : rKind ts i = 5 ↔ kindAt ts i = 11 := by
  obtain ⟨t, ht⟩ := TsEnd.there hi
  have htk := hK t (List.mem_of_getElem? ht)
  unfold rKind kindAt
  rw [ht]
  dsimp only
  rcases rTok_kind htk with ⟨h1, h2⟩ | ⟨h1, h2, h3⟩ | ⟨h1, h2⟩
  · rw [h2]; omega
  · rw [h3]; omega
  · rw [h2]; omega
/-- A text is read alike. -/
theorem text_same {ts : List Tok} (hK : ∀ t ∈ ts, TokK t) (he : TsEnd ts) (pl : Nat) : ∀ (f : Nat) {i : Nat} {es : List EntD} {rf : List (IDd × Nat)}, i < ts.length → ts.length ≤ f + i → (es.map EntD.id).Nodup →
    (∀ es' rf', textS ts f i es rf = .ok (es', rf') → (∃ i', txtM ts f ⟨i, 0, pl⟩ (gotOf es rf) = (⟨i', 0, pl⟩, gotOf es' rf')) ∧ (es'.map EntD.id).Nodup) ∧
    (∀ x, textS ts f i es rf = .error x → x.1 ≠ 0 ∧ (txtM ts f ⟨i, 0, pl⟩ (gotOf es rf)).1.en = x.1 ∧ (txtM ts f ⟨i, 0, pl⟩ (gotOf es rf)).1.pl = x.2)
  | 0, i, es, rf, hi, hf, hd => by omega
  | f + 1, i, es, rf, hi, hf, hd => by
    unfold textS txtM
    by_cases h11 : kindAt ts i = 11
    · rw [if_pos h11, if_neg (fun h => h.2 ((end_same hK hi).2 h11))]
      refine ⟨fun _ _ h => ?_, fun x h => (by cases h)⟩
      cases h
      exact ⟨⟨i, rfl⟩, hd⟩
    · rw [if_neg h11, if_pos ⟨rfl, fun h => h11 ((end_same hK hi).1 h)⟩]
      obtain ⟨g1, g2⟩ := res_same hK he hi pl (es := es) (rf := rf)
      cases hr : resS ts i es rf with
      | error x =>
        obtain ⟨c1, c2, c3⟩ := g2 x hr
        generalize resM ts ⟨i, 0, pl⟩ (gotOf es rf) = r at *
        obtain ⟨s1, got1⟩ := r
        dsimp only at c2 c3 ⊢
        rw [txtM_bad (by rw [c2]; exact c1)]
        refine ⟨fun _ _ h => (by cases h), fun y h => ?_⟩
        cases h
        exact ⟨c1, c2, c3⟩
      | ok r =>
        obtain ⟨i1, es1, rf1⟩ := r
        obtain ⟨c1, c2, c3, e, rfl, hno⟩ := g1 i1 es1 rf1 hr
        rw [c1]
        dsimp only
        have hd1 : ((es ++ [e]).map EntD.id).Nodup := by
          rw [List.map_append]
          refine List.nodup_append.2 ⟨hd, by simp, fun a ha b hb => ?_⟩
          simp at hb
          subst hb
          rintro rfl
          exact hno ha
        exact text_same hK he pl f c3 (by omega) hd1
/-- Resources among others, by rising IDs. -/
def insRs (l : List Resd) (x : Resd) : List Resd := l.takeWhile (fun q => decide (cmpI q.id x.id < 0)) ++ x :: l.dropWhile (fun q => decide (cmpI q.id x.id < 0))
def srtM (l : List Resd) : List Resd := l.foldl insRs []
theorem ins_same (l : List EntD) (x : EntD) : insRs (l.map resOf) (resOf x) = (insN l x).map resOf := by
  unfold insRs insN
  obtain ⟨h1, h2⟩ := map_tw resOf (fun q : Resd => decide (cmpI q.id (resOf x).id < 0)) (fun q : EntD => decide (cmpI q.id x.id < 0)) l (fun _ _ => rfl)
  rw [h1, h2]
  simp
theorem srt_same (es : List EntD) : srtM (es.map resOf) = (srtN es).map resOf := by
  unfold srtM srtN
  have : ∀ (es l : List EntD), (es.map resOf).foldl insRs (l.map resOf) = (es.foldl insN l).map resOf := by
    intro es
    induction es with
    | nil => intro l; rfl
    | cons e es ih => intro l; simp only [List.map_cons, List.foldl_cons]; rw [ins_same, ih]
  exact this es []
theorem nonesM_bad (out : List Resd) : ∀ (rf : List (IDd × Nat)) {s : RSt}, s.en ≠ 0 → nonesM out rf s = s
  | [], s, _ => rfl
  | r :: rf, s, h => by
    unfold nonesM
    split
    · exact nonesM_bad out rf h
    · rw [wrongM_bad h]; exact nonesM_bad out rf h
theorem circsM_bad : ∀ (q : List Bool) (ats : List Nat) {s : RSt}, s.en ≠ 0 → circsM q ats s = s
  | [], _, s, _ => by simp [circsM]
  | _ :: _, [], s, _ => by simp [circsM]
  | b :: q, p :: ats, s, h => by
    unfold circsM
    split
    · rw [wrongM_bad h]; exact circsM_bad q ats h
    · exact circsM_bad q ats h
theorem nones_same (es : List EntD) (i pl : Nat) : ∀ (rf : List (IDd × Nat)), if (refsF es rf).1 ≠ 0 then nonesM (es.map resOf) rf ⟨i, 0, pl⟩ = ⟨i, (refsF es rf).1, (refsF es rf).2⟩ else nonesM (es.map resOf) rf ⟨i, 0, pl⟩ = ⟨i, 0, pl⟩
  | [] => by simp [refsF, nonesM]
  | r :: rf => by
    unfold refsF nonesM
    rw [ids_of]
    by_cases h : r.1 ∈ es.map EntD.id
    · rw [if_pos h, if_pos h]; exact nones_same es i pl rf
    · rw [if_neg h, if_neg h, wrongM_good rfl, nonesM_bad _ _ (by simp), if_pos (by simp)]
theorem circs_same (l : List Resd) (i pl : Nat) : ∀ (es : List EntD) (q : List Bool), q.length = es.length → (∀ (j : Nat) e, es[j]? = some e → (q[j]? = some true ↔ IdCirc l e.id)) → if (circF l es).1 ≠ 0 then circsM q (es.map EntD.place) ⟨i, 0, pl⟩ = ⟨i, (circF l es).1, (circF l es).2⟩ else circsM q (es.map EntD.place) ⟨i, 0, pl⟩ = ⟨i, 0, pl⟩
  | [], q, _, _ => by simp [circF, circsM]
  | e :: es, [], hq, _ => by simp at hq
  | e :: es, b :: q, hq, hc => by
    have h0 := hc 0 e rfl
    unfold circF
    simp only [List.map_cons, circsM]
    by_cases h : IdCirc l e.id
    · have : b = true := by simpa using h0.2 h
      rw [if_pos h, if_pos this, wrongM_good rfl, circsM_bad _ _ (by simp), if_pos (by simp)]
    · have : ¬ b = true := fun hb => h (h0.1 (by simp [hb]))
      rw [if_neg h, if_neg this]
      exact circs_same l i pl es q (by simpa using hq) (fun j x hx => hc (j + 1) x (by simpa using hx))
/-- Who waits for itself hangs on the members alone. -/
theorem edge_mem {l : List Resd} (hd : Apart l) {a b : IDd} : IdEdge l a b ↔ ∃ y ∈ l, y.id = a ∧ b ∈ y.after := by
  constructor
  · rintro ⟨k, y, h1, h2, h3⟩
    obtain ⟨y', hy', rfl⟩ := place_id h1
    obtain rfl : y = y' := by simpa using h2.symm.trans hy'
    exact ⟨y, List.mem_of_getElem? h2, rfl, h3⟩
  · rintro ⟨y, hy, rfl, hb⟩
    obtain ⟨k, hk⟩ := List.mem_iff_getElem?.1 hy
    exact ⟨k, y, place_self hd hk, hk, hb⟩
theorem circ_mem {l l' : List Resd} (hd : Apart l) (hd' : Apart l') (hm : ∀ y, y ∈ l ↔ y ∈ l') (a : IDd) : IdCirc l a ↔ IdCirc l' a := by
  have hE : ∀ a b, IdEdge l a b ↔ IdEdge l' a b := fun a b => by
    rw [edge_mem hd, edge_mem hd']
    constructor
    · rintro ⟨y, h1, h2⟩; exact ⟨y, (hm y).1 h1, h2⟩
    · rintro ⟨y, h1, h2⟩; exact ⟨y, (hm y).2 h1, h2⟩
  have hC : ∀ b, IdComes l a b ↔ IdComes l' a b := fun b => by
    constructor
    · intro h
      induction h with
      | here => exact .here
      | step _ e ih => exact ih.step ((hE _ _).1 e)
    · intro h
      induction h with
      | here => exact .here
      | step _ e ih => exact ih.step ((hE _ _).2 e)
  constructor
  · rintro ⟨b, h1, h2⟩; exact ⟨b, (hC b).1 h1, (hE b a).1 h2⟩
  · rintro ⟨b, h1, h2⟩; exact ⟨b, (hC b).2 h1, (hE b a).2 h2⟩
theorem apart_of {l : List Resd} (h : (l.map Resd.id).Nodup) : Apart l := by
  intro i j x y hx hy e
  have h1 : (l.map Resd.id)[i]? = some x.id := by rw [List.getElem?_map, hx]; rfl
  have h2 : (l.map Resd.id)[j]? = some x.id := by rw [List.getElem?_map, hy, e]; rfl
  obtain ⟨a1, a2⟩ := List.getElem?_eq_some_iff.1 h1
  obtain ⟨b1, b2⟩ := List.getElem?_eq_some_iff.1 h2
  rcases Nat.lt_trichotomy i j with hlt | hlt | hlt
  · exact absurd (a2.trans b2.symm) (List.pairwise_iff_getElem.1 h i j a1 b1 hlt)
  · exact hlt
  · exact absurd (b2.trans a2.symm) (List.pairwise_iff_getElem.1 h j i b1 a1 hlt)
theorem srtN_perm (es : List EntD) : (srtN es).Perm es := by
  unfold srtN
  have h1 : ∀ (l : List EntD) x, (insN l x).Perm (x :: l) := by
    intro l x
    unfold insN
    refine List.perm_middle.trans ?_
    rw [List.takeWhile_append_dropWhile]
  have : ∀ (es l : List EntD), (es.foldl insN l).Perm (es ++ l) := by
    intro es
    induction es with
    | nil => intro l; exact List.Perm.refl _
    | cons e es ih =>
      intro l
      simp only [List.foldl_cons]
      refine (ih _).trans ?_
      refine ((h1 l e).append_left es).trans ?_
      exact List.perm_middle
  simpa using this es []
end Go.Proofs.YtejhegnlmldomaaGreat

namespace Go.Proofs.YtejhegnlmldomaaGreat
open Go.RowKit

/-- What the reading of lines may turn: the reader's box, rows of refs, the resource's box. -/
def ChgXr (R B X : Nat) (j : Nat) (t : TypeId) : Prop := ChgR R B j t ∨ (j = X ∧ t = 74)
theorem chgX_of {R B X : Nat} {w w' : World} (h : Wr (ChgR R B) w w') : Wr (ChgXr R B X) w w' := h.mono fun _ _ _ hd => .inl hd
theorem onR_chgX {R B X : Nat} {w w' : World} (h : Wr (OnR R) w w') : Wr (ChgXr R B X) w w' := chgX_of (onR_chg h)
theorem RdrIn.keep {D : Nat → TypeId → Prop} {w w' : World} {R : Nat} {vL vO vA vF : Value} {ts : List Tok} {i : Nat} {en : Int} {pl : Nat} (h : RdrIn w R vL vO vA vF ts i en pl) (k : Wr D w w') (h1 : ¬ D R 48) (h2 : ∀ g, ¬ D g 50) : RdrIn w' R vL vO vA vF ts i en pl :=
  ⟨k.keeps h.box h1, ownsRow_wr h.toks k fun g _ _ => h2 g⟩
theorem attrsV_own {B : Nat} {w : World} {v : Value} {l : List Attrd} (h : w.ownsRow B 129 4 v l.length (cellsA l)) (hok : ∀ a ∈ l, okN a) (hn : l.length ≤ 255) : AttrsV w v l := by
  obtain ⟨pa, cap, rfl⟩ := ownsRow_form h
  exact (OwnR.resV (c3 := .slice none 0 0) (x := ⟨⟨⟨#[]⟩, ⟨#[]⟩⟩, l, []⟩) ⟨⟨pa, cap, rfl⟩, ⟨none, 0, rfl⟩, h, World.ownsRow_nil _ _ _ _⟩ ⟨⟨by show (⟨#[]⟩ : ByteArray).size ≤ 255; decide, by show (⟨#[]⟩ : ByteArray).size ≤ 255; decide⟩, hok, fun a ha => (by cases ha), hn, by simp⟩).attrs
theorem once_at (af : Bool) (p : Nat) (s : RSt) : (onceM af p s).i = s.i := by unfold onceM; split <;> rfl
theorem fresh_at (l : List Attrd) (a : ByteArray) (p : Nat) (s : RSt) : (freshM l a p s).i = s.i := by unfold freshM; split <;> rfl
theorem fresh_zero {l : List Attrd} {a : ByteArray} {p : Nat} {s : RSt} (h : (freshM l a p s).en = 0) : s.en = 0 := by
  unfold freshM at h
  split at h
  · exact absurd h (wrong_zero (by decide))
  · exact h
theorem attM_len (l : List Attrd) (a : Attrd) : (attM l a).length ≤ l.length + 1 := by
  unfold attM
  split
  · omega
  · have := congrArg List.length (List.takeWhile_append_dropWhile (p := fun y : Attrd => decide (cmpS y.name a.name < 0)) (l := l))
    simp only [List.length_append, List.length_cons] at this ⊢
    omega
theorem attM_mem {l : List Attrd} {a y : Attrd} (h : y ∈ attM l a) : y = a ∨ y ∈ l := by
  unfold attM at h
  split at h
  · exact .inr h
  · rcases List.mem_append.1 h with h | h
    · exact .inr ((List.takeWhile_sublist _).subset h)
    · rcases List.mem_cons.1 h with h | h
      · exact .inl h
      · exact .inr ((List.dropWhile_sublist _).subset h)
theorem attM_up {l : List Attrd} {a : Attrd} (hu : UpG cmpS Attrd.name l) : UpG cmpS Attrd.name (attM l a) := by
  unfold attM
  split
  · exact hu
  · rename_i h
    exact UpG.ins (key := Attrd.name) ordS a hu h
/-- What is known while lines are read. -/
structure InB (ts : List Tok) (i0 f : Nat) (x : Resd) (q : RSt) (rf : List (IDd × Nat)) : Prop where
  lt : q.i < ts.length
  ge : i0 ≤ q.i
  fuel : q.en = 0 → ts.length ≤ f + q.i
  few : x.attrs.length ≤ 7
  few6 : q.en = 0 → x.attrs.length ≤ 6
  refs : rf.length ≤ q.i
  up : UpG cmpS Attrd.name x.attrs
  oks : ∀ a ∈ x.attrs, okN a
  fewA : x.after.length ≤ 7
  okA : ∀ a ∈ x.after, shI a
theorem left_less {q q' : RSt} {n : Nat} (hz : q.en = 0) (hl : q.i < n) (h : q.i < q'.i) : leftM q' n < leftM q n := by
  unfold leftM
  rw [if_pos hz]
  split <;> omega
theorem next_one {ts : List Tok} {q : RSt} (hz : q.en = 0) (hk : rKind ts q.i = 1) (hl : q.i < ts.length) {n : Tok} {s1 : RSt} (hm1 : nextM ts q 1 ⟨#[]⟩ = (n, s1)) : s1.en = 0 ∧ s1.i = q.i + 1 := by
  obtain ⟨t, ht⟩ := TsEnd.there hl
  have hr : rKind ts q.i = (rTok t).kind := by unfold rKind; rw [ht]
  rw [nextM_yes ht hz ⟨hr.symm.trans hk, .inl rfl⟩] at hm1
  cases hm1
  exact ⟨rfl, rfl⟩
theorem ln_after {ts : List Tok} (he : TsEnd ts) {i0 f : Nat} {x : Resd} {af : Bool} {q s1 s2 s3 : RSt} {rf rf3 : List (IDd × Nat)} {n t2 : Tok} {l : List IDd} (hz : q.en = 0) (hk : rKind ts q.i = 1) (hm1 : nextM ts q 1 ⟨#[]⟩ = (n, s1)) (ha : n.text = wAfter) (hm2 : nextM ts (onceM af n.place s1) 4 ⟨#[61]⟩ = (t2, s2)) (hm3 : listM ts s2 rf = (l, s3, rf3))
    (hb : InB ts i0 f x q rf) (h3 : s3.i < ts.length ∧ s2.i ≤ s3.i ∧ l.length ≤ 7 ∧ (s3.en = 0 → l.length ≤ 6) ∧ rf3.length ≤ s3.i ∧ (∀ a ∈ l, shI a)) :
    ∃ f', insM ts f x af q rf = insM ts f' ⟨x.id, x.attrs, l⟩ true s3 rf3 ∧ InB ts i0 f' ⟨x.id, x.attrs, l⟩ s3 rf3 ∧ leftM s3 ts.length < leftM q ts.length := by
  obtain ⟨e1, e2⟩ := next_one hz hk hb.lt hm1
  have h1 : (onceM af n.place s1).i = s1.i := once_at _ _ _
  have hi1 : s1.i < ts.length := (nextM_in he hb.lt (by decide) _ hm1).1
  obtain ⟨a1, a2, a3⟩ := nextM_in he (s := onceM af n.place s1) (by rw [h1]; exact hi1) (by decide) _ hm2
  rw [h1] at a2
  obtain ⟨f', rfl⟩ : ∃ f', f = f' + 1 := ⟨f - 1, by have := hb.fuel hz; have := hb.lt; omega⟩
  have hfu := hb.fuel hz
  refine ⟨f', ?_, ⟨h3.1, ?_, fun _ => ?_, hb.few, fun _ => hb.few6 hz, h3.2.2.2.2.1, hb.up, hb.oks, h3.2.2.1, h3.2.2.2.2.2⟩, left_less hz hb.lt (by omega)⟩
  · conv => lhs; unfold insM
    rw [if_pos ⟨hz, hk⟩]
    unfold lnM
    rw [hm1]
    dsimp only
    rw [if_pos ha, hm2]
    dsimp only
    rw [hm3]
  · have := hb.ge; omega
  · omega
theorem valM_in {ts : List Tok} (he : TsEnd ts) (hok : ∀ t ∈ ts, TokOk t) {s s' : RSt} (hi : s.i < ts.length) {name : ByteArray} (hn : name.size ≤ 20) {a : Attrd} (h : valM ts s name = (a, s')) : s'.i < ts.length ∧ s.i ≤ s'.i ∧ (s'.en = 0 → s.en = 0) ∧ a.name = name ∧ okN a := by
  unfold valM at h
  split at h
  · cases hm : nextM ts s 3 ⟨#[]⟩ with
    | mk t s1 =>
      rw [hm] at h
      cases h
      obtain ⟨a1, a2, a3⟩ := nextM_in he hi (by decide) _ hm
      have g := nextM_tok hok hm
      exact ⟨a1, a2, fun h0 => (a3 h0).1, rfl, ⟨by show name.size ≤ 255; omega, by have := g.1; show t.text.size ≤ 255; omega⟩, by show (-2147483648 : Int) ≤ 0; omega, by show (0 : Int) < 2147483648; omega⟩
  · cases hm : nextM ts s 2 ⟨#[]⟩ with
    | mk t s1 =>
      rw [hm] at h
      cases h
      obtain ⟨a1, a2, a3⟩ := nextM_in he hi (by decide) _ hm
      have g := nextM_tok hok hm
      exact ⟨a1, a2, fun h0 => (a3 h0).1, rfl, ⟨by show name.size ≤ 255; omega, by show (⟨#[]⟩ : ByteArray).size ≤ 255; decide⟩, by have := g.2.1; show (-2147483648 : Int) ≤ t.value; omega, by have := g.2.2; show t.value < 2147483648; omega⟩
theorem ln_attr {ts : List Tok} (he : TsEnd ts) (hok : ∀ t ∈ ts, TokOk t) {i0 f : Nat} {x : Resd} {af : Bool} {q s1 s3 s4 s5 s6 : RSt} {rf : List (IDd × Nat)} {n t2 : Tok} {a : Attrd} (hz : q.en = 0) (hk : rKind ts q.i = 1) (hm1 : nextM ts q 1 ⟨#[]⟩ = (n, s1)) (ha : ¬ n.text = wAfter) (hm3 : manyM x.attrs.length n.place s1 = s3) (hm4 : freshM x.attrs n.text n.place s3 = s4) (hm5 : nextM ts s4 4 ⟨#[61]⟩ = (t2, s5)) (hm6 : valM ts s5 n.text = (a, s6))
    (hb : InB ts i0 f x q rf) :
    ∃ f', insM ts f x af q rf = insM ts f' ⟨x.id, attM x.attrs a, x.after⟩ af s6 rf ∧ InB ts i0 f' ⟨x.id, attM x.attrs a, x.after⟩ s6 rf ∧ leftM s6 ts.length < leftM q ts.length ∧ s5.i < ts.length ∧ okN a ∧ a.name = n.text := by
  obtain ⟨e1, e2⟩ := next_one hz hk hb.lt hm1
  have h4 : s4.i = s1.i := by rw [← hm4, fresh_at, ← hm3, many_at]
  have hi1 : s1.i < ts.length := (nextM_in he hb.lt (by decide) _ hm1).1
  obtain ⟨a1, a2, a3⟩ := nextM_in he (s := s4) (by rw [h4]; exact hi1) (by decide) _ hm5
  obtain ⟨b1, b2, b3, b4, b5⟩ := valM_in he hok a1 (nextM_tok hok hm1).1 hm6
  obtain ⟨f', rfl⟩ : ∃ f', f = f' + 1 := ⟨f - 1, by have := hb.fuel hz; have := hb.lt; omega⟩
  have hfu := hb.fuel hz
  have hl := attM_len x.attrs a
  have h6 := hb.few6 hz
  refine ⟨f', ?_, ⟨b1, ?_, fun _ => ?_, ?_, fun h0 => ?_, ?_, attM_up hb.up, fun y hy => ?_, hb.fewA, hb.okA⟩, left_less hz hb.lt (by omega), a1, b5, b4⟩
  · conv => lhs; unfold insM
    rw [if_pos ⟨hz, hk⟩]
    unfold lnM
    rw [hm1]
    dsimp only
    rw [if_neg ha, hm3, hm4, hm5]
    dsimp only
    rw [hm6]
  · have := hb.ge; omega
  · omega
  · show (attM x.attrs a).length ≤ 7
    omega
  · show (attM x.attrs a).length ≤ 6
    have h5 := (a3 (b3 h0)).1
    rw [← hm4] at h5
    have h3 := fresh_zero h5
    rw [← hm3] at h3
    have := (many_zero h3).1
    omega
  · have := hb.refs; omega
  · rcases attM_mem hy with rfl | hy
    · exact b5
    · exact hb.oks y hy
theorem insM_end {ts : List Tok} {f : Nat} {x : Resd} {af : Bool} {q : RSt} {rf : List (IDd × Nat)} (h : ¬ (q.en = 0 ∧ rKind ts q.i = 1)) : insM ts f x af q rf = (x, af, q, rf) := by
  cases f with
  | zero => rfl
  | succ f => unfold insM; rw [if_neg h]
/-- The reader, what it has read of refs, and a resource's box with its lists. -/
structure InAt (B : Nat) (w : World) (R X : Nat) (vL vO vA vF d2 d3 : Value) (ts : List Tok) (y : Resd) (q : RSt) (rf : List (IDd × Nat)) : Prop where
  rdr : RdrIn w R vL vO vA vF ts q.i q.en q.pl
  refs : w.ownsRow B 55 3 vF rf.length (rf.flatMap cRf)
  box : w.heap[X]? = some (.cells #[.string y.id.kind, .string y.id.name, d2, d3] 74 (0, 0))
  attrs : w.ownsRow B 129 4 d2 y.attrs.length (cellsA y.attrs)
  after : w.ownsRow B 53 2 d3 y.after.length (y.after.flatMap cI)
theorem InAt.ext {B : Nat} {w w' : World} {R X : Nat} {vL vO vA vF d2 d3 : Value} {ts : List Tok} {y : Resd} {q : RSt} {rf : List (IDd × Nat)} (h : InAt B w R X vL vO vA vF d2 d3 ts y q rf) (x : Ext w w') : InAt B w' R X vL vO vA vF d2 d3 ts y q rf :=
  ⟨h.rdr.ext x, ownsRow_wr h.refs (Wr.ext (D := fun _ _ => False) x) fun _ _ _ => id, ext_heap x h.box, ownsRow_wr h.attrs (Wr.ext (D := fun _ _ => False) x) fun _ _ _ => id, ownsRow_wr h.after (Wr.ext (D := fun _ _ => False) x) fun _ _ _ => id⟩
theorem InAt.onR {B : Nat} {w w' : World} {R X : Nat} {vL vO vA vF d2 d3 : Value} {ts : List Tok} {y : Resd} {q q' : RSt} {rf : List (IDd × Nat)} (h : InAt B w R X vL vO vA vF d2 d3 ts y q rf) (hr : RdrIn w' R vL vO vA vF ts q'.i q'.en q'.pl) (k : Wr (OnR R) w w') : InAt B w' R X vL vO vA vF d2 d3 ts y q' rf :=
  ⟨hr, ownsRow_wr h.refs k fun _ _ _ hd => absurd hd.2 (by decide), k.keeps h.box fun hd => absurd hd.2 (by decide), ownsRow_wr h.attrs k fun _ _ _ hd => absurd hd.2 (by decide), ownsRow_wr h.after k fun _ _ _ hd => absurd hd.2 (by decide)⟩
theorem onX_wr {B : Nat} {w : World} {R X : Nat} {a b c d : Value} (h : w.heap[X]? = some (.cells #[a, b, c, d] 74 (0, 0))) (j : Nat) (u : Value) : Wr (ChgXr R B X) w (w.setCell ⟨X, j, none⟩ u) ∧ Wr (fun j t => j = X ∧ t = 74) w (w.setCell ⟨X, j, none⟩ u) :=
  ⟨(Wr.refl _ w).setOld (p := ⟨X, j, none⟩) h (.inr ⟨rfl, rfl⟩) _, (Wr.refl _ w).setOld (p := ⟨X, j, none⟩) h ⟨rfl, rfl⟩ _⟩
/-- The list of what a resource waits for is put into its box. -/
theorem InAt.put3 {B : Nat} {w : World} {R X : Nat} {vL vO vA vF d2 d3 : Value} {ts : List Tok} {y : Resd} {q : RSt} {rf : List (IDd × Nat)} (h : InAt B w R X vL vO vA vF d2 d3 ts y q rf) {u : Value} {l : List IDd} (hu : w.ownsRow B 53 2 u l.length (l.flatMap cI)) : InAt B (w.setCell ⟨X, 3, none⟩ u) R X vL vO vA vF d2 u ts ⟨y.id, y.attrs, l⟩ q rf := by
  have k := (onX_wr (B := B) (R := R) h.box 3 u).2
  exact ⟨h.rdr.keep k (fun hd => absurd hd.2 (by decide)) (fun _ hd => absurd hd.2 (by decide)), ownsRow_wr h.refs k fun _ _ _ hd => absurd hd.2 (by decide), (row_set h.box 3 _).trans rfl, ownsRow_wr h.attrs k fun _ _ _ hd => absurd hd.2 (by decide), ownsRow_wr hu k fun _ _ _ hd => absurd hd.2 (by decide)⟩
theorem InAt.put2 {B : Nat} {w : World} {R X : Nat} {vL vO vA vF d2 d3 : Value} {ts : List Tok} {y : Resd} {q : RSt} {rf : List (IDd × Nat)} (h : InAt B w R X vL vO vA vF d2 d3 ts y q rf) {u : Value} {l : List Attrd} (hu : w.ownsRow B 129 4 u l.length (cellsA l)) : InAt B (w.setCell ⟨X, 2, none⟩ u) R X vL vO vA vF u d3 ts ⟨y.id, l, y.after⟩ q rf := by
  have k := (onX_wr (B := B) (R := R) h.box 2 u).2
  exact ⟨h.rdr.keep k (fun hd => absurd hd.2 (by decide)) (fun _ hd => absurd hd.2 (by decide)), ownsRow_wr h.refs k fun _ _ _ hd => absurd hd.2 (by decide), (row_set h.box 2 _).trans rfl, ownsRow_wr hu k fun _ _ _ hd => absurd hd.2 (by decide), ownsRow_wr h.after k fun _ _ _ hd => absurd hd.2 (by decide)⟩
open Classical in
/-- An attribute among others, as the walk has it. -/
theorem refAttrM {B : Nat} {v : Value} {l : List Attrd} (a : Attrd) {w : World} (h : w.ownsRow B 129 4 v l.length (cellsA l)) (hB : B ≤ w.heap.size) (hok : ∀ a ∈ l, okN a) (hf : l.length ≤ 100) (hup : UpG cmpS Attrd.name l) :
    Calls Tryz.prog 56 #[v, .agg #[.string a.name, .bool a.isText, .string a.text, .int .i64 a.number]] w fun e w' => ∃ (pa : Option Addr) (cap : Nat) (b : Bool), e = .returned (.tuple #[.slice pa (attM l a).length cap, .bool b]) ∧ Hid (b = true ↔ ¬ (∃ y ∈ l, y.name = a.name)) ∧ Hid (w'.ownsRow B 129 4 (.slice pa (attM l a).length cap) (attM l a).length (cellsA (attM l a))) ∧ Hid (Ext w w') := by
  refine (refAttr v l a w (attrsV_own h hok (by omega)) hf hup).mono ?_
  rintro e w' (⟨hex, rfl, hE⟩ | ⟨hno, u, rfl, hu, hE⟩)
  · obtain ⟨pa, cap, rfl⟩ := ownsRow_form h
    have hat : attM l a = l := by unfold attM; rw [if_pos hex]
    refine ⟨pa, cap, false, by rw [hat], ⟨fun hb => (by cases hb), fun hb => absurd hex hb⟩, ?_, hE⟩
    show World.ownsRow _ _ _ _ _ _ _
    rw [hat]
    exact ownsRow_wr h (Wr.ext (D := fun _ _ => False) hE) fun _ _ _ => id
  · have hat : attM l a = l.takeWhile (fun y => decide (cmpS y.name a.name < 0)) ++ a :: l.dropWhile (fun y => decide (cmpS y.name a.name < 0)) := by unfold attM; rw [if_neg hno]
    have hl : (attM l a).length = l.length + 1 := by
      rw [hat]
      have := congrArg List.length (List.takeWhile_append_dropWhile (p := fun y : Attrd => decide (cmpS y.name a.name < 0)) (l := l))
      simp only [List.length_append, List.length_cons] at this ⊢
      omega
    obtain ⟨pa, cap, rfl⟩ := ownsRow_form hu
    refine ⟨pa, cap, true, by rw [hl], ⟨fun _ => hno, fun _ => rfl⟩, ?_, hE⟩
    show World.ownsRow _ _ _ _ _ _ _
    rw [hl, hat]
    exact ownsRow_low' hu hB
/-- What the reading between the braces answers. -/
def InnIs (B : Nat) (w : World) (R X : Nat) (vL vO vA : Value) (ts : List Tok) (x : Resd) (s : RSt) (rf : List (IDd × Nat)) (e : Ending) (w' : World) : Prop :=
  ∃ (x' : Resd) (af : Bool) (s' : RSt) (rf' : List (IDd × Nat)) (c2 c3 vF : Value) (f : Nat), e = .returned (.tuple #[]) ∧ Hid (insM ts ts.length x false s rf = (x', af, s', rf')) ∧ Hid (RdrIn w' R vL vO vA vF ts s'.i s'.en s'.pl) ∧ Hid (w'.ownsRow B 55 3 vF rf'.length (rf'.flatMap cRf)) ∧ Hid (w'.heap[X]? = some (.cells #[.string x'.id.kind, .string x'.id.name, c2, c3] 74 (0, 0))) ∧ Hid (w'.ownsRow B 129 4 c2 x'.attrs.length (cellsA x'.attrs)) ∧ Hid (w'.ownsRow B 53 2 c3 x'.after.length (x'.after.flatMap cI)) ∧ Hid (Wr (ChgXr R B X) w w') ∧ Hid (InB ts s.i f x' s' rf')
end Go.Proofs.YtejhegnlmldomaaGreat
