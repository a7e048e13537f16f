/-
  The reference's reading and the program's, on plain lists: lines, resources and texts are the same.
-/
/-
  The reference: what the reading of a list of refs needs.
-/
import Derived.Test.YtejhegnlmldomaaGreatJ25
namespace Go.Proofs.YtejhegnlmldomaaGreat
open Go.RowKit

/-- What an entry is while it is read. -/
structure EInv (e : EntD) : Prop where
  up : UpG cmpS RowA.key e.attrs
  names : ∀ r ∈ e.attrs, r.val.name = r.key ∧ r.key ≠ wAfter
  none_ : e.hasAfter = false → e.after = []
theorem has_vals {l : List RowA} (h : ∀ r ∈ l, r.val.name = r.key ∧ r.key ≠ wAfter) (a : ByteArray) : (∃ y ∈ l.map RowA.val, y.name = a) ↔ HasK RowA.key l a := by
  constructor
  · rintro ⟨y, hy, rfl⟩
    obtain ⟨r, hr, rfl⟩ := List.mem_map.1 hy
    exact ⟨r, hr, (h r hr).1.symm⟩
  · rintro ⟨r, hr, rfl⟩
    exact ⟨r.val, List.mem_map.2 ⟨r, hr, rfl⟩, (h r hr).1⟩
theorem map_tw {α β : Type} (f : α → β) (p : β → Bool) (q : α → Bool) : ∀ (l : List α), (∀ x ∈ l, p (f x) = q x) → (l.map f).takeWhile p = (l.takeWhile q).map f ∧ (l.map f).dropWhile p = (l.dropWhile q).map f
  | [], _ => by simp
  | x :: l, h => by
    have h1 := h x List.mem_cons_self
    have ih := map_tw f p q l fun y hy => h y (List.mem_cons_of_mem _ hy)
    simp only [List.map_cons, List.takeWhile, List.dropWhile, h1]
    cases q x
    · simp
    · simp [ih.1, ih.2]
theorem att_same {l : List RowA} (h : ∀ r ∈ l, r.val.name = r.key ∧ r.key ≠ wAfter) {name : ByteArray} {a : Attrd} (ha : a.name = name) (hno : ¬ HasK RowA.key l name) : attM (l.map RowA.val) a = (insA l ⟨name, a⟩).map RowA.val := by
  subst ha
  unfold attM insA
  rw [if_neg (fun hh => hno ((has_vals h _).1 hh))]
  obtain ⟨h1, h2⟩ := map_tw RowA.val (fun y : Attrd => decide (cmpS y.name a.name < 0)) (fun r : RowA => decide (cmpS r.key a.name < 0)) l (fun x hx => by show decide (cmpS x.val.name a.name < 0) = decide (cmpS x.key a.name < 0); rw [(h x hx).1])
  rw [h1, h2]
  simp
theorem kind_same {ts : List Tok} (hK : ∀ t ∈ ts, TokK t) {i : Nat} (hi : i < ts.length) {k : Nat} (hk : k ≤ 3) : rKind ts i = k ↔ kindAt ts i = k := by
  obtain ⟨t, ht⟩ := TsEnd.there hi
  have htk := hK t (List.mem_of_getElem? ht)
  unfold rKind kindAt
  rw [ht]
  dsimp only
  rcases rTok_kind htk with ⟨h1, h2⟩ | ⟨h1, h2, h3⟩ | ⟨h1, h2⟩
  · rw [h2]
  · rw [h3]; omega
  · rw [h2]; omega
/-- A value is read alike. -/
theorem val_same {ts : List Tok} (hK : ∀ t ∈ ts, TokK t) {i : Nat} (hi : i < ts.length) (pl : Nat) {e : EntD} {name : ByteArray} (hE : EInv e) (hno : ¬ HasK RowA.key e.attrs name) (hna : name ≠ wAfter) :
    (∀ i' e', valueS ts i e name = .ok (i', e') → ∃ a, valM ts ⟨i, 0, pl⟩ name = (a, ⟨i', 0, pl⟩) ∧ attM (e.attrs.map RowA.val) a = e'.attrs.map RowA.val ∧ e' = { e with attrs := e'.attrs } ∧ EInv e') ∧
    (∀ x, valueS ts i e name = .error x → x.1 ≠ 0 ∧ (valM ts ⟨i, 0, pl⟩ name).2.en = x.1 ∧ (valM ts ⟨i, 0, pl⟩ name).2.pl = x.2) := by
  have hinv : ∀ a : Attrd, a.name = name → EInv { e with attrs := insA e.attrs ⟨name, a⟩ } := fun a ha => by
    refine ⟨UpG.ins (key := RowA.key) ordS ⟨name, a⟩ hE.up hno, fun r hr => ?_, hE.none_⟩
    rcases insA_mem.1 hr with rfl | hr
    · exact ⟨ha, hna⟩
    · exact hE.names r hr
  unfold valueS valM
  by_cases h3 : kindAt ts i = 3
  · rw [if_pos h3, if_pos ⟨rfl, (kind_same hK hi (by omega)).2 h3⟩]
    rcases next_word hK hi pl (k := 3) (by omega) with ⟨t, a1, a2, a3, a4, a5⟩ | ⟨p, a1, a2⟩
    · rw [a1, a2]
      dsimp only
      refine ⟨fun i' e' h => ?_, fun x h => (by cases h)⟩
      cases h
      have ha : (⟨name, decide (kindAt ts i = 3), t.text, t.value⟩ : Attrd) = ⟨name, true, t.text, 0⟩ := by rw [a5.2.2.1 a4]; simp [h3]
      rw [ha]
      exact ⟨_, rfl, att_same hE.names rfl hno, rfl, hinv _ rfl⟩
    · rw [a1, a2]
      refine ⟨fun i' e' h => (by cases h), fun x h => ?_⟩
      cases h
      exact ⟨by simp, rfl, rfl⟩
  · rw [if_neg h3, if_neg (fun h => h3 ((kind_same hK hi (by omega)).1 h.2))]
    rcases next_word hK hi pl (k := 2) (by omega) with ⟨t, a1, a2, a3, a4, a5⟩ | ⟨p, a1, a2⟩
    · rw [a1, a2]
      dsimp only
      refine ⟨fun i' e' h => ?_, fun x h => (by cases h)⟩
      cases h
      have ha : (⟨name, decide (kindAt ts i = 3), t.text, t.value⟩ : Attrd) = ⟨name, false, ⟨#[]⟩, t.value⟩ := by rw [a5.2.2.2 a4]; simp [h3]
      rw [ha]
      exact ⟨_, rfl, att_same hE.names rfl hno, rfl, hinv _ rfl⟩
    · rw [a1, a2]
      refine ⟨fun i' e' h => (by cases h), fun x h => ?_⟩
      cases h
      exact ⟨by simp, rfl, rfl⟩
theorem listM_bad {ts : List Tok} {s : RSt} (h : s.en ≠ 0) (rf : List (IDd × Nat)) : listM ts s rf = ([], s, rf) := by
  unfold listM
  rw [nextM_bad h]
  dsimp only
  rw [lstM_bad h]
  dsimp only
  rw [nextM_bad h]
theorem valM_bad {ts : List Tok} {s : RSt} (h : s.en ≠ 0) (name : ByteArray) : (valM ts s name).2 = s := by
  unfold valM
  rw [if_neg (fun hh => h hh.1), nextM_bad h]
/-- A line is read alike. -/
theorem line_same {ts : List Tok} (hK : ∀ t ∈ ts, TokK t) (he : TsEnd ts) {i : Nat} (hi : i < ts.length) (pl : Nat) {e : EntD} {rf : List (IDd × Nat)} (hE : EInv e) (h1 : kindAt ts i = 1) :
    (∀ i' e' rf', lineS ts i e rf = .ok (i', e', rf') → lnM ts (resOf e) e.hasAfter ⟨i, 0, pl⟩ rf = (resOf e', e'.hasAfter, ⟨i', 0, pl⟩, rf') ∧ EInv e' ∧ e'.place = e.place) ∧
    (∀ x, lineS ts i e rf = .error x → x.1 ≠ 0 ∧ (lnM ts (resOf e) e.hasAfter ⟨i, 0, pl⟩ rf).2.2.1.en = x.1 ∧ (lnM ts (resOf e) e.hasAfter ⟨i, 0, pl⟩ rf).2.2.1.pl = x.2) := by
  obtain ⟨t, ht⟩ := TsEnd.there hi
  have htk := hK t (List.mem_of_getElem? ht)
  have hk : t.kind = 1 := by rw [← kind_at ht]; exact h1
  have hi1 := he.next ht (by omega)
  unfold lineS lnM
  rw [take_ok ht hk, nextM_yes (s := ⟨i, 0, pl⟩) ht rfl ((fits_low htk (by omega)).2 hk), rTok_low (by omega)]
  dsimp only
  have hvals : (∃ y ∈ (resOf e).attrs, y.name = t.text) ↔ HasK RowA.key e.attrs t.text := has_vals hE.names t.text
  have hlen : (resOf e).attrs.length = e.attrs.length := by simp [resOf]
  by_cases ha : t.text = wAfter
  · have hnk : ¬ HasK RowA.key e.attrs t.text := fun ⟨r, hr, hk⟩ => (hE.names r hr).2 (hk.trans ha)
    rw [if_pos ha]
    by_cases hh : e.hasAfter = true
    · have hn8 : nameS e t.text = 8 := by unfold nameS; rw [if_neg (fun h => h.1 ha), if_pos (.inl ⟨ha, hh⟩)]
      rw [hn8, if_pos (by simp)]
      unfold onceM
      rw [if_pos hh, wrongM_good rfl, nextM_bad (by simp)]
      dsimp only
      rw [listM_bad (by simp)]
      refine ⟨fun _ _ _ h => (by cases h), fun x h => ?_⟩
      cases h
      exact ⟨by simp, rfl, rfl⟩
    · have hn0 : nameS e t.text = 0 := by unfold nameS; rw [if_neg (fun h => h.1 ha), if_neg (fun h => h.elim (fun h => hh h.2) hnk)]
      rw [hn0, if_neg (by simp)]
      unfold onceM
      rw [if_neg hh]
      rcases next_sign hK hi1 pl (k := 8) (by omega) (by omega) (c := 61) rfl with ⟨t1, b1, b2, b3, b4, -⟩ | ⟨p, b1, b2⟩
      · rw [b1, b2]
        dsimp only
        rw [if_pos ha]
        have hi2 := he.next b3 (by omega)
        have h0 : e.after = [] := hE.none_ (by cases hb : e.hasAfter with | false => rfl | true => exact absurd hb hh)
        obtain ⟨g1, g2⟩ := list_same hK he hi2 pl (e := { e with hasAfter := true }) (rf := rf) h0
        constructor
        · intro i' e' rf' h
          obtain ⟨c1, c2, c3⟩ := g1 i' e' rf' h
          rw [c1]
          dsimp only
          rw [c2]
          exact ⟨rfl, ⟨hE.up, hE.names, fun h => (by cases h)⟩, rfl⟩
        · intro x h
          obtain ⟨c1, c2, c3⟩ := g2 x h
          generalize listM ts ⟨i + 1 + 1, 0, pl⟩ rf = r at *
          obtain ⟨l, s2, rf2⟩ := r
          exact ⟨c1, c2, c3⟩
      · rw [b1, b2]
        dsimp only
        rw [listM_bad (by simp)]
        refine ⟨fun _ _ _ h => (by cases h), fun x h => ?_⟩
        cases h
        exact ⟨by simp, rfl, rfl⟩
  · rw [if_neg ha]
    by_cases h6 : e.attrs.length = 6
    · have hn7 : nameS e t.text = 7 := by unfold nameS; rw [if_pos ⟨ha, h6⟩]
      rw [hn7, if_pos (by simp), many_yes (by rw [hlen]; exact h6)]
      unfold freshM
      have : (if ∃ y ∈ (resOf e).attrs, y.name = t.text then wrongM ⟨i + 1, 7, t.place⟩ 8 t.place else ⟨i + 1, 7, t.place⟩) = (⟨i + 1, 7, t.place⟩ : RSt) := by
        split
        · exact wrongM_bad (by simp) _ _
        · rfl
      rw [this, nextM_bad (by simp)]
      dsimp only
      have hv := valM_bad (ts := ts) (s := ⟨i + 1, 7, t.place⟩) (by simp) t.text
      generalize valM ts ⟨i + 1, 7, t.place⟩ t.text = r at *
      obtain ⟨a, s3⟩ := r
      dsimp only at hv ⊢
      subst hv
      refine ⟨fun _ _ _ h => (by cases h), fun x h => ?_⟩
      cases h
      exact ⟨by simp, rfl, rfl⟩
    · rw [many_no (by rw [hlen]; exact h6)]
      by_cases hh : HasK RowA.key e.attrs t.text
      · have hn8 : nameS e t.text = 8 := by unfold nameS; rw [if_neg (fun h => h6 h.2), if_pos (.inr hh)]
        rw [hn8, if_pos (by simp)]
        unfold freshM
        rw [if_pos (hvals.2 hh), wrongM_good rfl, nextM_bad (by simp)]
        dsimp only
        have hv := valM_bad (ts := ts) (s := ⟨i + 1, 8, t.place⟩) (by simp) t.text
        generalize valM ts ⟨i + 1, 8, t.place⟩ t.text = r at *
        obtain ⟨a, s3⟩ := r
        dsimp only at hv ⊢
        subst hv
        refine ⟨fun _ _ _ h => (by cases h), fun x h => ?_⟩
        cases h
        exact ⟨by simp, rfl, rfl⟩
      · have hn0 : nameS e t.text = 0 := by unfold nameS; rw [if_neg (fun h => h6 h.2), if_neg (fun h => h.elim (fun h => ha h.1) hh)]
        rw [hn0, if_neg (by simp)]
        unfold freshM
        rw [if_neg (fun h => hh (hvals.1 h))]
        rcases next_sign hK hi1 pl (k := 8) (by omega) (by omega) (c := 61) rfl with ⟨t1, b1, b2, b3, b4, -⟩ | ⟨p, b1, b2⟩
        · rw [b1, b2]
          dsimp only
          rw [if_neg ha]
          have hi2 := he.next b3 (by omega)
          obtain ⟨g1, g2⟩ := val_same hK hi2 pl hE hh ha
          cases hv : valueS ts (i + 1 + 1) e t.text with
          | error x =>
            obtain ⟨c1, c2, c3⟩ := g2 x hv
            generalize valM ts ⟨i + 1 + 1, 0, pl⟩ t.text = r at *
            obtain ⟨a, s3⟩ := r
            refine ⟨fun _ _ _ h => (by cases h), fun x h => ?_⟩
            cases h
            exact ⟨c1, c2, c3⟩
          | ok r =>
            obtain ⟨i', e'⟩ := r
            obtain ⟨a, c1, c2, c3, c4⟩ := g1 i' e' hv
            rw [c1]
            dsimp only
            refine ⟨fun _ _ _ h => ?_, fun x h => (by cases h)⟩
            cases h
            refine ⟨?_, c4, by rw [c3]⟩
            have d1 : (resOf e).attrs = e.attrs.map RowA.val := rfl
            rw [d1, c2]
            rw [c3]
            rfl
        · rw [b1, b2]
          dsimp only
          have hv := valM_bad (ts := ts) (s := ⟨i + 1, 6, p⟩) (by simp) t.text
          generalize valM ts ⟨i + 1, 6, p⟩ t.text = r at *
          obtain ⟨a, s3⟩ := r
          dsimp only at hv ⊢
          subst hv
          refine ⟨fun _ _ _ h => (by cases h), fun x h => ?_⟩
          cases h
          exact ⟨by simp, rfl, rfl⟩
theorem insM_bad {ts : List Tok} {s : RSt} (h : s.en ≠ 0) (f : Nat) (x : Resd) (b : Bool) (rf : List (IDd × Nat)) : insM ts f x b s rf = (x, b, s, rf) := by
  cases f with
  | zero => rfl
  | succ f => unfold insM; rw [if_neg (fun hh => h hh.1)]
/-- Lines are read alike: where the program meets an error, the reference has it at the brace. -/
theorem lines_same {ts : List Tok} (hK : ∀ t ∈ ts, TokK t) (he : TsEnd ts) (pl : Nat) : ∀ (f : Nat) {i : Nat} {e : EntD} {rf : List (IDd × Nat)}, i < ts.length → ts.length ≤ f + i → EInv e →
    (∀ i' e' rf', linesS ts f i e rf = .ok (i', e', rf') → insM ts f (resOf e) e.hasAfter ⟨i, 0, pl⟩ rf = (resOf e', e'.hasAfter, ⟨i', 0, pl⟩, rf') ∧ EInv e' ∧ e'.place = e.place) ∧
    (∀ x, linesS ts f i e rf = .error x → x.1 ≠ 0 ∧ (nextM ts (insM ts f (resOf e) e.hasAfter ⟨i, 0, pl⟩ rf).2.2.1 4 ⟨#[125]⟩).2.en = x.1 ∧ (nextM ts (insM ts f (resOf e) e.hasAfter ⟨i, 0, pl⟩ rf).2.2.1 4 ⟨#[125]⟩).2.pl = x.2)
  | 0, i, e, rf, hi, hf, hE => by omega
  | f + 1, i, e, rf, hi, hf, hE => by
    unfold linesS insM
    by_cases h5 : kindAt ts i = 5
    · rw [if_pos h5, if_neg (fun h => by have := (kind_same hK hi (by omega)).1 h.2; omega)]
      refine ⟨fun _ _ _ h => ?_, fun x h => (by cases h)⟩
      cases h
      exact ⟨rfl, hE, rfl⟩
    · rw [if_neg h5]
      by_cases h1 : kindAt ts i = 1
      · rw [if_pos ⟨rfl, (kind_same hK hi (by omega)).2 h1⟩]
        obtain ⟨g1, g2⟩ := line_same hK he hi pl (rf := rf) hE h1
        cases hl : lineS ts i e rf with
        | error x =>
          obtain ⟨c1, c2, c3⟩ := g2 x hl
          generalize lnM ts (resOf e) e.hasAfter ⟨i, 0, pl⟩ rf = r at *
          obtain ⟨x1, b1, s1, rf1⟩ := r
          dsimp only at c2 c3 ⊢
          rw [insM_bad (by rw [c2]; exact c1)]
          dsimp only
          rw [nextM_bad (by rw [c2]; exact c1)]
          refine ⟨fun _ _ _ h => (by cases h), fun y h => ?_⟩
          cases h
          exact ⟨c1, c2, c3⟩
        | ok r =>
          obtain ⟨i1, e1, rf1⟩ := r
          obtain ⟨c1, c2, c0⟩ := g1 i1 e1 rf1 hl
          rw [c1]
          dsimp only
          have hin := lineS_in he hl
          have ih := lines_same hK he pl f (rf := rf1) hin.2.1 (by omega) c2
          exact ⟨fun i' e' rf' h => ⟨(ih.1 i' e' rf' h).1, (ih.1 i' e' rf' h).2.1, (ih.1 i' e' rf' h).2.2.trans c0⟩, ih.2⟩
      · rw [if_neg (fun h => h1 ((kind_same hK hi (by omega)).1 h.2))]
        obtain ⟨t, ht⟩ := TsEnd.there hi
        have hk1 : t.kind ≠ 1 := fun h => h1 (by rw [kind_at ht]; exact h)
        have hk5 : t.kind ≠ 5 := fun h => h5 (by rw [kind_at ht]; exact h)
        have hl : lineS ts i e rf = .error (6, t.place) := by unfold lineS; rw [take_no ht hk1]
        rw [hl]
        dsimp only
        rw [nextM_no (s := ⟨i, 0, pl⟩) (k := 4) (sg := ⟨#[125]⟩) ht rfl (fun h => hk5 ((fits_sign (k := 5) (hK t (List.mem_of_getElem? ht)) (by omega) (by omega)).1 h))]
        refine ⟨fun _ _ _ h => (by cases h), fun y h => ?_⟩
        cases h
        exact ⟨by simp, rfl, rfl⟩
end Go.Proofs.YtejhegnlmldomaaGreat

namespace Go.Proofs.YtejhegnlmldomaaGreat
open Go.RowKit

/-- What the reading of refs may turn: the reader's box, and rows of refs. -/
def ChgR (R B : Nat) (j : Nat) (t : TypeId) : Prop := (j = R ∧ t = 48) ∨ (B ≤ j ∧ t = 55)
theorem onR_chg {R B : Nat} {w w' : World} (h : Wr (OnR R) w w') : Wr (ChgR R B) w w' := h.mono fun _ _ _ hd => .inl hd
theorem own_cell {w : World} {B g cap : Nat} {e : TypeId} {size n : Nat} {xs : List Value} (h : w.ownsRow B e size (.slice (some ⟨g, 0, none⟩) n cap) n xs) {j : Nat} {u : Value} (hu : xs[j]? = some u) : w.cell? ⟨g, 0 + j, none⟩ = some u := by
  rcases h.2 with ⟨hv, _⟩ | ⟨g', cap', cur, hv, _, hg, hc, hm, hs, ht⟩
  · cases hv
  · cases hv
    rw [← ht, List.getElem?_take] at hu
    split at hu
    · rw [Nat.zero_add]; simp [World.cell?, hg, ← hu]
    · cases hu
theorem own_some {w : World} {B cap : Nat} {pa : Option Addr} {e : TypeId} {size n : Nat} {xs : List Value} (h : w.ownsRow B e size (.slice pa n cap) n xs) (hn : 0 < n) : ∃ g, pa = some ⟨g, 0, none⟩ ∧ n ≤ cap ∧ cap ≤ 9223372036854775807 ∧ B ≤ g := by
  rcases h.2 with ⟨_, h0⟩ | ⟨g', cap', cur, hv, hb, hg, hc, hm, hs, ht⟩
  · omega
  · cases hv
    exact ⟨g', rfl, hc, by unfold maxLen at hm; omega, hb⟩
theorem own_cap {w : World} {B cap : Nat} {pa : Option Addr} {e : TypeId} {size n : Nat} {xs : List Value} (h : w.ownsRow B e size (.slice pa n cap) n xs) : n ≤ cap ∧ cap ≤ 9223372036854775807 := by
  rcases h.2 with ⟨hv, h0⟩ | ⟨g', cap', cur, hv, hb, hg, hc, hm, hs, ht⟩
  · cases hv; omega
  · cases hv
    exact ⟨hc, by unfold maxLen at hm; omega⟩
theorem showsG {α : Type} {c : α → List Value} {n : Nat} (hc : ∀ x, (c x).length = n) {w : World} {B g cap : Nat} {e : TypeId} {l : List α} (h : w.ownsRow B e n (.slice (some ⟨g, 0, none⟩) l.length cap) l.length (l.flatMap c)) {k : Nat} (hk : k ≤ l.length) : Shows w (some ⟨g, 0, none⟩) k n ((l.take k).flatMap c) := by
  have hl : ((l.take k).flatMap c).length = k * n := by
    have := cellsG_len hc (l.take k)
    unfold cellsG at this
    rw [this, List.length_take, Nat.min_eq_left hk]
  refine ⟨hl, fun h => (by cases h), ?_⟩
  rintro ad hh j u hu
  cases hh
  rw [add_eq]
  refine own_cell h ?_
  have : l.flatMap c = (l.take k).flatMap c ++ (l.drop k).flatMap c := by rw [← List.flatMap_append, List.take_append_drop]
  rw [this, List.getElem?_append_left (List.getElem?_eq_some_iff.1 hu).1]
  exact hu
theorem showsGD {α : Type} {c : α → List Value} {n : Nat} (hc : ∀ x, (c x).length = n) {w : World} {B g cap : Nat} {e : TypeId} {l : List α} (h : w.ownsRow B e n (.slice (some ⟨g, 0, none⟩) l.length cap) l.length (l.flatMap c)) {k : Nat} (hk : k ≤ l.length) : Shows w (some ⟨g, k * n, none⟩) (l.length - k) n ((l.drop k).flatMap c) := by
  have hl : ((l.take k).flatMap c).length = k * n := by
    have := cellsG_len hc (l.take k)
    unfold cellsG at this
    rw [this, List.length_take, Nat.min_eq_left hk]
  have hl2 : ((l.drop k).flatMap c).length = (l.length - k) * n := by
    have := cellsG_len hc (l.drop k)
    unfold cellsG at this
    rw [this, List.length_drop]
  refine ⟨hl2, fun h => (by cases h), ?_⟩
  rintro ad hh j u hu
  cases hh
  rw [add_eq]
  have := own_cell h (j := k * n + j) (u := u) (by
    have : l.flatMap c = (l.take k).flatMap c ++ (l.drop k).flatMap c := by rw [← List.flatMap_append, List.take_append_drop]
    rw [this, List.getElem?_append_right (by omega), hl, show k * n + j - k * n = j by omega]
    exact hu)
  rw [Nat.zero_add] at this
  exact this
theorem infoRRef : (Tryz.prog.info? 55).map (fun i => (i.zero, i.size, i.bytes)) = some (some (.agg #[.string ⟨#[]⟩, .string ⟨#[]⟩, .int .i64 0]), 3, 40) := by kernel_rfl
theorem ids_cells {w : World} {B g cap : Nat} {l : List IDd} (h : w.ownsRow B 53 2 (.slice (some ⟨g, 0, none⟩) l.length cap) l.length (l.flatMap cI)) {k : Nat} {x : IDd} (hx : l[k]? = some x) : w.cell? ⟨g, k * 2, none⟩ = some (.string x.kind) ∧ w.cell? ⟨g, k * 2 + 1, none⟩ = some (.string x.name) := by
  have key : ∀ r, r < 2 → ∀ u, (cI x)[r]? = some u → w.cell? ⟨g, k * 2 + r, none⟩ = some u := by
    intro r hr u hu
    have h1 : (l.flatMap cI)[k * 2 + r]? = (cI x)[r]? := flat_get cI_len hx hr
    have := own_cell h (h1.trans hu)
    rwa [Nat.zero_add] at this
  exact ⟨key 0 (by omega) _ rfl, key 1 (by omega) _ rfl⟩
theorem cut_first {α : Type} (p : α → Bool) : ∀ (l : List α) (j : Nat), j ≤ l.length → (∀ (k : Nat) x, k < j → l[k]? = some x → p x = true) → (∀ x, l[j]? = some x → p x = false) → l.takeWhile p = l.take j ∧ l.dropWhile p = l.drop j
  | [], j, _, _, _ => by simp
  | x :: l, 0, _, _, h2 => by
    have := h2 x rfl
    simp [List.takeWhile, List.dropWhile, this]
  | x :: l, j + 1, hj, h1, h2 => by
    have hx := h1 0 x (by omega) rfl
    have := cut_first p l j (by simpa using hj) (fun k y hk hy => h1 (k + 1) y (by omega) (by simpa using hy)) (fun y hy => h2 y (by simpa using hy))
    simp [List.takeWhile, List.dropWhile, hx, this.1, this.2]
theorem insI_cut {l : List IDd} {a : IDd} {j : Nat} (hj : j ≤ l.length) (h1 : ∀ (k : Nat) y, k < j → l[k]? = some y → cmpI y a < 0) (h2 : ∀ y, l[j]? = some y → ¬ cmpI y a < 0) : insI l a = l.take j ++ a :: l.drop j ∧ headI l a = l[j]? := by
  obtain ⟨u1, u2⟩ := cut_first (fun y : IDd => decide (cmpI y a < 0)) l j hj (fun k y hk hy => by simpa using h1 k y hk hy) (fun y hy => by simpa using h2 y hy)
  unfold insI headI
  rw [u1, u2, List.head?_drop]
  exact ⟨rfl, rfl⟩
theorem RdrIn.refd {w w1 : World} {R B : Nat} {vL vO vA vF : Value} {ts : List Tok} {i : Nat} {en : Int} {pl : Nat} {rf : List (IDd × Nat)} (h : RdrIn w R vL vO vA vF ts i en pl) (k : Wrote B (· = 55) w w1) {g cap : Nat} {x : IDd × Nat} (hown : w1.ownsRow B 55 3 (.slice (some ⟨g, 0, none⟩) (rf.length + 1) cap) (rf.length + 1) (rf.flatMap cRf ++ cRf x)) :
    RdrIn (w1.setCell ⟨R, 6, none⟩ (.slice (some ⟨g, 0, none⟩) (rf.length + 1) cap)) R vL vO vA (.slice (some ⟨g, 0, none⟩) (rf.length + 1) cap) ts i en pl ∧ (w1.setCell ⟨R, 6, none⟩ (.slice (some ⟨g, 0, none⟩) (rf.length + 1) cap)).ownsRow B 55 3 (.slice (some ⟨g, 0, none⟩) (rf.length + 1) cap) (rf ++ [x]).length ((rf ++ [x]).flatMap cRf) ∧
    Wr (ChgR R B) w (w1.setCell ⟨R, 6, none⟩ (.slice (some ⟨g, 0, none⟩) (rf.length + 1) cap)) := by
  have W : Wr (ChgR R B) w (w1.setCell ⟨R, 6, none⟩ (.slice (some ⟨g, 0, none⟩) (rf.length + 1) cap)) := (Wr.wrote k (fun _ _ _ hb h => .inr ⟨hb, h⟩)).setOld (p := ⟨R, 6, none⟩) h.box (.inl ⟨rfl, rfl⟩) _
  have hb := Wrote.keeps k h.box (by decide)
  have hl : (rf ++ [x]).length = rf.length + 1 := by simp
  refine ⟨⟨(row_set hb 6 _).trans rfl, ownsRow_wr h.toks W fun _ _ _ hd => hd.elim (fun h => absurd h.2 (by decide)) (fun h => absurd h.2 (by decide))⟩, ?_, W⟩
  rw [hl, show (rf ++ [x]).flatMap cRf = rf.flatMap cRf ++ cRf x by simp]
  exact ownsRow_set hown hb (by decide) _
theorem chgR_id {R B j : Nat} : ¬ ChgR R B j 53 := by
  rintro (⟨_, h⟩ | ⟨_, h⟩) <;> exact absurd h (by decide)
theorem chgR_tok {R B j : Nat} : ¬ ChgR R B j 50 := by
  rintro (⟨_, h⟩ | ⟨_, h⟩) <;> exact absurd h (by decide)
theorem nextM_tok {ts : List Tok} (hok : ∀ t ∈ ts, TokOk t) {s : RSt} {k : Nat} {sg : ByteArray} {tk : Tok} {s' : RSt} (h : nextM ts s k sg = (tk, s')) : TokOk tk := by
  unfold nextM at h
  split at h
  · cases h; exact ⟨by show (⟨#[]⟩ : ByteArray).size ≤ 20; decide, by show (-1000000000 : Int) ≤ 0; decide, by show (0 : Int) ≤ 1000000000; decide⟩
  · rename_i t ht
    split at h
    · cases h
      unfold rTok
      split
      · exact hok t (List.mem_of_getElem? ht)
      · split
        · exact ⟨by show (⟨#[]⟩ : ByteArray).size ≤ 20; decide, by show (-1000000000 : Int) ≤ 0; decide, by show (0 : Int) ≤ 1000000000; decide⟩
        · exact ⟨by show (baOf _).size ≤ 20; rw [baOf_size]; simp, by show (-1000000000 : Int) ≤ 0; decide, by show (0 : Int) ≤ 1000000000; decide⟩
    · cases h; exact ⟨by show (⟨#[]⟩ : ByteArray).size ≤ 20; decide, by show (-1000000000 : Int) ≤ 0; decide, by show (0 : Int) ≤ 1000000000; decide⟩
theorem many_at (n p : Nat) (s : RSt) : (manyM n p s).i = s.i := by unfold manyM; split <;> rfl
theorem twice_at (l : List IDd) (a : IDd) (p : Nat) (s : RSt) : (twiceM l a p s).i = s.i := by unfold twiceM; split <;> rfl
theorem wrong_zero {s : RSt} {e : Int} {p : Nat} (he : e ≠ 0) : (wrongM s e p).en ≠ 0 := by
  by_cases h : s.en = 0
  · rw [wrongM_good h]; exact he
  · rw [wrongM_bad h]; exact h
theorem many_zero {n p : Nat} {s : RSt} (h : (manyM n p s).en = 0) : n ≠ 6 ∧ s.en = 0 := by
  unfold manyM at h
  split at h
  · exact absurd h (wrong_zero (by decide))
  · rename_i h6; exact ⟨h6, h⟩
theorem twice_zero {l : List IDd} {a : IDd} {p : Nat} {s : RSt} (h : (twiceM l a p s).en = 0) : s.en = 0 := by
  unfold twiceM at h
  split at h
  · exact absurd h (wrong_zero (by decide))
  · exact h
/-- The reader behind a comma, or not. -/
def pastM (b : Bool) (s : RSt) : RSt := ⟨cond b (s.i + 1) s.i, s.en, s.pl⟩
theorem lst_round {ts : List Tok} (he : TsEnd ts) (hok : ∀ t ∈ ts, TokOk t) {i0 f : Nat} {l : List IDd} {q s3 s4 s5 s8 s9 : RSt} {rf : List (IDd × Nat)} {k dt n : Tok} {mb : Bool} (hz : q.en = 0) (hm3 : nextM ts q 1 ⟨#[]⟩ = (k, s3)) (hm4 : nextM ts s3 4 ⟨#[46]⟩ = (dt, s4)) (hm5 : nextM ts s4 1 ⟨#[]⟩ = (n, s5)) (hy : s5.en = 0) (hS8 : manyM l.length k.place s5 = s8) (hS9 : twiceM l ⟨k.text, n.text⟩ k.place s8 = s9) (hmb : seesM ts s9 ⟨#[44]⟩ = mb)
    (hbd : q.i < ts.length ∧ i0 ≤ q.i ∧ (q.en = 0 → ts.length ≤ f + q.i) ∧ l.length ≤ 7 ∧ (q.en = 0 → l.length ≤ 6) ∧ rf.length ≤ q.i ∧ (∀ a ∈ l, shI a)) :
    ∃ f', lstM ts f l true q rf = lstM ts f' (insI l ⟨k.text, n.text⟩) mb (pastM mb s9) (rf ++ [(⟨k.text, n.text⟩, k.place)]) ∧ ((pastM mb s9).i < ts.length ∧ i0 ≤ (pastM mb s9).i ∧ ((pastM mb s9).en = 0 → ts.length ≤ f' + (pastM mb s9).i) ∧ (insI l ⟨k.text, n.text⟩).length ≤ 7 ∧ ((pastM mb s9).en = 0 → (insI l ⟨k.text, n.text⟩).length ≤ 6) ∧ (rf ++ [((⟨k.text, n.text⟩ : IDd), k.place)]).length ≤ (pastM mb s9).i ∧ (∀ a ∈ insI l ⟨k.text, n.text⟩, shI a)) ∧ leftM (pastM mb s9) ts.length < leftM q ts.length ∧ s9.i < ts.length ∧ (mb = true → s9.i + 1 < ts.length) := by
  obtain ⟨b1, b2, b3, b4, b5, b6, b7⟩ := hbd
  obtain ⟨a1, a2, a3⟩ := nextM_in he b1 (by decide) _ hm3
  obtain ⟨c1, c2, c3⟩ := nextM_in he a1 (by decide) _ hm4
  obtain ⟨d1, d2, d3⟩ := nextM_in he c1 (by decide) _ hm5
  obtain ⟨e1, e2⟩ := d3 hy
  obtain ⟨e3, e4⟩ := c3 e1
  obtain ⟨e5, e6⟩ := a3 e3
  have hi9 : s9.i = q.i + 3 := by rw [← hS9, twice_at, ← hS8, many_at]; omega
  have hi9' : s9.i < ts.length := by rw [← hS9, twice_at, ← hS8, many_at]; exact d1
  obtain ⟨f', rfl⟩ : ∃ f', f = f' + 1 := ⟨f - 1, by have := b3 hz; omega⟩
  have hmt : mb = true → s9.i + 1 < ts.length := fun h => (seesM_in he hi9' (hmb.trans h)).1
  have hpi : s9.i ≤ (pastM mb s9).i := by cases mb <;> simp [pastM]
  have hpl : (pastM mb s9).i < ts.length := by
    cases mb
    · exact hi9'
    · exact hmt rfl
  refine ⟨f', ?_, ⟨hpl, by omega, fun _ => by have := b3 hz; omega, by rw [insI_len]; have := b5 hz; omega, fun h0 => ?_, by rw [List.length_append, List.length_singleton]; omega, fun a ha => ?_⟩, ?_, hi9', hmt⟩
  · conv => lhs; unfold lstM
    rw [if_pos ⟨rfl, hz⟩]
    unfold idM
    rw [hm3]
    dsimp only
    rw [hm4]
    dsimp only
    rw [hm5]
    dsimp only
    rw [if_neg (fun h => h hy), hS8, hS9]
    unfold moreM
    rw [hmb]
    cases mb <;> rfl
  · have h9 : s9.en = 0 := h0
    rw [← hS9] at h9
    have h8 := twice_zero h9
    rw [← hS8] at h8
    have := (many_zero h8).1
    have := b5 hz
    rw [insI_len]; omega
  · rcases insI_mem.1 ha with rfl | ha
    · have g1 := nextM_tok hok hm3
      have g3 := nextM_tok hok hm5
      exact ⟨by have := g1.1; show k.text.size ≤ 255; omega, by have := g3.1; show n.text.size ≤ 255; omega⟩
    · exact b7 a ha
  · unfold leftM
    rw [if_pos hz]
    split <;> omega
/-- What the reading of a list answers. -/
def ListIs (B : Nat) (w : World) (R : Nat) (vL vO vA : Value) (ts : List Tok) (s : RSt) (rf : List (IDd × Nat)) (e : Ending) (w' : World) : Prop :=
  ∃ (l : List IDd) (s' : RSt) (rf' : List (IDd × Nat)) (pa : Option Addr) (cap : Nat) (vF : Value), e = .returned (.slice pa l.length cap) ∧ Hid (listM ts s rf = (l, s', rf')) ∧ Hid (RdrIn w' R vL vO vA vF ts s'.i s'.en s'.pl) ∧ Hid (w'.ownsRow B 55 3 vF rf'.length (rf'.flatMap cRf)) ∧ Hid (w'.ownsRow w.heap.size 53 2 (.slice pa l.length cap) l.length (l.flatMap cI)) ∧ Hid (Wr (ChgR R B) w w') ∧ Hid (s'.i < ts.length ∧ s.i ≤ s'.i ∧ l.length ≤ 7 ∧ (s'.en = 0 → l.length ≤ 6) ∧ rf'.length ≤ s'.i ∧ (∀ a ∈ l, shI a))

end Go.Proofs.YtejhegnlmldomaaGreat
