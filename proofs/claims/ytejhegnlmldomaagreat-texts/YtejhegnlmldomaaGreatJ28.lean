/-
  What the reference's Parse answers on plain lists is what the program's answers.
-/
/-
  The reference: what the reading of a resource needs.
-/
import Derived.Test.YtejhegnlmldomaaGreatJ27
import Derived.Test.YtejhegnlmldomaaGreatRefFind
import Derived.Test.YtejhegnlmldomaaGreatJ9
namespace Go.Proofs.YtejhegnlmldomaaGreat
open Go.RowKit

theorem tok_k {l : List UInt8} {a : Nat} {c : UInt8} {t : Tok} {b : Nat} (h : tokL l a c = .inl (t, b)) : (t.kind = 3 → t.value = 0) ∧ (t.kind = 2 → t.text = ⟨#[]⟩) := by
  unfold tokL at h
  split at h
  · split at h
    · simp only [Sum.inl.injEq, Prod.mk.injEq] at h
      obtain ⟨rfl, -⟩ := h
      exact ⟨fun _ => rfl, fun h => absurd h (by decide : ¬ (1 : Nat) = 2)⟩
    · cases h
  · split at h
    · generalize (if c = 45 then a + 1 else a) = k at h
      split at h
      · simp only [Sum.inl.injEq, Prod.mk.injEq] at h
        obtain ⟨rfl, -⟩ := h
        exact ⟨fun h => absurd h (by decide : ¬ (2 : Nat) = 3), fun _ => rfl⟩
      · cases h
    · split at h
      · split at h
        · cases h
        · split at h
          · simp only [Sum.inl.injEq, Prod.mk.injEq] at h
            obtain ⟨rfl, -⟩ := h
            exact ⟨fun _ => rfl, fun h => absurd h (by decide : ¬ (3 : Nat) = 2)⟩
          · cases h
      · split at h
        · cases h
        · simp only [Sum.inl.injEq, Prod.mk.injEq] at h
          obtain ⟨rfl, -⟩ := h
          exact ⟨fun _ => rfl, fun _ => rfl⟩
theorem cutF_k (l : List UInt8) : ∀ (f a : Nat), a ≤ l.length → (cutF l f a).2.1 = 0 → ∀ t ∈ (cutF l f a).1, TokK t
  | 0, a, h1, h0 => by
    intro t ht
    simp [cutF] at ht
  | f + 1, a, h1, h0 => by
    have hsk := skip_le h1
    simp only [cutF] at h0 ⊢
    cases hc : l[skipL l a]? with
    | none =>
      dsimp only
      intro t ht
      simp at ht
      subst ht
      exact ⟨by show 1 ≤ 11; decide, by show 11 ≤ 11; decide, fun h => absurd h (by show ¬ (11 : Nat) = 3; decide), fun h => absurd h (by show ¬ (11 : Nat) = 2; decide)⟩
    | some c =>
      rw [hc] at h0
      dsimp only at h0 ⊢
      cases ht : tokL l (skipL l a) c with
      | inr e =>
        rw [ht] at h0
        exact absurd h0 (tok_bad ht)
      | inl r =>
        obtain ⟨t, b⟩ := r
        rw [ht] at h0
        dsimp only at h0 ⊢
        obtain ⟨_, g1, g2, g3, g4⟩ := tok_at hc ht
        by_cases hz : (cutF l f b).2.1 = 0
        · rw [if_pos hz]
          dsimp only
          intro x hx
          rcases List.mem_cons.1 hx with rfl | hx
          · exact ⟨g3, by omega, (tok_k ht).1, (tok_k ht).2⟩
          · exact cutF_k l f b (by omega) hz x hx
        · rw [if_neg hz] at h0
          exact absurd h0 hz
theorem nonesM_snoc (out : List Resd) : ∀ (rf : List (IDd × Nat)) (r : IDd × Nat) (s : RSt), nonesM out (rf ++ [r]) s = nonesM out [r] (nonesM out rf s)
  | [], r, s => rfl
  | x :: rf, r, s => by
    simp only [List.cons_append]
    unfold nonesM
    exact nonesM_snoc out rf r _
theorem nonesM_take (out : List Resd) {rf : List (IDd × Nat)} {j : Nat} {r : IDd × Nat} (h : rf[j]? = some r) (s : RSt) : nonesM out (rf.take (j + 1)) s = nonesM out [r] (nonesM out (rf.take j) s) := by
  rw [List.take_add_one, h]; exact nonesM_snoc out _ r s
theorem circsM_snoc : ∀ (q : List Bool) (ats : List Nat) (b : Bool) (p : Nat) (s : RSt), q.length = ats.length → circsM (q ++ [b]) (ats ++ [p]) s = if b = true then wrongM (circsM q ats s) 10 p else circsM q ats s
  | [], [], b, p, s, _ => by simp [circsM]
  | [], _ :: _, _, _, _, h => by simp at h
  | _ :: _, [], _, _, _, h => by simp at h
  | b' :: q, p' :: ats, b, p, s, h => by
    simp only [List.cons_append, circsM]
    exact circsM_snoc q ats b p _ (by simpa using h)
theorem circsM_take {q : List Bool} {ats : List Nat} {j : Nat} {b : Bool} {p : Nat} (hq : q[j]? = some b) (ha : ats[j]? = some p) (s : RSt) : circsM (q.take (j + 1)) (ats.take (j + 1)) s = if b = true then wrongM (circsM (q.take j) (ats.take j) s) 10 p else circsM (q.take j) (ats.take j) s := by
  have h1 := (List.getElem?_eq_some_iff.1 hq).1
  have h2 := (List.getElem?_eq_some_iff.1 ha).1
  rw [List.take_add_one, List.take_add_one, hq, ha]
  exact circsM_snoc _ _ b p s (by rw [List.length_take, List.length_take]; omega)
theorem place_neg (l : List Resd) (a : IDd) : placeI l a < 0 ↔ a ∉ l.map Resd.id := by
  by_cases h : ∃ (i : Nat) (y : Resd), l[i]? = some y ∧ hitI y a = true
  · obtain ⟨i, y, hy, hh⟩ := h
    have hya : y.id = a := by
      have := of_decide_eq_true hh
      cases hq : y.id; cases a; rw [hq] at this; dsimp only at this; rw [this.1, this.2]
    have hm : a ∈ l.map Resd.id := List.mem_map.2 ⟨y, List.mem_of_getElem? hy, hya⟩
    have hp : ¬ placeI l a < 0 := by
      unfold placeI
      cases hpl : placeL l a with
      | some j => simp
      | none =>
        have := List.findIdx?_eq_none_iff.1 hpl y (List.mem_of_getElem? hy)
        unfold hitI at hh
        rw [this] at hh
        cases hh
    exact ⟨fun h => absurd h hp, fun h => absurd hm h⟩
  · have hno : ∀ (i : Nat) y, l[i]? = some y → hitI y a = false := fun i y hy => by
      cases hb : hitI y a with
      | false => rfl
      | true => exact absurd ⟨i, y, hy, hb⟩ h
    rw [place_no hno]
    refine ⟨fun _ hm => ?_, fun _ => by decide⟩
    obtain ⟨y, hy, rfl⟩ := List.mem_map.1 hm
    obtain ⟨i, hi⟩ := List.mem_iff_getElem?.1 hy
    have := hno i y hi
    unfold hitI at this
    simp at this
theorem parse_same {l : List UInt8} (hl : ¬ 2000 < l.length) (hc : (cutL l).2.1 = 0) {q : RSt} {g : Got} (ht : txtM (cutL l).1 (cutL l).1.length ⟨0, 0, 0⟩ ⟨[], [], []⟩ = (q, g)) {qb : List Bool} (hq : qb.length = g.out.length) (hqc : ∀ i : Nat, i < g.out.length → (qb[i]? = some true ↔ Circ g.out i)) {s2 : RSt} (hs : circsM qb g.ats (nonesM g.out g.rf q) = s2) :
    (s2.en ≠ 0 → parseS l = ([], (s2.en, s2.pl))) ∧ (s2.en = 0 → parseS l = (srtM g.out, (0, 0))) := by
  classical
  have hcl : TsEnd (cutL l).1 ∧ (∀ t ∈ (cutL l).1, TokOk t) ∧ (cutL l).1.length ≤ l.length + 1 - 0 := cutF_is l (l.length + 1) 0 (Nat.zero_le _) (by omega) hc
  have hK : ∀ t ∈ (cutL l).1, TokK t := cutF_k l (l.length + 1) 0 (Nat.zero_le _) hc
  have hst : parseS l = match textS (cutL l).1 (cutL l).1.length 0 [] [] with
      | .error f => ([], f)
      | .ok (es, rf) => if (refsF es rf).1 ≠ 0 then ([], refsF es rf)
        else if (circF ((srtN es).map resOf) es).1 ≠ 0 then ([], circF ((srtN es).map resOf) es)
        else ((srtN es).map resOf, (0, 0)) := by
    unfold parseS; rw [if_neg hl, if_neg (fun h => h hc)]; rfl
  obtain ⟨he, -, -⟩ := hcl
  generalize (cutL l).1 = ts at *
  obtain ⟨g1, g2⟩ := text_same hK he 0 ts.length (i := 0) (es := []) (rf := []) he.some_ (by omega) (by simp)
  have hg0 : gotOf [] [] = ⟨[], [], []⟩ := rfl
  rw [hg0, ht] at g2
  cases hx : textS ts ts.length 0 [] [] with
  | error x =>
    obtain ⟨a1, a2, a3⟩ := g2 x hx
    dsimp only at a2 a3
    have hqn : q.en ≠ 0 := by rw [a2]; exact a1
    rw [nonesM_bad _ _ hqn, circsM_bad _ _ hqn] at hs
    subst hs
    rw [hst, hx]
    dsimp only
    exact ⟨fun _ => by rw [a2, a3], fun h => absurd h hqn⟩
  | ok r =>
    obtain ⟨es, rf⟩ := r
    obtain ⟨⟨i', h1⟩, hd⟩ := g1 es rf hx
    rw [hg0, ht] at h1
    cases h1
    rw [hst, hx]
    dsimp only
    have hout : (gotOf es rf).out = es.map resOf := rfl
    have hats : (gotOf es rf).ats = es.map EntD.place := rfl
    have hrf : (gotOf es rf).rf = rf := rfl
    rw [hout] at hq hqc hs ⊢
    rw [hats, hrf] at hs
    have hn := nones_same es i' 0 rf
    by_cases hz : (refsF es rf).1 ≠ 0
    · rw [if_pos hz] at hn ⊢
      rw [hn, circsM_bad _ _ (by exact hz)] at hs
      subst hs
      exact ⟨fun _ => rfl, fun h => absurd h hz⟩
    · rw [if_neg hz] at hn ⊢
      rw [hn] at hs
      have hap : Apart (es.map resOf) := apart_of (by rw [ids_of]; exact hd)
      have hap2 : Apart ((srtN es).map resOf) := apart_of (by
        rw [ids_of]
        exact ((srtN_perm es).map EntD.id).nodup_iff.2 hd)
      have hm : ∀ y, y ∈ es.map resOf ↔ y ∈ (srtN es).map resOf := fun y => ((srtN_perm es).map resOf).mem_iff.symm
      have hcs := circs_same ((srtN es).map resOf) i' 0 es qb (by rw [hq, List.length_map]) (fun j e hj => by
        have hjr : (es.map resOf)[j]? = some (resOf e) := by rw [List.getElem?_map, hj]; rfl
        have hlt := (List.getElem?_eq_some_iff.1 hjr).1
        rw [hqc j hlt, ← circ_iff hap hjr]
        exact circ_mem hap hap2 hm e.id)
      by_cases hy : (circF ((srtN es).map resOf) es).1 ≠ 0
      · rw [if_pos hy] at hcs ⊢
        rw [hcs] at hs
        subst hs
        exact ⟨fun _ => rfl, fun h => absurd h hy⟩
      · rw [if_neg hy] at hcs ⊢
        rw [hcs] at hs
        subst hs
        exact ⟨fun h => absurd rfl h, fun _ => by rw [srt_same]⟩
end Go.Proofs.YtejhegnlmldomaaGreat

namespace Go.Proofs.YtejhegnlmldomaaGreat
open Go.RowKit

def cN (p : Nat) : List Value := [.int .i64 p]
theorem cN_len (p : Nat) : (cN p).length = 1 := rfl
theorem cN_one {p : Nat} : ∀ u ∈ cN p, u.oneCell' = true := by
  intro u hu
  simp [cN] at hu
  subst hu; rfl
/-- What the reading of a resource may turn. -/
def ChgG (R B : Nat) (j : Nat) (t : TypeId) : Prop := ChgR R B j t ∨ (B ≤ j ∧ (t = 74 ∨ t = 3))
theorem chgG_of {R B : Nat} {w w' : World} (h : Wr (ChgR R B) w w') : Wr (ChgG R B) w w' := h.mono fun _ _ _ hd => .inl hd
theorem onR_chgG {R B : Nat} {w w' : World} (h : Wr (OnR R) w w') : Wr (ChgG R B) w w' := chgG_of (onR_chg h)
theorem chgX_new {R B X : Nat} {w5 w6 w7 : World} (hE : Ext w5 w6) (k : Wr (ChgXr R B X) w6 w7) (hX : w5.heap.size ≤ X) : Wr (ChgR R B) w5 w7 :=
  ⟨k.os.trans (Below.os hE), k.tape.trans (Below.tape hE), k.output.trans (Below.output hE), Nat.le_trans (Ext.size hE) k.size, fun j hj hn => by
    have h1 := Below.block hE j hj
    rw [k.heap j (Nat.lt_of_lt_of_le hj (Ext.size hE)) (fun c t fz hc hd => by
      rcases hd with hd | ⟨rfl, _⟩
      · exact hn c t fz (by rw [← h1]; exact hc) hd
      · omega)]
    exact h1⟩
/-- The reader with all that was read. -/
structure GotAt (B : Nat) (w : World) (R : Nat) (vL vO vA vF : Value) (ts : List Tok) (q : RSt) (g : Got) (ps : List ResP) : Prop where
  rdr : RdrIn w R vL vO vA vF ts q.i q.en q.pl
  out : w.ownsRow B 74 4 vO ps.length (cellsP ps)
  each : ∀ p ∈ ps, OwnR B w p.c2 p.c3 p.x ∧ okS p.x
  xs : ps.map ResP.x = g.out
  ats : w.ownsRow B 3 1 vA g.ats.length (g.ats.flatMap cN)
  refs : w.ownsRow B 55 3 vF g.rf.length (g.rf.flatMap cRf)
theorem OwnR.wr {D : Nat → TypeId → Prop} {B : Nat} {w w' : World} {c2 c3 : Value} {x : Resd} (h : OwnR B w c2 c3 x) (k : Wr D w w') (h2 : ∀ g, ¬ D g 129) (h3 : ∀ g, ¬ D g 53) : OwnR B w' c2 c3 x :=
  ⟨h.f2, h.f3, ownsRow_wr h.attrs k fun g _ _ => h2 g, ownsRow_wr h.after k fun g _ _ => h3 g⟩
theorem GotAt.ext {B : Nat} {w w' : World} {R : Nat} {vL vO vA vF : Value} {ts : List Tok} {q : RSt} {g : Got} {ps : List ResP} (h : GotAt B w R vL vO vA vF ts q g ps) (x : Ext w w') : GotAt B w' R vL vO vA vF ts q g ps :=
  have k : Wr (fun _ _ => False) w w' := Wr.ext x
  ⟨h.rdr.ext x, ownsRow_wr h.out k fun _ _ _ => id, fun p hp => ⟨(h.each p hp).1.wr k (fun _ => id) (fun _ => id), (h.each p hp).2⟩, h.xs, ownsRow_wr h.ats k fun _ _ _ => id, ownsRow_wr h.refs k fun _ _ _ => id⟩
theorem GotAt.onR {B : Nat} {w w' : World} {R : Nat} {vL vO vA vF : Value} {ts : List Tok} {q q' : RSt} {g : Got} {ps : List ResP} (h : GotAt B w R vL vO vA vF ts q g ps) (hr : RdrIn w' R vL vO vA vF ts q'.i q'.en q'.pl) (k : Wr (OnR R) w w') : GotAt B w' R vL vO vA vF ts q' g ps :=
  ⟨hr, ownsRow_wr h.out k fun _ _ _ hd => absurd hd.2 (by decide), fun p hp => ⟨(h.each p hp).1.wr k (fun _ hd => absurd hd.2 (by decide)) (fun _ hd => absurd hd.2 (by decide)), (h.each p hp).2⟩, h.xs, ownsRow_wr h.ats k fun _ _ _ hd => absurd hd.2 (by decide), ownsRow_wr h.refs k fun _ _ _ hd => absurd hd.2 (by decide)⟩
theorem chgR_no {R B j : Nat} {t : TypeId} (h1 : t ≠ 48) (h2 : t ≠ 55) : ¬ ChgR R B j t := fun hd => hd.elim (fun h => h1 h.2) (fun h => h2 h.2)
theorem ressV_of {B : Nat} {w : World} {v : Value} {ps : List ResP} (hr : w.ownsRow B 74 4 v ps.length (cellsP ps)) (he : ∀ p ∈ ps, OwnR B w p.c2 p.c3 p.x ∧ okS p.x) (hn : ps.length ≤ 1000) : RessV w v (ps.map ResP.x) := by
  have hl : (ps.map ResP.x).length = ps.length := List.length_map ..
  refine ⟨?_, by rw [hl]; omega⟩
  rcases hr.2 with ⟨rfl, h0⟩ | ⟨g, cap, cur, rfl, _, hg, hc, hm, hs, ht⟩
  · have : ps = [] := List.eq_nil_of_length_eq_zero h0
    subst this
    exact ⟨none, 0, rfl, Nat.le_refl _, by decide, .inl rfl⟩
  · refine ⟨some ⟨g, 0, none⟩, cap, by rw [hl], by rw [hl]; exact hc, by unfold maxLen at hm; omega, .inr ⟨g, 0, rfl, ?_⟩⟩
    intro i x hx
    rw [List.getElem?_map] at hx
    obtain ⟨p, hp, rfl⟩ := Option.map_eq_some_iff.1 hx
    have hlt : i < ps.length := (List.getElem?_eq_some_iff.1 hp).1
    have key : ∀ r, r < 4 → w.cell? ⟨g, 0 + i * 4 + r, none⟩ = (cRs p)[r]? := by
      intro r hr
      have h1 : (cellsP ps)[i * 4 + r]? = (cRs p)[r]? := flat_get cRs_len hp hr
      rw [← h1, ← ht, List.getElem?_take, if_pos (by omega), Nat.zero_add]
      simp [World.cell?, hg]
    obtain ⟨ho, hok⟩ := he p (List.mem_of_getElem? hp)
    exact ⟨key 0 (by omega), key 1 (by omega), p.c2, p.c3, key 2 (by omega), key 3 (by omega), ho.resV hok⟩
theorem ress_cells {w : World} {B g cap : Nat} {ps : List ResP} (h : w.ownsRow B 74 4 (.slice (some ⟨g, 0, none⟩) ps.length cap) ps.length (cellsP ps)) {k : Nat} {p : ResP} (hx : ps[k]? = some p) : w.cell? ⟨g, k * 4, none⟩ = some (.string p.x.id.kind) ∧ w.cell? ⟨g, k * 4 + 1, none⟩ = some (.string p.x.id.name) ∧ w.cell? ⟨g, k * 4 + 2, none⟩ = some p.c2 ∧ w.cell? ⟨g, k * 4 + 3, none⟩ = some p.c3 := by
  have key : ∀ r, r < 4 → ∀ u, (cRs p)[r]? = some u → w.cell? ⟨g, k * 4 + r, none⟩ = some u := by
    intro r hr u hu
    have h1 : (cellsP ps)[k * 4 + r]? = (cRs p)[r]? := flat_get cRs_len hx hr
    have := own_cell h (h1.trans hu)
    rwa [Nat.zero_add] at this
  exact ⟨key 0 (by omega) _ rfl, key 1 (by omega) _ rfl, key 2 (by omega) _ rfl, key 3 (by omega) _ rfl⟩
theorem again_at (l : List Resd) (a : IDd) (p : Nat) (s : RSt) : (againM l a p s).i = s.i := by unfold againM; split <;> rfl
theorem full_at (n p : Nat) (s : RSt) : (fullM n p s).i = s.i := by unfold fullM; split <;> rfl
theorem full_zero {n p : Nat} {s : RSt} (h : (fullM n p s).en = 0) : n ≠ 12 ∧ s.en = 0 := by
  unfold fullM at h
  split at h
  · exact absurd h (wrong_zero (by decide))
  · rename_i h6; exact ⟨h6, h⟩
theorem again_zero {l : List Resd} {a : IDd} {p : Nat} {s : RSt} (h : (againM l a p s).en = 0) : s.en = 0 := by
  unfold againM at h
  split at h
  · exact absurd h (wrong_zero (by decide))
  · exact h
open Classical in
theorem again_step {l : List Resd} {a : IDd} {p : Nat} {s : RSt} {j : Nat} {x : Resd} (hx : l[j]? = some x) : againM (l.take (j + 1)) a p s = if x.id = a then wrongM (againM (l.take j) a p s) 8 p else againM (l.take j) a p s := by
  have h1 : l.take (j + 1) = l.take j ++ [x] := by
    rw [List.take_add_one, hx]; rfl
  have hm : a ∈ (l.take (j + 1)).map Resd.id ↔ a ∈ (l.take j).map Resd.id ∨ a = x.id := by rw [h1]; simp
  unfold againM
  by_cases h : a ∈ (l.take j).map Resd.id
  · rw [if_pos h, if_pos (hm.2 (.inl h))]
    split
    · rw [wrongM_bad (wrong_zero (by decide))]
    · rfl
  · rw [if_neg h]
    by_cases hx : x.id = a
    · rw [if_pos hx, if_pos (hm.2 (.inr hx.symm))]
    · rw [if_neg hx, if_neg (fun hh => (hm.1 hh).elim h (fun e => hx e.symm))]
/-- A list, or its places, are put into the reader's box. -/
theorem RdrIn.outd {w w1 : World} {R B : Nat} {vL vO vA vF : Value} {ts : List Tok} {i : Nat} {en : Int} {pl : Nat} (h : RdrIn w R vL vO vA vF ts i en pl) (k : Wrote B (· = 74) w w1) (v' : Value) :
    RdrIn (w1.setCell ⟨R, 4, none⟩ v') R vL v' vA vF ts i en pl ∧ Wr (fun j t => (B ≤ j ∧ t = 74) ∨ OnR R j t) w (w1.setCell ⟨R, 4, none⟩ v') := by
  have W : Wr (fun j t => (B ≤ j ∧ t = 74) ∨ OnR R j t) w (w1.setCell ⟨R, 4, none⟩ v') := (Wr.wrote k (fun _ _ _ hb h => .inl ⟨hb, h⟩)).setOld (p := ⟨R, 4, none⟩) h.box (.inr ⟨rfl, rfl⟩) _
  have hb := Wrote.keeps k h.box (by decide)
  exact ⟨⟨(row_set hb 4 _).trans rfl, ownsRow_wr h.toks W fun _ _ _ hd => hd.elim (fun h => absurd h.2 (by decide)) (fun h => absurd h.2 (by decide))⟩, W⟩
theorem RdrIn.atd {w w1 : World} {R B : Nat} {vL vO vA vF : Value} {ts : List Tok} {i : Nat} {en : Int} {pl : Nat} (h : RdrIn w R vL vO vA vF ts i en pl) (k : Wrote B (· = 3) w w1) (v' : Value) :
    RdrIn (w1.setCell ⟨R, 5, none⟩ v') R vL vO v' vF ts i en pl ∧ Wr (fun j t => (B ≤ j ∧ t = 3) ∨ OnR R j t) w (w1.setCell ⟨R, 5, none⟩ v') := by
  have W : Wr (fun j t => (B ≤ j ∧ t = 3) ∨ OnR R j t) w (w1.setCell ⟨R, 5, none⟩ v') := (Wr.wrote k (fun _ _ _ hb h => .inl ⟨hb, h⟩)).setOld (p := ⟨R, 5, none⟩) h.box (.inr ⟨rfl, rfl⟩) _
  have hb := Wrote.keeps k h.box (by decide)
  exact ⟨⟨(row_set hb 5 _).trans rfl, ownsRow_wr h.toks W fun _ _ _ hd => hd.elim (fun h => absurd h.2 (by decide)) (fun h => absurd h.2 (by decide))⟩, W⟩
theorem infoInt : (Tryz.prog.info? 3).map (fun i => (i.zero, i.size, i.bytes)) = some (some (.int .i64 0), 1, 8) := by kernel_rfl
/-- What is known while a text is read. -/
structure GotB (ts : List Tok) (q : RSt) (g : Got) : Prop where
  lt : q.i < ts.length
  few : g.out.length ≤ 13
  few12 : q.en = 0 → g.out.length ≤ 12
  same : g.ats.length = g.out.length
  refs : g.rf.length ≤ q.i
theorem lnM_id (ts : List Tok) (x : Resd) (af : Bool) (q : RSt) (rf : List (IDd × Nat)) : (lnM ts x af q rf).1.id = x.id := by
  unfold lnM
  dsimp only
  split <;> rfl
theorem insM_id (ts : List Tok) : ∀ (f : Nat) (x : Resd) (af : Bool) (q : RSt) (rf : List (IDd × Nat)), (insM ts f x af q rf).1.id = x.id
  | 0, x, af, q, rf => rfl
  | f + 1, x, af, q, rf => by
    unfold insM
    split
    · exact (insM_id ts f _ _ _ _).trans (lnM_id ts x af q rf)
    · rfl
theorem insM_good {ts : List Tok} {f : Nat} {x x' : Resd} {af af' : Bool} {q q' : RSt} {rf rf' : List (IDd × Nat)} (h : insM ts f x af q rf = (x', af', q', rf')) (h0 : q'.en = 0) : q.en = 0 := by
  by_cases hq : q.en = 0
  · exact hq
  · rw [insM_end (fun hh => hq hh.1)] at h
    cases h
    exact h0
/-- A resource is read on plain lists. -/
theorem res_round {ts : List Tok} (he : TsEnd ts) {s s1 s2 s3 s4 s5 s6 s7 s8 : RSt} {g : Got} {t1 k n t10 t12 : Tok} {x : Resd} {af : Bool} {rf7 : List (IDd × Nat)} {f7 : Nat} (hm1 : nextM ts s 1 wRes = (t1, s1)) (hm2 : fullM g.out.length t1.place s1 = s2) (hm3 : nextM ts s2 1 ⟨#[]⟩ = (k, s3)) (hm4 : nextM ts s3 1 ⟨#[]⟩ = (n, s4)) (hm5 : againM g.out ⟨k.text, n.text⟩ k.place s4 = s5) (hm6 : nextM ts s5 4 ⟨#[123]⟩ = (t10, s6)) (hm7 : insM ts ts.length ⟨⟨k.text, n.text⟩, [], []⟩ false s6 g.rf = (x, af, s7, rf7)) (hm8 : nextM ts s7 4 ⟨#[125]⟩ = (t12, s8)) (hz : s.en = 0) (hb : GotB ts s g) (hb7 : InB ts s6.i f7 x s7 rf7) :
    resM ts s g = (s8, ⟨g.out ++ [x], g.ats ++ [k.place], rf7⟩) ∧ GotB ts s8 ⟨g.out ++ [x], g.ats ++ [k.place], rf7⟩ ∧ (s8.en = 0 → s.i < s8.i) ∧ x.id = ⟨k.text, n.text⟩ := by
  obtain ⟨a1, a2, a3⟩ := nextM_in he hb.lt (by decide) _ hm1
  have h2 : s2.i = s1.i := by rw [← hm2, full_at]
  obtain ⟨b1, b2, b3⟩ := nextM_in he (s := s2) (by rw [h2]; exact a1) (by decide) _ hm3
  obtain ⟨c1, c2, c3⟩ := nextM_in he b1 (by decide) _ hm4
  have h5 : s5.i = s4.i := by rw [← hm5, again_at]
  obtain ⟨d1, d2, d3⟩ := nextM_in he (s := s5) (by rw [h5]; exact c1) (by decide) _ hm6
  obtain ⟨e1, e2, e3⟩ := nextM_in he hb7.lt (by decide) _ hm8
  have hge := hb7.ge
  have h12 := hb.few12 hz
  refine ⟨?_, ⟨e1, ?_, fun h0 => ?_, ?_, ?_⟩, fun h0 => ?_, ?_⟩
  · unfold resM
    rw [hm1]
    dsimp only
    rw [hm2, hm3]
    dsimp only
    rw [hm4]
    dsimp only
    rw [hm5, hm6]
    dsimp only
    rw [hm7]
    dsimp only
    rw [hm8]
  · show (g.out ++ [x]).length ≤ 13
    rw [List.length_append, List.length_singleton]; omega
  · show (g.out ++ [x]).length ≤ 12
    have g7 := (e3 h0).1
    have g6 := insM_good hm7 g7
    have g5 := (d3 g6).1
    rw [← hm5] at g5
    have g4 := again_zero g5
    have g3 := (c3 g4).1
    have g2 := (b3 g3).1
    rw [← hm2] at g2
    have := (full_zero g2).1
    rw [List.length_append, List.length_singleton]; omega
  · show (g.ats ++ [k.place]).length = (g.out ++ [x]).length
    rw [List.length_append, List.length_append, hb.same]; rfl
  · have := hb7.refs
    show rf7.length ≤ s8.i
    omega
  · have := (e3 h0).2
    omega
  · have := insM_id ts ts.length ⟨⟨k.text, n.text⟩, [], []⟩ false s6 g.rf
    rw [hm7] at this
    exact this
/-- What the reading of a resource answers. -/
def ResoR (B : Nat) (w : World) (R : Nat) (vL : Value) (ts : List Tok) (q : RSt) (g : Got) (e : Ending) (w' : World) : Prop :=
  ∃ (q' : RSt) (g' : Got) (ps : List ResP) (vO vA vF : Value), e = .returned (.tuple #[]) ∧ Hid (resM ts q g = (q', g')) ∧ Hid (GotAt B w' R vL vO vA vF ts q' g' ps) ∧ Hid (Wr (ChgG R B) w w') ∧ Hid (GotB ts q' g' ∧ (q'.en = 0 → q.i < q'.i))
end Go.Proofs.YtejhegnlmldomaaGreat
