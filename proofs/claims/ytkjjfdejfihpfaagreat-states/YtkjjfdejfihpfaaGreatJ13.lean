/-
  The book: what putting the lists of resources into it does, ahead of their own list.
-/
/-
  What is lent, once all of it stands: the lists that it leads to; and stores into it.
-/
import Derived.Test.YtkjjfdejfihpfaaGreatBookR
import Derived.Test.YtkjjfdejfihpfaaGreatJ10
import Derived.Test.YtkjjfdejfihpfaaGreatLend
import Derived.Test.YtkjjfdejfihpfaaGreatJ11
namespace Go.Proofs.YtkjjfdejfihpfaaGreat
open Go.RowKit

/-- What is turned by resources: their lists. -/
def TurnLQ (ps : List ResP) (va vi : Value) (O : Nat) (b : Nat) : Prop := (∃ p ∈ ps, some b = p.c2.ownBlock ∨ some b = p.c3.ownBlock) ∨ some b = va.ownBlock ∨ some b = vi.ownBlock ∨ b = O
/-- The lists of the first i resources are in the book. -/
structure InBookQ (B O : Nat) (w : World) (va0 vi0 vn vr vs vc : Value) (ea ei : List (Value × Nat)) (ps : List ResP) (i : Nat) (wr : World) (va vi : Value) (en em : List (Value × Nat)) : Prop where
  bk : BkAt B wr O va vi vn vr vs vc (ea ++ en) (ei ++ em)
  rest : ∀ j p, i ≤ j → ps[j]? = some p → OwnR B wr p.c2 p.c3 p.x
  ma : ∀ x ∈ en, MarkG 42 4 mkA wr x
  mi : ∀ x ∈ em, MarkG 37 2 mkI wr x
  la : ∀ x ∈ en, ∀ g, x.1.ownBlock = some g → (∃ j p, j < i ∧ ps[j]? = some p ∧ p.c2.ownBlock = some g) ∨ w.heap.size ≤ g
  li : ∀ x ∈ em, ∀ g, x.1.ownBlock = some g → (∃ j p, j < i ∧ ps[j]? = some p ∧ p.c3.ownBlock = some g) ∨ w.heap.size ≤ g
  kept : Kept (TurnLQ ps va0 vi0 O) w wr
  qa : ∀ g, va.ownBlock = some g → va0.ownBlock = some g ∨ w.heap.size ≤ g
  qi : ∀ g, vi.ownBlock = some g → vi0.ownBlock = some g ∨ w.heap.size ≤ g
theorem InBookQ.start {B O : Nat} {w wr : World} {va vi vn vr vs vc : Value} {ea ei : List (Value × Nat)} {v : Value} {ps : List ResP} (hb : BkAt B w O va vi vn vr vs vc ea ei) (hp : RessAt B w v ps) (hx : Ext w wr) : InBookQ B O w va vi vn vr vs vc ea ei ps 0 wr va vi [] [] :=
  ⟨by rw [List.append_nil, List.append_nil]; exact hb.ext hx, fun _ p _ h => (hp.each p (List.mem_of_getElem? h)).1.extB hx, fun _ h => (by cases h), fun _ h => (by cases h), fun _ h => (by cases h), fun _ h => (by cases h), hx.kept _, fun _ h => .inl h, fun _ h => .inl h⟩
theorem InBookQ.ext {B O : Nat} {w wr wr' : World} {va0 vi0 va vi vn vr vs vc : Value} {ea ei en em : List (Value × Nat)} {ps : List ResP} {i : Nat} (h : InBookQ B O w va0 vi0 vn vr vs vc ea ei ps i wr va vi en em) (x : Ext wr wr') : InBookQ B O w va0 vi0 vn vr vs vc ea ei ps i wr' va vi en em :=
  ⟨h.bk.ext x, fun j p hj hp => (h.rest j p hj hp).extB x, fun y hy => (h.ma y hy).ext x, fun y hy => (h.mi y hy).ext x, h.la, h.li, h.kept.trans (x.kept (fun _ => False)) (fun _ _ h => h.elim), h.qa, h.qi⟩
theorem apart_atQ {ps : List ResP} (h : ps.Pairwise ApartQ) {i j : Nat} {p q : ResP} (hij : i < j) (hp : ps[i]? = some p) (hq : ps[j]? = some q) : ApartQ p q := by
  obtain ⟨hi, rfl⟩ := List.getElem?_eq_some_iff.1 hp
  obtain ⟨hj, rfl⟩ := List.getElem?_eq_some_iff.1 hq
  exact List.pairwise_iff_getElem.1 h i j hi hj hij
/-- The lists of one more. -/
theorem InBookQ.step {B O : Nat} {w wr w' : World} {va0 vi0 va vi va' vi' vn vr vs vc v : Value} {ea ei en em en' em' : List (Value × Nat)} {ps : List ResP} {i : Nat} {p : ResP} (h : InBookQ B O w va0 vi0 vn vr vs vc ea ei ps i wr va vi en em) (hps : RessAt B w v ps) (hp : ps[i]? = some p)
    (hb : BkAt B w' O va' vi' vn vr vs vc ((ea ++ en) ++ en') ((ei ++ em) ++ em')) (ha : ∀ x ∈ en', MarkG 42 4 mkA w' x) (hi : ∀ x ∈ em', MarkG 37 2 mkI w' x) (hla : ∀ x ∈ en', ∀ g, x.1.ownBlock = some g → p.c2.ownBlock = some g ∨ wr.heap.size ≤ g) (hli : ∀ x ∈ em', ∀ g, x.1.ownBlock = some g → p.c3.ownBlock = some g ∨ wr.heap.size ≤ g)
    (hk : Kept (TurnR p.c2 p.c3 va vi O) wr w') (hqa : ∀ g, va'.ownBlock = some g → va.ownBlock = some g ∨ wr.heap.size ≤ g) (hqi : ∀ g, vi'.ownBlock = some g → vi.ownBlock = some g ∨ wr.heap.size ≤ g) :
    InBookQ B O w va0 vi0 vn vr vs vc ea ei ps (i + 1) w' va' vi' (en ++ en') (em ++ em') := by
  have hwr : w.heap.size ≤ wr.heap.size := h.kept.size
  have hown := h.rest i p (Nat.le_refl _) hp
  have hlow2 : ∀ g, p.c2.ownBlock = some g → g < w.heap.size := fun g hg => ((hps.each p (List.mem_of_getElem? hp)).1.attrs.lt g hg).2
  have hlow3 : ∀ g, p.c3.ownBlock = some g → g < w.heap.size := fun g hg => ((hps.each p (List.mem_of_getElem? hp)).1.after.lt g hg).2
  refine ⟨by rw [← List.append_assoc, ← List.append_assoc]; exact hb, ?_, ?_, ?_, ?_, ?_, ?_, ?_, ?_⟩
  · intro j q hj hq
    have hoq := h.rest j q (by omega) hq
    have hap := apart_atQ hps.apart (show i < j by omega) hp hq
    refine ⟨hoq.f2, hoq.f3, ownsRow_keptR hoq.attrs hk ?_, ownsRow_keptR hoq.after hk ?_⟩
    · intro g hg
      obtain ⟨c, hc⟩ := own_row hoq.attrs hg
      exact at_notR h.bk hown hc (fun hh => hap.1 g hh hg)
    · intro g hg
      obtain ⟨c, hc⟩ := own_row hoq.after hg
      exact id_notR h.bk hown hc (fun hh => hap.2 g hh hg)
  · intro x hx
    rcases List.mem_append.1 hx with hx | hx
    · refine (h.ma x hx).kept fun g c hg hc => hk.heap hc (at_notR h.bk hown hc fun hh => ?_)
      rcases h.la x hx g hg with ⟨j, q, hj, hq, hqg⟩ | h1
      · exact (apart_atQ hps.apart hj hq hp).1 g hqg hh
      · have := hlow2 g hh; omega
    · exact ha x hx
  · intro x hx
    rcases List.mem_append.1 hx with hx | hx
    · refine (h.mi x hx).kept fun g c hg hc => hk.heap hc (id_notR h.bk hown hc fun hh => ?_)
      rcases h.li x hx g hg with ⟨j, q, hj, hq, hqg⟩ | h1
      · exact (apart_atQ hps.apart hj hq hp).2 g hqg hh
      · have := hlow3 g hh; omega
    · exact hi x hx
  · intro x hx g hg
    rcases List.mem_append.1 hx with hx | hx
    · rcases h.la x hx g hg with ⟨j, q, hj, hq, hqg⟩ | h1
      · exact .inl ⟨j, q, by omega, hq, hqg⟩
      · exact .inr h1
    · rcases hla x hx g hg with h1 | h1
      · exact .inl ⟨i, p, by omega, hp, h1⟩
      · exact .inr (by omega)
  · intro x hx g hg
    rcases List.mem_append.1 hx with hx | hx
    · rcases h.li x hx g hg with ⟨j, q, hj, hq, hqg⟩ | h1
      · exact .inl ⟨j, q, by omega, hq, hqg⟩
      · exact .inr h1
    · rcases hli x hx g hg with h1 | h1
      · exact .inl ⟨i, p, by omega, hp, h1⟩
      · exact .inr (by omega)
  · refine h.kept.trans hk fun b hb' hD => ?_
    rcases hD with hD | hD | hD | hD | hD
    · exact .inl ⟨p, List.mem_of_getElem? hp, .inl hD⟩
    · exact .inl ⟨p, List.mem_of_getElem? hp, .inr hD⟩
    · rcases h.qa b hD.symm with h1 | h1
      · exact .inr (.inl h1.symm)
      · omega
    · rcases h.qi b hD.symm with h1 | h1
      · exact .inr (.inr (.inl h1.symm))
      · omega
    · exact .inr (.inr (.inr hD))
  · intro g hg
    rcases hqa g hg with h1 | h1
    · exact h.qa g h1
    · exact .inr (by omega)
  · intro g hg
    rcases hqi g hg with h1 | h1
    · exact h.qi g h1
    · exact .inr (by omega)
end Go.Proofs.YtkjjfdejfihpfaaGreat

namespace Go.Proofs.YtkjjfdejfihpfaaGreat
open Go.RowKit

def marksR : List Value := (List.replicate 8 markR).flatMap cR
theorem okA_mark : okA markA := by refine ⟨?_, ?_, ?_, ?_⟩ <;> decide
theorem okI_mark : okI markI := by refine ⟨?_, ?_⟩ <;> decide
theorem cR_len (x : Resd) : (cR x).length = 4 := rfl
section
variable {B n : Nat} {ps : List Pt} {w : World} {O L : Nat} {va vf : Value} {rest : List Value}
theorem attrsAll {p : Pt} (hb : w.heap[p.a]? = some (.cells (cellsA (p.x.attrs ++ List.replicate 8 markA)).toArray 42 (0, 0))) (hok : okR p.x) : AttrsV w (slA p) (p.x.attrs ++ List.replicate 8 markA) := by
  obtain ⟨_, hA, _, la, _⟩ := hok
  refine ⟨⟨some ⟨p.a, 0, none⟩, p.x.attrs.length + 8, by simp [slA], by simp, by omega, .inr ⟨p.a, 0, rfl, ?_⟩⟩, by simp; omega, ?_⟩
  · exact attrsIn_of (rest := []) (by rw [List.append_nil]; exact hb)
  · intro x hx
    rcases List.mem_append.1 hx with hx | hx
    · exact hA x hx
    · rw [(List.mem_replicate.1 hx).2]; exact okA_mark
theorem idsAll {p : Pt} (hb : w.heap[p.f]? = some (.cells (cellsI (p.x.after ++ List.replicate 8 markI)).toArray 37 (0, 0))) (hok : okR p.x) : IDsV w (slF p) (p.x.after ++ List.replicate 8 markI) := by
  obtain ⟨_, _, hF, _, lf⟩ := hok
  refine ⟨⟨some ⟨p.f, 0, none⟩, p.x.after.length + 8, by simp [slF], by simp, by omega, .inr ⟨p.f, 0, rfl, ?_⟩⟩, by simp; omega, ?_⟩
  · exact idsIn_of (rest := []) (by rw [List.append_nil]; exact hb)
  · intro x hx
    rcases List.mem_append.1 hx with hx | hx
    · exact hF x hx
    · rw [(List.mem_replicate.1 hx).2]; exact okI_mark
theorem Lending.resV (h : Lending B n ps w O L va vf rest) {p : Pt} (hp : p ∈ ps) : ResV w (.slice (some ⟨p.a, 0, none⟩) p.x.attrs.length (p.x.attrs.length + 8)) (.slice (some ⟨p.f, 0, none⟩) p.x.after.length (p.x.after.length + 8)) p.x := by
  obtain ⟨hI, hA, hF, la, lf⟩ := h.ok p hp
  refine ⟨hI, ⟨⟨_, _, rfl, by omega, by omega, .inr ⟨p.a, 0, rfl, ?_⟩⟩, by omega, hA⟩, ⟨⟨_, _, rfl, by omega, by omega, .inr ⟨p.f, 0, rfl, ?_⟩⟩, by omega, hF⟩⟩
  · have hh := h.a p hp
    rw [cellsA, List.flatMap_append] at hh
    exact attrsIn_of (l := p.x.attrs) hh
  · have hh := h.f p hp
    rw [cellsI, List.flatMap_append] at hh
    exact idsIn_of (l := p.x.after) hh
theorem resV_mark : ResV w (.slice none 0 0) (.slice none 0 0) markR :=
  ⟨⟨by decide, by decide⟩, ⟨⟨none, 0, rfl, by simp [markR], by omega, .inl rfl⟩, by simp [markR], fun x hx => (by cases hx)⟩, ⟨⟨none, 0, rfl, by simp [markR], by omega, .inl rfl⟩, by simp [markR], fun x hx => (by cases hx)⟩⟩
theorem Lending.ressIn (h : Lending B n ps w O L va vf marksR) : RessIn w L 0 (ps.map Pt.x ++ List.replicate 8 markR) := by
  intro i x hx
  by_cases hi : i < ps.length
  · rw [List.getElem?_append_left (by simpa using hi), List.getElem?_map, List.getElem?_eq_getElem hi] at hx
    have hx' : ps[i].x = x := by simpa using hx
    subst hx'
    have key : ∀ r, r < 4 → w.cell? ⟨L, 0 + i * 4 + r, none⟩ = (cP ps[i])[r]? := by
      intro r hr
      rw [blk_cell h.l, Nat.zero_add, List.getElem?_append_left (by rw [flat_length cP_len]; omega)]
      exact flat_get cP_len (List.getElem?_eq_getElem hi) hr
    exact ⟨key 0 (by omega), key 1 (by omega), _, _, key 2 (by omega), key 3 (by omega), h.resV (List.getElem_mem hi)⟩
  · have hi' : ps.length ≤ i := by omega
    rw [List.getElem?_append_right (by simpa using hi'), List.length_map] at hx
    have hx' : x = markR := (List.mem_replicate.1 (List.mem_of_getElem? hx)).2
    subst hx'
    have key : ∀ r, r < 4 → w.cell? ⟨L, 0 + i * 4 + r, none⟩ = (cR markR)[r]? := by
      intro r hr
      rw [blk_cell h.l, Nat.zero_add, List.getElem?_append_right (by rw [flat_length cP_len]; omega), flat_length cP_len]
      have := flat_get cR_len hx hr
      rw [← this]
      show (List.flatMap cR _)[_]? = _
      congr 1
      omega
    exact ⟨key 0 (by omega), key 1 (by omega), _, _, key 2 (by omega), key 3 (by omega), resV_mark⟩
theorem Lending.ressAll (h : Lending B n ps w O L va vf marksR) (hn : ps.length = n) (hb : n ≤ 1759218604390) : RessV w (.slice (some ⟨L, 0, none⟩) (n + 8) (n + 8)) (ps.map Pt.x ++ List.replicate 8 markR) :=
  ⟨⟨some ⟨L, 0, none⟩, n + 8, by simp [hn], by simp [hn], by omega, .inr ⟨L, 0, rfl, h.ressIn⟩⟩, by simp [hn]; omega⟩
theorem Lending.ress (h : Lending B n ps w O L va vf marksR) (hn : ps.length = n) (hb : n ≤ 1759218604390) : RessV w (.slice (some ⟨L, 0, none⟩) n (n + 8)) (ps.map Pt.x) := by
  refine ⟨⟨some ⟨L, 0, none⟩, n + 8, by simp [hn], by simp [hn], by omega, .inr ⟨L, 0, rfl, ?_⟩⟩, by simp [hn]; omega⟩
  intro i x hx
  exact h.ressIn i x (by rw [List.getElem?_append_left (List.getElem?_eq_some_iff.1 hx).1]; exact hx)
end
def DL (ps : List Pt) (k : Nat) (j : Nat) : Prop := ∃ p ∈ ps.take k, j = p.a ∨ j = p.f
theorem DL.more {ps : List Pt} {k j : Nat} (h : DL ps k j) : DL ps (k + 1) j := by
  obtain ⟨p, hp, hj⟩ := h
  exact ⟨p, List.take_subset_take_left ps (Nat.le_succ k) hp, hj⟩
theorem take_mem {ps : List Pt} {k : Nat} {p : Pt} (hp : ps[k]? = some p) : p ∈ ps.take (k + 1) := by
  refine List.mem_of_getElem? (i := k) ?_
  rw [List.getElem?_take_of_lt (Nat.lt_succ_self k)]; exact hp
theorem DL.a {ps : List Pt} {k : Nat} {p : Pt} (hp : ps[k]? = some p) : DL ps (k + 1) p.a := ⟨p, take_mem hp, .inl rfl⟩
theorem DL.f {ps : List Pt} {k : Nat} {p : Pt} (hp : ps[k]? = some p) : DL ps (k + 1) p.f := ⟨p, take_mem hp, .inr rfl⟩
section
variable {B n : Nat} {ps : List Pt} {w : World} {O L : Nat} {va vf : Value} {rest : List Value}
theorem Lending.notD (h : Lending B n ps w O L va vf rest) {k j : Nat} {c : Array Value} {t : TypeId} {fz : Nat × Nat} (hj : w.heap[j]? = some (.cells c t fz)) (h1 : t ≠ 42) (h2 : t ≠ 37) : ¬ DL ps k j := by
  rintro ⟨p, hp, rfl | rfl⟩
  · exact tag_ne hj (h.a p (List.mem_of_mem_take hp)) h1 rfl
  · exact tag_ne hj (h.f p (List.mem_of_mem_take hp)) h2 rfl
theorem Lending.ltD (h : Lending B n ps w O L va vf rest) {k j : Nat} (hd : DL ps k j) : B ≤ j ∧ j < w.heap.size := by
  obtain ⟨p, hp, hj⟩ := hd
  have hp' := List.mem_of_mem_take hp
  rcases hj with rfl | rfl
  · exact ⟨(h.low.2.2 p hp').1, (Array.getElem?_eq_some_iff.1 (h.a p hp')).1⟩
  · exact ⟨(h.low.2.2 p hp').2, (Array.getElem?_eq_some_iff.1 (h.f p hp')).1⟩
theorem Lending.notA (h : Lending B n ps w O L va vf rest) {k : Nat} {p : Pt} (hp : ps[k]? = some p) : ¬ DL ps k p.a := by
  rintro ⟨q, hq, hj⟩
  have hq' := List.mem_of_mem_take hq
  rcases hj with hj | hj
  · obtain ⟨i, hi, rfl⟩ := List.mem_take_iff_getElem.1 hq
    obtain ⟨hk, rfl⟩ := List.getElem?_eq_some_iff.1 hp
    exact ((List.pairwise_iff_getElem.1 h.apart) i k (by omega) hk (by omega)).1 hj.symm
  · exact tag_ne (h.a p (List.mem_of_getElem? hp)) (h.f q hq') (by decide) hj
theorem Lending.notF (h : Lending B n ps w O L va vf rest) {k : Nat} {p : Pt} (hp : ps[k]? = some p) : ¬ DL ps k p.f := by
  rintro ⟨q, hq, hj⟩
  have hq' := List.mem_of_mem_take hq
  rcases hj with hj | hj
  · exact tag_ne (h.f p (List.mem_of_getElem? hp)) (h.a q hq') (by decide) hj
  · obtain ⟨i, hi, rfl⟩ := List.mem_take_iff_getElem.1 hq
    obtain ⟨hk, rfl⟩ := List.getElem?_eq_some_iff.1 hp
    exact ((List.pairwise_iff_getElem.1 h.apart) i k (by omega) hk (by omega)).2 hj.symm
end
theorem split4 {cs : List Value} {o : Nat} (h : o + 4 ≤ cs.length) : ∃ pre z0 z1 z2 z3 post, cs = pre ++ z0 :: z1 :: z2 :: z3 :: post ∧ pre.length = o := by
  refine ⟨cs.take o, cs[o], cs[o + 1], cs[o + 2], cs[o + 3], cs.drop (o + 4), ?_, by rw [List.length_take]; omega⟩
  rw [← List.drop_eq_getElem_cons, ← List.drop_eq_getElem_cons, ← List.drop_eq_getElem_cons, ← List.drop_eq_getElem_cons, List.take_append_drop]
theorem split2 {cs : List Value} {o : Nat} (h : o + 2 ≤ cs.length) : ∃ pre z0 z1 post, cs = pre ++ z0 :: z1 :: post ∧ pre.length = o := by
  refine ⟨cs.take o, cs[o], cs[o + 1], cs.drop (o + 2), ?_, by rw [List.length_take]; omega⟩
  rw [← List.drop_eq_getElem_cons, ← List.drop_eq_getElem_cons, List.take_append_drop]
/-- The k-th of a row that is owned. -/
theorem ownsRow_at {w : World} {base : Nat} {e : TypeId} {v : Value} {n : Nat} {xs : List Value} (h : w.ownsRow base e 1 v n xs) {k : Nat} (hk : k < n) : ∃ g cap c, v = .slice (some ⟨g, 0, none⟩) n cap ∧ n ≤ cap ∧ cap ≤ maxLen ∧ base ≤ g ∧ w.heap[g]? = some (.cells c e (0, 0)) ∧ w.cell? ⟨g, k, none⟩ = xs[k]? := by
  have h' := h
  rcases h.2 with ⟨_, rfl⟩ | ⟨g, cap, cur, rfl, hb, hg, h1, h2, _⟩
  · omega
  · exact ⟨g, cap, cur, rfl, h1, h2, hb, hg, h'.cellAt k (by omega)⟩
end Go.Proofs.YtkjjfdejfihpfaaGreat
