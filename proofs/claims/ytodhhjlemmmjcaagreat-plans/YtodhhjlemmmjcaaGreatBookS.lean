/-
  The book: what putting the lists of steps into it does, ahead of their own list.
-/
import Derived.Test.YtodhhjlemmmjcaaGreatJ18
import Derived.Test.YtodhhjlemmmjcaaGreatStepsP
namespace Go.Proofs.YtodhhjlemmmjcaaGreat
open Go.RowKit

/-- What is turned by records: their lists. -/
def TurnLS (ps : List StepC) (va vi : Value) (O : Nat) (b : Nat) : Prop := (∃ p ∈ ps, some b = p.r.c2.ownBlock ∨ some b = p.r.c3.ownBlock) ∨ some b = va.ownBlock ∨ some b = vi.ownBlock ∨ b = O
/-- The lists of the first i records are in the book. -/
structure InBkS (B O : Nat) (w : World) (va0 vi0 vn vr vs vc : Value) (ea ei : List (Value × Nat)) (ps : List StepC) (i : Nat) (wr : World) (va vi : Value) (en em : List (Value × Nat)) : Prop where
  bk : BkAt B wr O va vi vn vr vs vc (ea ++ en) (ei ++ em)
  rest : ∀ j p, i ≤ j → ps[j]? = some p → OwnR B wr p.r.c2 p.r.c3 p.r.x
  ma : ∀ x ∈ en, MarkG 62 4 mkA wr x
  mi : ∀ x ∈ em, MarkG 52 2 mkI wr x
  la : ∀ x ∈ en, ∀ g, x.1.ownBlock = some g → (∃ j p, j < i ∧ ps[j]? = some p ∧ p.r.c2.ownBlock = some g) ∨ w.heap.size ≤ g
  li : ∀ x ∈ em, ∀ g, x.1.ownBlock = some g → (∃ j p, j < i ∧ ps[j]? = some p ∧ p.r.c3.ownBlock = some g) ∨ w.heap.size ≤ g
  kept : Kept (TurnLS ps va0 vi0 O) w wr
  qa : ∀ g, va.ownBlock = some g → va0.ownBlock = some g ∨ w.heap.size ≤ g
  qi : ∀ g, vi.ownBlock = some g → vi0.ownBlock = some g ∨ w.heap.size ≤ g
theorem InBkS.start {B O : Nat} {w wr : World} {va vi vn vr vs vc : Value} {ea ei : List (Value × Nat)} {v : Value} {ps : List StepC} (hb : BkAt B w O va vi vn vr vs vc ea ei) (hp : StpsAt B w v ps) (hx : Ext w wr) : InBkS B O w va vi vn vr vs vc ea ei ps 0 wr va vi [] [] :=
  ⟨by rw [List.append_nil, List.append_nil]; exact hb.ext hx, fun _ p _ h => (hp.each p (List.mem_of_getElem? h)).1.extB hx, fun _ h => (by cases h), fun _ h => (by cases h), fun _ h => (by cases h), fun _ h => (by cases h), hx.kept _, fun _ h => .inl h, fun _ h => .inl h⟩
theorem InBkS.ext {B O : Nat} {w wr wr' : World} {va0 vi0 va vi vn vr vs vc : Value} {ea ei en em : List (Value × Nat)} {ps : List StepC} {i : Nat} (h : InBkS B O w va0 vi0 vn vr vs vc ea ei ps i wr va vi en em) (x : Ext wr wr') : InBkS B O w va0 vi0 vn vr vs vc ea ei ps i wr' va vi en em :=
  ⟨h.bk.ext x, fun j p hj hp => (h.rest j p hj hp).extB x, fun y hy => (h.ma y hy).ext x, fun y hy => (h.mi y hy).ext x, h.la, h.li, h.kept.trans (x.kept (fun _ => False)) (fun _ _ h => h.elim), h.qa, h.qi⟩
theorem apartS_at {ps : List StepC} (h : ps.Pairwise (fun p q => ApartC p.r q.r)) {i j : Nat} {p q : StepC} (hij : i < j) (hp : ps[i]? = some p) (hq : ps[j]? = some q) : ApartC p.r q.r := by
  obtain ⟨hi, rfl⟩ := List.getElem?_eq_some_iff.1 hp
  obtain ⟨hj, rfl⟩ := List.getElem?_eq_some_iff.1 hq
  exact List.pairwise_iff_getElem.1 h i j hi hj hij
/-- The lists of one more. -/
theorem InBkS.step {B O : Nat} {w wr w' : World} {va0 vi0 va vi va' vi' vn vr vs vc v : Value} {ea ei en em en' em' : List (Value × Nat)} {ps : List StepC} {i : Nat} {p : StepC} (h : InBkS B O w va0 vi0 vn vr vs vc ea ei ps i wr va vi en em) (hps : StpsAt B w v ps) (hp : ps[i]? = some p)
    (hb : BkAt B w' O va' vi' vn vr vs vc ((ea ++ en) ++ en') ((ei ++ em) ++ em')) (ha : ∀ x ∈ en', MarkG 62 4 mkA w' x) (hi : ∀ x ∈ em', MarkG 52 2 mkI w' x) (hla : ∀ x ∈ en', ∀ g, x.1.ownBlock = some g → p.r.c2.ownBlock = some g ∨ wr.heap.size ≤ g) (hli : ∀ x ∈ em', ∀ g, x.1.ownBlock = some g → p.r.c3.ownBlock = some g ∨ wr.heap.size ≤ g)
    (hk : Kept (TurnR p.r.c2 p.r.c3 va vi O) wr w') (hqa : ∀ g, va'.ownBlock = some g → va.ownBlock = some g ∨ wr.heap.size ≤ g) (hqi : ∀ g, vi'.ownBlock = some g → vi.ownBlock = some g ∨ wr.heap.size ≤ g) :
    InBkS B O w va0 vi0 vn vr vs vc ea ei ps (i + 1) w' va' vi' (en ++ en') (em ++ em') := by
  have hwr : w.heap.size ≤ wr.heap.size := h.kept.size
  have hown := h.rest i p (Nat.le_refl _) hp
  have hlow2 : ∀ g, p.r.c2.ownBlock = some g → g < w.heap.size := fun g hg => ((hps.each p (List.mem_of_getElem? hp)).1.attrs.lt g hg).2
  have hlow3 : ∀ g, p.r.c3.ownBlock = some g → g < w.heap.size := fun g hg => ((hps.each p (List.mem_of_getElem? hp)).1.after.lt g hg).2
  refine ⟨by rw [← List.append_assoc, ← List.append_assoc]; exact hb, ?_, ?_, ?_, ?_, ?_, ?_, ?_, ?_⟩
  · intro j q hj hq
    have hoq := h.rest j q (by omega) hq
    have hap := apartS_at hps.apart (show i < j by omega) hp hq
    refine ⟨hoq.f2, hoq.f3, ownsRow_keptR hoq.attrs hk ?_, ownsRow_keptR hoq.after hk ?_⟩
    · intro g hg
      obtain ⟨c, hc⟩ := own_row hoq.attrs hg
      exact at_notR h.bk hown hc (fun hh => hap.1 g hh hg)
    · intro g hg
      obtain ⟨c, hc⟩ := own_row hoq.after hg
      exact id_notR h.bk hown hc (fun hh => hap.2 g hh hg)
  · intro x hx
    rcases List.mem_append.1 hx with hx | hx
    · refine (h.ma x hx).kept fun g c hg hc => hk.heap hc (at_notR h.bk hown hc fun hh => ?_)
      rcases h.la x hx g hg with ⟨j, q, hj, hq, hqg⟩ | h1
      · exact (apartS_at hps.apart hj hq hp).1 g hqg hh
      · have := hlow2 g hh; omega
    · exact ha x hx
  · intro x hx
    rcases List.mem_append.1 hx with hx | hx
    · refine (h.mi x hx).kept fun g c hg hc => hk.heap hc (id_notR h.bk hown hc fun hh => ?_)
      rcases h.li x hx g hg with ⟨j, q, hj, hq, hqg⟩ | h1
      · exact (apartS_at hps.apart hj hq hp).2 g hqg hh
      · have := hlow3 g hh; omega
    · exact hi x hx
  · intro x hx g hg
    rcases List.mem_append.1 hx with hx | hx
    · rcases h.la x hx g hg with ⟨j, q, hj, hq, hqg⟩ | h1
      · exact .inl ⟨j, q, by omega, hq, hqg⟩
      · exact .inr h1
    · rcases hla x hx g hg with h1 | h1
      · exact .inl ⟨i, p, by omega, hp, h1⟩
      · exact .inr (by omega)
  · intro x hx g hg
    rcases List.mem_append.1 hx with hx | hx
    · rcases h.li x hx g hg with ⟨j, q, hj, hq, hqg⟩ | h1
      · exact .inl ⟨j, q, by omega, hq, hqg⟩
      · exact .inr h1
    · rcases hli x hx g hg with h1 | h1
      · exact .inl ⟨i, p, by omega, hp, h1⟩
      · exact .inr (by omega)
  · refine h.kept.trans hk fun b hb' hD => ?_
    rcases hD with hD | hD | hD | hD | hD
    · exact .inl ⟨p, List.mem_of_getElem? hp, .inl hD⟩
    · exact .inl ⟨p, List.mem_of_getElem? hp, .inr hD⟩
    · rcases h.qa b hD.symm with h1 | h1
      · exact .inr (.inl h1.symm)
      · omega
    · rcases h.qi b hD.symm with h1 | h1
      · exact .inr (.inr (.inl h1.symm))
      · omega
    · exact .inr (.inr (.inr hD))
  · intro g hg
    rcases hqa g hg with h1 | h1
    · exact h.qa g h1
    · exact .inr (by omega)
  · intro g hg
    rcases hqi g hg with h1 | h1
    · exact h.qi g h1
    · exact .inr (by omega)
end Go.Proofs.YtodhhjlemmmjcaaGreat
