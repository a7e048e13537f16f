/-
  What is read, printed and read again is the same, on plain lists.
-/
/-
  The document's example: what Parse answers of it.
-/
import Derived.Test.YtfnbbohbicffpaaGreatDoorJ31
import Derived.Test.YtfnbbohbicffpaaGreatDoorJ30
import Derived.KernelRfl
namespace Go.Proofs.YtfnbbohbicffpaaGreatDoor
open Go.RowKit

theorem rises_of {α : Type} {lt : α → α → Bool} : ∀ {l : List α}, l.Pairwise (fun a b => lt a b = true) → risesB lt l = true
  | [], _ => rfl
  | [_], _ => rfl
  | a :: b :: l, h => by
    obtain ⟨h1, h2⟩ := List.pairwise_cons.1 h
    simp only [risesB, Bool.and_eq_true]
    exact ⟨h1 b (by simp), rises_of h2⟩
theorem may_ent {n : Nat} {e : EntD} (h : EntM n e) : mayB (resOf e) = true := by
  simp only [mayB, resOf, Bool.and_eq_true, decide_eq_true_eq, List.length_map]
  refine ⟨⟨⟨⟨⟨⟨h.few, decide_eq_true h.fewA⟩, h.id⟩, ?_⟩, ?_⟩, ?_⟩, ?_⟩
  · rw [List.all_eq_true]
    intro a ha
    obtain ⟨r, hr, rfl⟩ := List.mem_map.1 ha
    exact (h.attrs r hr).1
  · refine rises_of (List.pairwise_map.2 ?_)
    refine List.Pairwise.imp_of_mem ?_ h.up
    intro a b ha hb hab
    simp only [lessA, decide_eq_true_eq]
    rw [(h.attrs a ha).2, (h.attrs b hb).2]
    exact hab
  · rw [List.all_eq_true]; exact h.after
  · exact rises_of (h.upA.imp fun {a b} hab => by simpa [lessI] using hab)
theorem srtN_rises {es : List EntD} (h : (es.map EntD.id).Nodup) : UpG cmpI EntD.id (srtN es) := by
  unfold srtN
  have key : ∀ (l m : List EntD), UpG cmpI EntD.id m → (l.map EntD.id).Nodup → (∀ x ∈ l, ¬ HasK EntD.id m x.id) → UpG cmpI EntD.id (l.foldl insN m) := by
    intro l
    induction l with
    | nil => intro m hm _ _; exact hm
    | cons x l ih =>
      intro m hm hd hno
      simp only [List.foldl_cons]
      rw [List.map_cons, List.nodup_cons] at hd
      refine ih (insN m x) (UpG.put (key := EntD.id) ordI x hm (hno x List.mem_cons_self)) hd.2 fun y hy => ?_
      rintro ⟨z, hz, he⟩
      rcases insN_mem.1 hz with rfl | hz
      · exact hd.1 (List.mem_map.2 ⟨y, hy, he.symm⟩)
      · exact hno y (List.mem_cons_of_mem _ hy) ⟨z, hz, he⟩
  exact key es [] List.Pairwise.nil h (fun x _ ⟨y, hy, _⟩ => by cases hy)
theorem refsF_zero {es : List EntD} : ∀ {rf : List (IDd × Nat)}, (∀ r ∈ rf, r.1 ∈ es.map EntD.id) → refsF es rf = (0, 0)
  | [], _ => rfl
  | r :: rf, h => by
    unfold refsF
    rw [if_pos (h r List.mem_cons_self)]
    exact refsF_zero fun x hx => h x (List.mem_cons_of_mem _ hx)
theorem refsF_all {es : List EntD} : ∀ {rf : List (IDd × Nat)}, (refsF es rf).1 = 0 → ∀ r ∈ rf, r.1 ∈ es.map EntD.id
  | [], _, r, hr => by cases hr
  | x :: rf, h, r, hr => by
    unfold refsF at h
    by_cases hx : x.1 ∈ es.map EntD.id
    · rw [if_pos hx] at h
      rcases List.mem_cons.1 hr with rfl | hr
      · exact hx
      · exact refsF_all h r hr
    · rw [if_neg hx] at h; exact absurd h (by show ¬ (9 : Int) = 0; decide)
theorem refsF_place {es : List EntD} {n : Nat} : ∀ {rf : List (IDd × Nat)}, (∀ r ∈ rf, r.2 ≤ n) → (refsF es rf).2 ≤ n
  | [], _ => Nat.zero_le _
  | r :: rf, h => by
    unfold refsF
    split
    · exact refsF_place fun x hx => h x (List.mem_cons_of_mem _ hx)
    · exact h r List.mem_cons_self
theorem circF_zero {l : List Resd} : ∀ {es : List EntD}, (∀ e ∈ es, ¬ IdCirc l e.id) → circF l es = (0, 0)
  | [], _ => rfl
  | e :: es, h => by
    unfold circF
    rw [if_neg (h e List.mem_cons_self)]
    exact circF_zero fun x hx => h x (List.mem_cons_of_mem _ hx)
theorem circF_all {l : List Resd} : ∀ {es : List EntD}, (circF l es).1 = 0 → ∀ e ∈ es, ¬ IdCirc l e.id
  | [], _, e, he => by cases he
  | x :: es, h, e, he => by
    unfold circF at h
    by_cases hx : IdCirc l x.id
    · rw [if_pos hx] at h; exact absurd h (by show ¬ (10 : Int) = 0; decide)
    · rw [if_neg hx] at h
      rcases List.mem_cons.1 he with rfl | he
      · exact hx
      · exact circF_all h e he
theorem circF_place {l : List Resd} {n : Nat} : ∀ {es : List EntD}, (∀ e ∈ es, e.place ≤ n) → (circF l es).2 ≤ n
  | [], _ => Nat.zero_le _
  | e :: es, h => by
    unfold circF
    split
    · exact h e List.mem_cons_self
    · exact circF_place fun x hx => h x (List.mem_cons_of_mem _ hx)
/-- What Parse answers: an error and its place in the text; or resources that may be, which are read again as they are. -/
theorem parse_is (l : List UInt8) : ((parseS l).1 = [] ∧ (parseS l).2.1 ≠ 0 ∧ (parseS l).2.2 ≤ l.length) ∨ ((parseS l).2 = (0, 0) ∧ mayAllB (parseS l).1 = true ∧ ((printL (parseS l).1).length ≤ 2000 → parseS (printL (parseS l).1) = parseS l)) := by
  classical
  have hst : parseS l = if 2000 < l.length then ([], (1, 0)) else if (cutL l).2.1 ≠ 0 then ([], (cutL l).2) else match textS (cutL l).1 (cutL l).1.length 0 [] [] with
      | .error f => ([], f)
      | .ok (es, rf) => if (refsF es rf).1 ≠ 0 then ([], refsF es rf)
        else if (circF ((srtN es).map resOf) es).1 ≠ 0 then ([], circF ((srtN es).map resOf) es)
        else ((srtN es).map resOf, (0, 0)) := by
    unfold parseS; rfl
  by_cases h2 : 2000 < l.length
  · rw [if_pos h2] at hst; rw [hst]; exact .inl ⟨rfl, by simp, Nat.zero_le _⟩
  · rw [if_neg h2] at hst
    obtain ⟨hM, hp⟩ := cutF_may l (l.length + 1) 0 (Nat.zero_le _)
    by_cases hc : (cutL l).2.1 ≠ 0
    · rw [if_pos hc] at hst; rw [hst]; exact .inl ⟨rfl, hc, hp⟩
    · rw [if_neg hc] at hst
      have h0 : AllR l.length [] [] := ⟨fun e he => (by cases he), fun r hr => (by cases hr), List.Pairwise.nil, by simp⟩
      obtain ⟨g1, g2⟩ := textS_may (ts := (cutL l).1) hM (cutL l).1.length (i := 0) h0
      cases ht : textS (cutL l).1 (cutL l).1.length 0 [] [] with
      | error x =>
        rw [ht] at hst
        dsimp only at hst
        rw [hst]
        exact .inl ⟨rfl, g2 x ht⟩
      | ok r =>
        obtain ⟨es, rf⟩ := r
        obtain ⟨k1, k2, k3, k4⟩ := g1 es rf ht
        rw [ht] at hst
        dsimp only at hst
        by_cases hz : (refsF es rf).1 ≠ 0
        · rw [if_pos hz] at hst; rw [hst]; exact .inl ⟨rfl, hz, refsF_place k2⟩
        · rw [if_neg hz] at hst
          by_cases hy : (circF ((srtN es).map resOf) es).1 ≠ 0
          · rw [if_pos hy] at hst; rw [hst]; exact .inl ⟨rfl, hy, circF_place fun e he => (k1 e he).1.place⟩
          · rw [if_neg hy] at hst
            rw [hst]
            have hz' : (refsF es rf).1 = 0 := Classical.byContradiction hz
            have hy' : (circF ((srtN es).map resOf) es).1 = 0 := Classical.byContradiction hy
            have hmay : mayAllB ((srtN es).map resOf) = true := by
              simp only [mayAllB, Bool.and_eq_true, decide_eq_true_eq, List.length_map]
              refine ⟨⟨by rw [srtN_len]; exact k4, ?_⟩, ?_⟩
              · rw [List.all_eq_true]
                intro x hx
                obtain ⟨e, he, rfl⟩ := List.mem_map.1 hx
                exact may_ent (k1 e (srtN_mem.1 he)).1
              · exact rises_of (List.pairwise_map.2 ((srtN_rises k3).imp fun {a b} hab => by unfold lessR lessI; exact decide_eq_true hab))
            refine .inr ⟨rfl, hmay, fun hn => ?_⟩
            dsimp only at hn ⊢
            obtain ⟨es2, rf2, p1, p2, p3⟩ := parse_print hmay hn
            have hids : ∀ a, a ∈ es2.map EntD.id ↔ a ∈ es.map EntD.id := fun a => by
              have h1 : es2.map EntD.id = ((srtN es).map resOf).map Resd.id := by rw [← p1, List.map_map]; rfl
              rw [h1, List.map_map]
              constructor
              · intro h
                obtain ⟨e, he, rfl⟩ := List.mem_map.1 h
                exact List.mem_map.2 ⟨e, srtN_mem.1 he, rfl⟩
              · intro h
                obtain ⟨e, he, rfl⟩ := List.mem_map.1 h
                exact List.mem_map.2 ⟨e, srtN_mem.2 he, rfl⟩
            have q1 : refsF es2 rf2 = (0, 0) := refsF_zero fun r hr => by
              have hm : r.1 ∈ ((srtN es).map resOf).flatMap Resd.after := by rw [← p2]; exact List.mem_map.2 ⟨r, hr, rfl⟩
              obtain ⟨x, hx, ha⟩ := List.mem_flatMap.1 hm
              obtain ⟨e, he, rfl⟩ := List.mem_map.1 hx
              obtain ⟨r2, hr2, he2⟩ := List.mem_map.1 ((k1 e (srtN_mem.1 he)).2 r.1 ha)
              rw [hids, ← he2]
              exact refsF_all hz' r2 hr2
            have q2 : circF ((srtN es).map resOf) es2 = (0, 0) := circF_zero fun e he => by
              have : e.id ∈ es2.map EntD.id := List.mem_map.2 ⟨e, he, rfl⟩
              rw [hids] at this
              obtain ⟨e0, he0, h00⟩ := List.mem_map.1 this
              rw [← h00]
              exact circF_all hy' e0 he0
            rcases p3 with ⟨a1, _⟩ | ⟨_, a2, _⟩ | ⟨_, _, a3⟩
            · rw [q1] at a1; exact absurd rfl a1
            · rw [q2] at a2; exact absurd rfl a2
            · exact a3
end Go.Proofs.YtfnbbohbicffpaaGreatDoor

namespace Go.Proofs.YtfnbbohbicffpaaGreatDoor
open Go.RowKit

def exB : List UInt8 := [114, 101, 115, 111, 117, 114, 99, 101, 32, 118, 109, 32, 97, 32, 123, 32, 115, 105, 122, 101, 32, 61, 32, 51, 32, 110, 97, 109, 101, 32, 61, 32, 34, 120, 92, 110, 121, 34, 32, 97, 102, 116, 101, 114, 32, 61, 32, 91, 110, 101, 116, 46, 98, 93, 32, 125, 32, 114, 101, 115, 111, 117, 114, 99, 101, 32, 110, 101, 116, 32, 98, 32, 123, 32, 125]
def exT : List Tok := [⟨1, 0, ⟨#[114, 101, 115, 111, 117, 114, 99, 101]⟩, 0⟩, ⟨1, 9, ⟨#[118, 109]⟩, 0⟩, ⟨1, 12, ⟨#[97]⟩, 0⟩, ⟨4, 14, ⟨#[]⟩, 0⟩, ⟨1, 16, ⟨#[115, 105, 122, 101]⟩, 0⟩, ⟨8, 21, ⟨#[]⟩, 0⟩, ⟨2, 23, ⟨#[]⟩, 3⟩, ⟨1, 25, ⟨#[110, 97, 109, 101]⟩, 0⟩, ⟨8, 30, ⟨#[]⟩, 0⟩, ⟨3, 32, ⟨#[120, 10, 121]⟩, 0⟩, ⟨1, 39, ⟨#[97, 102, 116, 101, 114]⟩, 0⟩, ⟨8, 45, ⟨#[]⟩, 0⟩, ⟨6, 47, ⟨#[]⟩, 0⟩, ⟨1, 48, ⟨#[110, 101, 116]⟩, 0⟩, ⟨10, 51, ⟨#[]⟩, 0⟩, ⟨1, 52, ⟨#[98]⟩, 0⟩, ⟨7, 53, ⟨#[]⟩, 0⟩, ⟨5, 55, ⟨#[]⟩, 0⟩, ⟨1, 57, ⟨#[114, 101, 115, 111, 117, 114, 99, 101]⟩, 0⟩, ⟨1, 66, ⟨#[110, 101, 116]⟩, 0⟩, ⟨1, 70, ⟨#[98]⟩, 0⟩, ⟨4, 72, ⟨#[]⟩, 0⟩, ⟨5, 74, ⟨#[]⟩, 0⟩, ⟨11, 75, ⟨#[]⟩, 0⟩]
def wVm : ByteArray := ⟨#[118, 109]⟩
def wA : ByteArray := ⟨#[97]⟩
def wNet : ByteArray := ⟨#[110, 101, 116]⟩
def wB : ByteArray := ⟨#[98]⟩
def wSize : ByteArray := ⟨#[115, 105, 122, 101]⟩
def wName : ByteArray := ⟨#[110, 97, 109, 101]⟩
def wXy : ByteArray := ⟨#[120, 10, 121]⟩
def exVm : Resd := ⟨⟨wVm, wA⟩, [⟨wName, true, wXy, 0⟩, ⟨wSize, false, ⟨#[]⟩, 3⟩], [⟨wNet, wB⟩]⟩
def exNet : Resd := ⟨⟨wNet, wB⟩, [], []⟩
theorem ex_cut : cutL exB = (exT, (0, 0)) := by kernel_rfl
theorem ex_line1 : lineS exT 4 ⟨⟨wVm, wA⟩, 9, [], false, []⟩ [] = .ok (7, ⟨⟨wVm, wA⟩, 9, [⟨wSize, ⟨wSize, false, ⟨#[]⟩, 3⟩⟩], false, []⟩, []) := by
  have hz : nameS ⟨⟨wVm, wA⟩, 9, [], false, []⟩ wSize = 0 := by
    unfold nameS
    rw [if_neg (fun h => by cases h.2), if_neg (fun h => h.elim (fun h => by cases h.2) (fun ⟨r, hr, _⟩ => by cases hr))]
  unfold lineS
  rw [show takeS exT 4 1 = .ok (⟨1, 16, ⟨#[115, 105, 122, 101]⟩, 0⟩, 5) from rfl]
  dsimp only
  rw [if_neg (fun h => h hz), show takeS exT 5 8 = .ok (⟨8, 21, ⟨#[]⟩, 0⟩, 6) from rfl]
  dsimp only
  rw [if_neg (by decide)]
  rfl
theorem ex_line2 : lineS exT 7 ⟨⟨wVm, wA⟩, 9, [⟨wSize, ⟨wSize, false, ⟨#[]⟩, 3⟩⟩], false, []⟩ [] = .ok (10, ⟨⟨wVm, wA⟩, 9, [⟨wName, ⟨wName, true, wXy, 0⟩⟩, ⟨wSize, ⟨wSize, false, ⟨#[]⟩, 3⟩⟩], false, []⟩, []) := by
  have hz : nameS ⟨⟨wVm, wA⟩, 9, [⟨wSize, ⟨wSize, false, ⟨#[]⟩, 3⟩⟩], false, []⟩ wName = 0 := by
    unfold nameS
    rw [if_neg (fun h => by cases h.2), if_neg (fun h => h.elim (fun h => by cases h.2) (fun ⟨r, hr, he⟩ => by
      obtain rfl := List.mem_singleton.1 hr
      revert he; decide))]
  unfold lineS
  rw [show takeS exT 7 1 = .ok (⟨1, 25, ⟨#[110, 97, 109, 101]⟩, 0⟩, 8) from rfl]
  dsimp only
  rw [if_neg (fun h => h hz), show takeS exT 8 8 = .ok (⟨8, 30, ⟨#[]⟩, 0⟩, 9) from rfl]
  dsimp only
  rw [if_neg (by decide)]
  rfl
theorem ex_refs : refsS exT exT.length 13 ⟨⟨wVm, wA⟩, 9, [⟨wName, ⟨wName, true, wXy, 0⟩⟩, ⟨wSize, ⟨wSize, false, ⟨#[]⟩, 3⟩⟩], true, []⟩ [] = .ok (16, ⟨⟨wVm, wA⟩, 9, [⟨wName, ⟨wName, true, wXy, 0⟩⟩, ⟨wSize, ⟨wSize, false, ⟨#[]⟩, 3⟩⟩], true, [⟨wNet, wB⟩]⟩, [(⟨wNet, wB⟩, 48)]) := by
  have h1 : refS exT 13 ⟨⟨wVm, wA⟩, 9, [⟨wName, ⟨wName, true, wXy, 0⟩⟩, ⟨wSize, ⟨wSize, false, ⟨#[]⟩, 3⟩⟩], true, []⟩ [] = .ok (16, ⟨⟨wVm, wA⟩, 9, [⟨wName, ⟨wName, true, wXy, 0⟩⟩, ⟨wSize, ⟨wSize, false, ⟨#[]⟩, 3⟩⟩], true, [⟨wNet, wB⟩]⟩, [(⟨wNet, wB⟩, 48)]) := by
    unfold refS
    rw [show takeS exT 13 1 = .ok (⟨1, 48, ⟨#[110, 101, 116]⟩, 0⟩, 14) from rfl]
    dsimp only
    rw [show takeS exT 14 10 = .ok (⟨10, 51, ⟨#[]⟩, 0⟩, 15) from rfl]
    dsimp only
    rw [show takeS exT 15 1 = .ok (⟨1, 52, ⟨#[98]⟩, 0⟩, 16) from rfl]
    dsimp only
    rw [if_neg (by decide), if_neg (by simp)]
    rfl
  show refsS exT (23 + 1) 13 _ _ = _
  unfold refsS
  rw [h1]
  dsimp only
  rw [if_neg (by decide)]
theorem ex_line3 : lineS exT 10 ⟨⟨wVm, wA⟩, 9, [⟨wName, ⟨wName, true, wXy, 0⟩⟩, ⟨wSize, ⟨wSize, false, ⟨#[]⟩, 3⟩⟩], false, []⟩ [] = .ok (17, ⟨⟨wVm, wA⟩, 9, [⟨wName, ⟨wName, true, wXy, 0⟩⟩, ⟨wSize, ⟨wSize, false, ⟨#[]⟩, 3⟩⟩], true, [⟨wNet, wB⟩]⟩, [(⟨wNet, wB⟩, 48)]) := by
  have hz : nameS ⟨⟨wVm, wA⟩, 9, [⟨wName, ⟨wName, true, wXy, 0⟩⟩, ⟨wSize, ⟨wSize, false, ⟨#[]⟩, 3⟩⟩], false, []⟩ wAfter = 0 := by
    unfold nameS
    rw [if_neg (fun h => h.1 rfl), if_neg (fun h => h.elim (fun h => by cases h.2) (fun ⟨r, hr, he⟩ => by
      rcases List.mem_cons.1 hr with rfl | hr
      · revert he; decide
      · obtain rfl := List.mem_singleton.1 hr
        revert he; decide))]
  unfold lineS
  rw [show takeS exT 10 1 = .ok (⟨1, 39, ⟨#[97, 102, 116, 101, 114]⟩, 0⟩, 11) from rfl]
  dsimp only
  rw [if_neg (fun h => h hz), show takeS exT 11 8 = .ok (⟨8, 45, ⟨#[]⟩, 0⟩, 12) from rfl]
  dsimp only
  rw [if_pos (show (⟨#[97, 102, 116, 101, 114]⟩ : ByteArray) = wAfter from rfl)]
  unfold listS
  rw [show takeS exT 12 6 = .ok (⟨6, 47, ⟨#[]⟩, 0⟩, 13) from rfl]
  dsimp only
  rw [if_neg (by decide), ex_refs]
  rfl
theorem ex_vm : resS exT 0 [] [] = .ok (18, [⟨⟨wVm, wA⟩, 9, [⟨wName, ⟨wName, true, wXy, 0⟩⟩, ⟨wSize, ⟨wSize, false, ⟨#[]⟩, 3⟩⟩], true, [⟨wNet, wB⟩]⟩], [(⟨wNet, wB⟩, 48)]) := by
  have hh : headS exT 0 [] = .ok (3, ⟨⟨wVm, wA⟩, 9, [], false, []⟩) := by
    unfold headS
    rw [show takeS exT 0 1 = .ok (⟨1, 0, ⟨#[114, 101, 115, 111, 117, 114, 99, 101]⟩, 0⟩, 1) from rfl]
    dsimp only
    rw [if_neg (fun h => h rfl), if_neg (by decide), show takeS exT 1 1 = .ok (⟨1, 9, ⟨#[118, 109]⟩, 0⟩, 2) from rfl]
    dsimp only
    rw [show takeS exT 2 1 = .ok (⟨1, 12, ⟨#[97]⟩, 0⟩, 3) from rfl]
    dsimp only
    rw [if_neg (by simp)]
    rfl
  have hl : linesS exT exT.length 4 ⟨⟨wVm, wA⟩, 9, [], false, []⟩ [] = .ok (17, ⟨⟨wVm, wA⟩, 9, [⟨wName, ⟨wName, true, wXy, 0⟩⟩, ⟨wSize, ⟨wSize, false, ⟨#[]⟩, 3⟩⟩], true, [⟨wNet, wB⟩]⟩, [(⟨wNet, wB⟩, 48)]) := by
    show linesS exT (20 + 1 + 1 + 1 + 1) 4 _ _ = _
    unfold linesS
    rw [if_neg (by decide), ex_line1]
    dsimp only
    unfold linesS
    rw [if_neg (by decide), ex_line2]
    dsimp only
    unfold linesS
    rw [if_neg (by decide), ex_line3]
    dsimp only
    unfold linesS
    rw [if_pos (by decide)]
  unfold resS
  rw [hh]
  dsimp only
  rw [show takeS exT 3 4 = .ok (⟨4, 14, ⟨#[]⟩, 0⟩, 4) from rfl]
  dsimp only
  rw [hl]
  rfl
theorem ex_net : resS exT 18 [⟨⟨wVm, wA⟩, 9, [⟨wName, ⟨wName, true, wXy, 0⟩⟩, ⟨wSize, ⟨wSize, false, ⟨#[]⟩, 3⟩⟩], true, [⟨wNet, wB⟩]⟩] [(⟨wNet, wB⟩, 48)] = .ok (23, [⟨⟨wVm, wA⟩, 9, [⟨wName, ⟨wName, true, wXy, 0⟩⟩, ⟨wSize, ⟨wSize, false, ⟨#[]⟩, 3⟩⟩], true, [⟨wNet, wB⟩]⟩, ⟨⟨wNet, wB⟩, 66, [], false, []⟩], [(⟨wNet, wB⟩, 48)]) := by
  have hh : headS exT 18 [⟨⟨wVm, wA⟩, 9, [⟨wName, ⟨wName, true, wXy, 0⟩⟩, ⟨wSize, ⟨wSize, false, ⟨#[]⟩, 3⟩⟩], true, [⟨wNet, wB⟩]⟩] = .ok (21, ⟨⟨wNet, wB⟩, 66, [], false, []⟩) := by
    unfold headS
    rw [show takeS exT 18 1 = .ok (⟨1, 57, ⟨#[114, 101, 115, 111, 117, 114, 99, 101]⟩, 0⟩, 19) from rfl]
    dsimp only
    rw [if_neg (fun h => h rfl), if_neg (by decide), show takeS exT 19 1 = .ok (⟨1, 66, ⟨#[110, 101, 116]⟩, 0⟩, 20) from rfl]
    dsimp only
    rw [show takeS exT 20 1 = .ok (⟨1, 70, ⟨#[98]⟩, 0⟩, 21) from rfl]
    dsimp only
    rw [if_neg (by simp [wNet, wVm])]
    rfl
  have hl : linesS exT exT.length 22 ⟨⟨wNet, wB⟩, 66, [], false, []⟩ [(⟨wNet, wB⟩, 48)] = .ok (22, ⟨⟨wNet, wB⟩, 66, [], false, []⟩, [(⟨wNet, wB⟩, 48)]) := by
    show linesS exT (23 + 1) 22 _ _ = _
    unfold linesS
    rw [if_pos (by decide)]
  unfold resS
  rw [hh]
  dsimp only
  rw [show takeS exT 21 4 = .ok (⟨4, 72, ⟨#[]⟩, 0⟩, 22) from rfl]
  dsimp only
  rw [hl]
  rfl
theorem ex_text : textS exT exT.length 0 [] [] = .ok ([⟨⟨wVm, wA⟩, 9, [⟨wName, ⟨wName, true, wXy, 0⟩⟩, ⟨wSize, ⟨wSize, false, ⟨#[]⟩, 3⟩⟩], true, [⟨wNet, wB⟩]⟩, ⟨⟨wNet, wB⟩, 66, [], false, []⟩], [(⟨wNet, wB⟩, 48)]) := by
  show textS exT (21 + 1 + 1 + 1) 0 _ _ = _
  unfold textS
  rw [if_neg (by decide), ex_vm]
  dsimp only
  unfold textS
  rw [if_neg (by decide), ex_net]
  dsimp only
  unfold textS
  rw [if_pos (by decide)]
theorem ex_parse : parseS exB = ([exNet, exVm], (0, 0)) := by
  classical
  have h1 : refsF [⟨⟨wVm, wA⟩, 9, [⟨wName, ⟨wName, true, wXy, 0⟩⟩, ⟨wSize, ⟨wSize, false, ⟨#[]⟩, 3⟩⟩], true, [⟨wNet, wB⟩]⟩, ⟨⟨wNet, wB⟩, 66, [], false, []⟩] [(⟨wNet, wB⟩, 48)] = (0, 0) := by
    unfold refsF
    rw [if_pos (by simp)]
    rfl
  have hs : (srtN [⟨⟨wVm, wA⟩, 9, [⟨wName, ⟨wName, true, wXy, 0⟩⟩, ⟨wSize, ⟨wSize, false, ⟨#[]⟩, 3⟩⟩], true, [⟨wNet, wB⟩]⟩, ⟨⟨wNet, wB⟩, 66, [], false, []⟩]).map resOf = [exNet, exVm] := rfl
  have h2 : circF [exNet, exVm] [⟨⟨wVm, wA⟩, 9, [⟨wName, ⟨wName, true, wXy, 0⟩⟩, ⟨wSize, ⟨wSize, false, ⟨#[]⟩, 3⟩⟩], true, [⟨wNet, wB⟩]⟩, ⟨⟨wNet, wB⟩, 66, [], false, []⟩] = (0, 0) := by
    have he : ∀ b c, IdEdge [exNet, exVm] b c → b = ⟨wVm, wA⟩ ∧ c = ⟨wNet, wB⟩ := by
      rintro b c ⟨k, y, h1, h2, h3⟩
      obtain ⟨y', hy', rfl⟩ := place_id h1
      obtain rfl : y = y' := by simpa using h2.symm.trans hy'
      rcases List.mem_cons.1 (List.mem_of_getElem? h2) with rfl | hm
      · cases h3
      · obtain rfl := List.mem_singleton.1 hm
        exact ⟨rfl, List.mem_singleton.1 h3⟩
    have hne : (⟨wNet, wB⟩ : IDd) ≠ ⟨wVm, wA⟩ := by
      intro h
      injection h with h1 _
      revert h1; decide
    have hc : ∀ a, ¬ IdCirc [exNet, exVm] a := by
      rintro a ⟨b, hb, hE⟩
      obtain ⟨rfl, rfl⟩ := he b a hE
      have := hb.closed (S := fun x => x = ⟨wNet, wB⟩) rfl (fun x y hx hxy => absurd (hx.symm.trans (he x y hxy).1) hne)
      exact hne this.symm
    unfold circF
    rw [if_neg (hc _)]
    unfold circF
    rw [if_neg (hc _)]
    rfl
  unfold parseS
  rw [if_neg (by decide), ex_cut]
  dsimp only
  rw [if_neg (by decide), ex_text]
  dsimp only
  rw [h1, if_neg (by decide), hs, h2, if_neg (by decide)]
end Go.Proofs.YtfnbbohbicffpaaGreatDoor
