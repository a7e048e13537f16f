/-
  An argument opened, however long: a list of resources.
-/
import Derived.Test.YtfmcgdglalljgaaGreatDoorJ10
import Derived.Test.YtfmcgdglalljgaaGreatDoorJ1
import Derived.Test.YtfmcgdglalljgaaGreatDoorRows
import Derived.ProofKit
import Derived.OpenShut
import Derived.Deep.Strs
namespace Go.Proofs.YtfmcgdglalljgaaGreatDoor
open Go.ChangeShapes Go.WideShapes Go.ChangeAt Go.RowKit Go.Deep

instance : Inhabited IDd := ⟨markI⟩
instance : Inhabited Attrd := ⟨markA⟩
instance : Inhabited Resd := ⟨markR⟩
theorem cellsID : Tryz.prog.cellsOf 25 = 2 := by kernel_rfl
theorem cellsAttr : Tryz.prog.cellsOf 66 = 4 := by kernel_rfl
theorem cellsRes : Tryz.prog.cellsOf 29 = 4 := by kernel_rfl
theorem cellsStr : Tryz.prog.cellsOf 9 = 1 := by kernel_rfl
theorem cellsBool : Tryz.prog.cellsOf 4 = 1 := by kernel_rfl
theorem cellsInt : Tryz.prog.cellsOf 3 = 1 := by kernel_rfl
theorem cellsAttrs : Tryz.prog.cellsOf 26 = 1 := by kernel_rfl
theorem cellsIDs : Tryz.prog.cellsOf 27 = 1 := by kernel_rfl
section
variable {H : Type} {enc : TypeId × Value → H} {w : World} {base : Nat} {spare : Nat → Bool} {held : Bool}
set_option maxRecDepth 100000 in
theorem openSlice {α : Type} [Inhabited α] {t e : TypeId} {sz : Nat} (ht : Tryz.prog.underlying t = some (.slice e)) (hc : Tryz.prog.cellsOf e = sz) (hsz : 0 < sz) {good : α → List Value → Prop}
    (elem : ∀ (n : Nat) (cs : List Value) (d : DataW H) (pl : List MemPlace), DataW.trod enc Tryz.prog w base spare held n e cs = some (d, pl) → ∃ x, good x cs)
    {fuel : Nat} {cs : List Value} {x : DataW H × List MemPlace} (h : DataW.trod enc Tryz.prog w base spare held fuel t cs = some x) :
    ∃ (l : List α) (a : Option Addr) (cap : Nat), cs = [.slice a l.length cap] ∧ l.length ≤ cap ∧ cap ≤ maxLen ∧
      (l = [] ∨ ∃ b off, a = some ⟨b, off, none⟩ ∧ ∀ i x, l[i]? = some x → ∃ cs', good x cs' ∧ ∀ j, j < sz → w.cell? ⟨b, off + i * sz + j, none⟩ = cs'[j]?) := by
  rcases open_slice ht h with ⟨rfl, rfl⟩ | ⟨a, len, cap, m, n, D, Pl, rfl, hb, hl, hm, hmm, rfl, hx⟩
  · exact ⟨[], none, 0, rfl, by simp, by simp, .inl rfl⟩
  have hlm : len ≤ m := by rw [hmm]; split <;> omega
  rw [hc] at hx
  have each : ∀ i, i < len → ∃ y : α, ∃ cs', good y cs' ∧ cs'.length = sz ∧ ∀ j, j < sz → w.cell? ((a.add (i * sz)).add j) = cs'[j]? := fun i hi => by
    obtain ⟨cs', h1, h2⟩ := hx i (by omega)
    obtain ⟨_, h3, h4⟩ := World.cells?_some h1
    obtain ⟨y, hy⟩ := elem n cs' _ _ h2
    exact ⟨y, cs', hy, h3, h4⟩
  obtain ⟨f, hf⟩ := choose_lt each
  refine ⟨(List.range len).map f, some a, cap, by simp, by simpa using hl, hm, ?_⟩
  by_cases h0 : len = 0
  · left; subst h0; rfl
  right
  have hsp : a.spot = none := by
    obtain ⟨cs', _, h3, h4⟩ := hf 0 (by omega)
    have h5 := h4 0 hsz
    rw [Nat.zero_mul] at h5
    have e : (a.add 0).add 0 = a := rfl
    rw [e, List.getElem?_eq_getElem (by omega)] at h5
    unfold World.cell? at h5
    split at h5
    · split at h5
      · cases h5
      · rename_i hs; simpa using hs
    · cases h5
  obtain ⟨b, off, spot⟩ := a
  obtain rfl : spot = none := hsp
  refine ⟨b, off, rfl, fun i x hx' => ?_⟩
  obtain ⟨hi, rfl⟩ := List.getElem?_eq_some_iff.1 hx'
  simp only [List.length_map, List.length_range] at hi
  obtain ⟨cs', h2, _, h4⟩ := hf i hi
  refine ⟨cs', by simpa using h2, fun j hj => ?_⟩
  rw [← h4 j hj]
  congr 1
  rw [add_add]
  unfold Addr.add; split <;> simp_all; omega
set_option maxRecDepth 100000 in
theorem openStr {n : Nat} {c : List Value} {y : DataW H × List MemPlace} (h : DataW.trod enc Tryz.prog w base spare held n 9 c = some y) : ∃ s : ByteArray, c = [.string s] ∧ s.size ≤ 9223372036854775807 := by
  obtain ⟨s, rfl, rfl, hm⟩ := DataW.trod_string Tryz.underlying9 h
  exact ⟨s, rfl, by unfold maxLen at hm; omega⟩
set_option maxRecDepth 100000 in
theorem openID (n : Nat) (cs : List Value) (d : DataW H) (pl : List MemPlace) (h : DataW.trod enc Tryz.prog w base spare held n 25 cs = some (d, pl)) : ∃ x : IDd, cs = cI x ∧ okI x := by
  obtain ⟨y0, y1, m, he, hl, h0, h1⟩ := trod_struct2 Tryz.underlying25 h
  obtain ⟨rfl, -⟩ := Prod.mk.inj he
  rw [cellsID] at hl
  obtain ⟨s, e0, k0⟩ := openStr h0
  obtain ⟨t, e1, k1⟩ := openStr h1
  match cs, hl with
  | [u, v], _ =>
    rw [show Tryz.prog.cellsOf 9 = 1 from cellsStr] at e0 e1
    simp at e0 e1
    exact ⟨⟨s, t⟩, by simp [cI, e0, e1], k0, k1⟩
theorem trod_four {t : TypeId} {f0 f1 f2 f3 : Field} {fuel : Nat} {cs : List Value} {x : DataW H × List MemPlace} (ht : Tryz.prog.underlying t = some (.struct #[f0, f1, f2, f3])) (h : DataW.trod enc Tryz.prog w base spare held fuel t cs = some x) :
    ∃ y0 y1 y2 y3 n, x.1 = .agg [y0.1, y1.1, y2.1, y3.1] ∧ cs.length = Tryz.prog.cellsOf t ∧ DataW.trod enc Tryz.prog w base spare held n f0.type ((cs.drop f0.offset).take (Tryz.prog.cellsOf f0.type)) = some y0 ∧
      DataW.trod enc Tryz.prog w base spare held n f1.type ((cs.drop f1.offset).take (Tryz.prog.cellsOf f1.type)) = some y1 ∧ DataW.trod enc Tryz.prog w base spare held n f2.type ((cs.drop f2.offset).take (Tryz.prog.cellsOf f2.type)) = some y2 ∧
      DataW.trod enc Tryz.prog w base spare held n f3.type ((cs.drop f3.offset).take (Tryz.prog.cellsOf f3.type)) = some y3 := by
  obtain ⟨xs, n, _, rfl, hl, hlen, hf⟩ := DataW.trod_struct ht h
  match xs, hlen with
  | [y0, y1, y2, y3], _ => exact ⟨y0, y1, y2, y3, n, rfl, hl, by simpa using hf 0 f0 rfl, by simpa using hf 1 f1 rfl, by simpa using hf 2 f2 rfl, by simpa using hf 3 f3 rfl⟩
set_option maxRecDepth 100000 in
theorem openAttr (n : Nat) (cs : List Value) (d : DataW H) (pl : List MemPlace) (h : DataW.trod enc Tryz.prog w base spare held n 66 cs = some (d, pl)) : ∃ x : Attrd, cs = cA x ∧ okA x := by
  obtain ⟨y0, y1, y2, y3, m, he, hl, h0, h1, h2, h3⟩ := trod_four Tryz.underlying66 h
  obtain rfl : d = _ := he
  rw [cellsAttr] at hl
  obtain ⟨s, e0, k0⟩ := openStr h0
  obtain ⟨b, e1, _⟩ := DataW.trod_bool Tryz.underlying4 h1
  obtain ⟨t, e2, k2⟩ := openStr h2
  obtain ⟨z, e3, _, hz⟩ := DataW.trod_int Tryz.underlying3 h3
  match cs, hl with
  | [u0, u1, u2, u3], _ =>
    simp only [cellsStr, cellsBool, cellsInt] at e0 e1 e2 e3
    simp at e0 e1 e2 e3
    simp only [Lit.wf, Bool.and_eq_true, decide_eq_true_eq] at hz
    refine ⟨⟨s, b, t, z⟩, by simp [cA, e0, e1, e2, e3], k0, k2, ?_, ?_⟩
    · exact hz.1
    · exact hz.2
set_option maxRecDepth 100000 in
theorem openRes (n : Nat) (cs : List Value) (d : DataW H) (pl : List MemPlace) (h : DataW.trod enc Tryz.prog w base spare held n 29 cs = some (d, pl)) :
    ∃ x : Resd, (∃ c2 c3, cs = [.string x.id.kind, .string x.id.name, c2, c3] ∧ ResV w c2 c3 x) ∧ okR x := by
  obtain ⟨y0, y1, y2, m, he, hl, h0, h1, h2⟩ := trod_struct3 Tryz.underlying29 h
  obtain ⟨rfl, -⟩ := Prod.mk.inj he
  rw [cellsRes] at hl
  obtain ⟨i, e0, ki⟩ := openID _ _ y0.1 y0.2 h0
  obtain ⟨la, a, cap, e1, a1, a2, a4⟩ := openSlice Tryz.underlying26 cellsAttr (by omega) (good := fun (x : Attrd) cs => cs = cA x ∧ okA x) openAttr h1
  obtain ⟨lf, b, cap', e2, b1, b2, b4⟩ := openSlice Tryz.underlying27 cellsID (by omega) (good := fun (x : IDd) cs => cs = cI x ∧ okI x) openID h2
  have okas : ∀ x ∈ la, okA x := fun x hx => by
    rcases a4 with rfl | ⟨_, _, _, h⟩
    · cases hx
    · obtain ⟨i, hi, rfl⟩ := List.mem_iff_getElem.1 hx
      obtain ⟨_, ⟨_, hh⟩, _⟩ := h i _ (List.getElem?_eq_getElem hi)
      exact hh
  have okfs : ∀ x ∈ lf, okI x := fun x hx => by
    rcases b4 with rfl | ⟨_, _, _, h⟩
    · cases hx
    · obtain ⟨i, hi, rfl⟩ := List.mem_iff_getElem.1 hx
      obtain ⟨_, ⟨_, hh⟩, _⟩ := h i _ (List.getElem?_eq_getElem hi)
      exact hh
  match cs, hl with
  | [u0, u1, u2, u3], _ =>
    simp only [cellsID, cellsAttrs, cellsIDs] at e0 e1 e2
    simp [cI] at e0 e1 e2
    refine ⟨⟨i, la, lf⟩, ⟨u2, u3, by simp [e0], ⟨ki, ?_, ?_⟩⟩, ki, okas, okfs, by unfold maxLen at a2; show la.length ≤ _; omega, by unfold maxLen at b2; show lf.length ≤ _; omega⟩
    · refine ⟨⟨a, cap, e1, a1, by unfold maxLen at a2; omega, a4.imp id ?_⟩, by unfold maxLen at a2; show la.length ≤ _; omega, okas⟩
      rintro ⟨bb, off, rfl, hh⟩
      refine ⟨bb, off, rfl, fun j x hx => ?_⟩
      obtain ⟨cs', ⟨rfl, _⟩, hc⟩ := hh j x hx
      exact ⟨hc 0 (by omega), hc 1 (by omega), hc 2 (by omega), hc 3 (by omega)⟩
    · refine ⟨⟨b, cap', e2, b1, by unfold maxLen at b2; omega, b4.imp id ?_⟩, by unfold maxLen at b2; show lf.length ≤ _; omega, okfs⟩
      rintro ⟨bb, off, rfl, hh⟩
      refine ⟨bb, off, rfl, fun j x hx => ?_⟩
      obtain ⟨cs', ⟨rfl, _⟩, hc⟩ := hh j x hx
      exact ⟨hc 0 (by omega), hc 1 (by omega)⟩
end
end Go.Proofs.YtfmcgdglalljgaaGreatDoor
