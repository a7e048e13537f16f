/-
  An argument opened, as long as the form's reach lets it be: a list of resources.
-/
/-
  Behind a call that turned nothing of what was there: what the statement asks.
-/
import Derived.Test.YtodhhjlemmmjcaaGreatJ11
import Derived.Test.YtodhhjlemmmjcaaGreatJ3
import Derived.Test.YtodhhjlemmmjcaaGreatRows
import Derived.ProofKit
import Derived.OpenShut
import Derived.Deep.Strs
import Derived.WalkKit
import Derived.SizedLaws
namespace Go.Proofs.YtodhhjlemmmjcaaGreat
open Go.ChangeShapes Go.WideShapes Go.ChangeAt Go.RowKit Go.Deep

/-- All that is weighed lies within the reach. -/
def Light {H : Type} (t : TypeId) (d : DataW H) : Prop := ∀ n ∈ d.weights Tryz.prog t, n ≤ reachBytes
theorem light_all {H : Type} {e : TypeId} {d : DataW H} : ∀ {l : List (DataW H)}, d ∈ l → (∀ n ∈ DataW.weightsAll Tryz.prog e l, n ≤ reachBytes) → Light e d
  | [], h, _ => by cases h
  | x :: l, h, hw => by
    simp only [DataW.weightsAll, List.mem_append] at hw
    rcases List.mem_cons.1 h with rfl | h
    · exact fun n hn => hw n (.inl hn)
    · exact light_all h fun n hn => hw n (.inr hn)
instance : Inhabited IDd := ⟨markI⟩
instance : Inhabited Attrd := ⟨markA⟩
instance : Inhabited Resd := ⟨markR⟩
theorem cellsID : Tryz.prog.cellsOf 52 = 2 := by kernel_rfl
theorem cellsAttr : Tryz.prog.cellsOf 62 = 4 := by kernel_rfl
theorem cellsRes : Tryz.prog.cellsOf 56 = 4 := by kernel_rfl
theorem bytesID : Tryz.prog.bytesOf 52 = 32 := by kernel_rfl
theorem bytesAttr : Tryz.prog.bytesOf 62 = 48 := by kernel_rfl
theorem bytesRes : Tryz.prog.bytesOf 56 = 80 := by kernel_rfl
theorem cellsStr : Tryz.prog.cellsOf 9 = 1 := by kernel_rfl
theorem cellsBool : Tryz.prog.cellsOf 4 = 1 := by kernel_rfl
theorem cellsInt : Tryz.prog.cellsOf 3 = 1 := by kernel_rfl
theorem cellsAttrs : Tryz.prog.cellsOf 53 = 1 := by kernel_rfl
theorem cellsIDs : Tryz.prog.cellsOf 54 = 1 := by kernel_rfl
section
variable {H : Type} {enc : TypeId × Value → H} {w : World} {base : Nat} {spare : Nat → Bool} {held : Bool}
set_option maxRecDepth 100000 in
theorem openSlice {α : Type} [Inhabited α] {t e : TypeId} {sz bytes : Nat} (ht : Tryz.prog.underlying t = some (.slice e)) (hc : Tryz.prog.cellsOf e = sz) (hby : Tryz.prog.bytesOf e = bytes) (hsz : 0 < sz) {good : α → List Value → Prop}
    (elem : ∀ (n : Nat) (cs : List Value) (d : DataW H) (pl : List MemPlace), DataW.trod enc Tryz.prog w base spare held n e cs = some (d, pl) → Light e d → ∃ x, good x cs)
    {fuel : Nat} {cs : List Value} {x : DataW H × List MemPlace} (h : DataW.trod enc Tryz.prog w base spare held fuel t cs = some x) (hk : Light t x.1) :
    ∃ (l : List α) (a : Option Addr) (cap : Nat), cs = [.slice a l.length cap] ∧ l.length ≤ cap ∧ cap ≤ maxLen ∧ l.length * bytes ≤ reachBytes ∧
      (l = [] ∨ ∃ b off, a = some ⟨b, off, none⟩ ∧ ∀ i x, l[i]? = some x → ∃ cs', good x cs' ∧ ∀ j, j < sz → w.cell? ⟨b, off + i * sz + j, none⟩ = cs'[j]?) := by
  rcases open_slice ht h with ⟨rfl, rfl⟩ | ⟨a, len, cap, m, n, D, Pl, rfl, hb, hl, hm, hmm, rfl, hx⟩
  · exact ⟨[], none, 0, rfl, by simp, by simp, by simp, .inl rfl⟩
  have hlm : len ≤ m := by rw [hmm]; split <;> omega
  have hlen : len * bytes ≤ reachBytes := by
    have := hk _ (by simp only [DataW.weights, ht]; exact List.mem_cons_self)
    simp only [List.length_map, List.length_range, hby] at this
    exact Nat.le_trans (Nat.mul_le_mul_right _ (Nat.le_add_right _ _)) this
  have hD : ∀ i, i < len → Light e (D i) := fun i hi => light_all (List.mem_map_of_mem (f := D) (List.mem_range.2 hi)) fun n hn => hk n (by
    simp only [DataW.weights, ht]
    exact List.mem_cons_of_mem _ (List.mem_append_left _ hn))
  rw [hc] at hx
  have each : ∀ i, i < len → ∃ y : α, ∃ cs', good y cs' ∧ cs'.length = sz ∧ ∀ j, j < sz → w.cell? ((a.add (i * sz)).add j) = cs'[j]? := fun i hi => by
    obtain ⟨cs', h1, h2⟩ := hx i (by omega)
    obtain ⟨_, h3, h4⟩ := World.cells?_some h1
    obtain ⟨y, hy⟩ := elem n cs' _ _ h2 (hD i hi)
    exact ⟨y, cs', hy, h3, h4⟩
  obtain ⟨f, hf⟩ := choose_lt each
  refine ⟨(List.range len).map f, some a, cap, by simp, by simpa using hl, hm, by simpa using hlen, ?_⟩
  by_cases h0 : len = 0
  · left; subst h0; rfl
  right
  have hsp : a.spot = none := by
    obtain ⟨cs', _, h3, h4⟩ := hf 0 (by omega)
    have h5 := h4 0 hsz
    rw [Nat.zero_mul] at h5
    have e : (a.add 0).add 0 = a := rfl
    rw [e, List.getElem?_eq_getElem (by omega)] at h5
    unfold World.cell? at h5
    split at h5
    · split at h5
      · cases h5
      · rename_i hs; simpa using hs
    · cases h5
  obtain ⟨b, off, spot⟩ := a
  obtain rfl : spot = none := hsp
  refine ⟨b, off, rfl, fun i x hx' => ?_⟩
  obtain ⟨hi, rfl⟩ := List.getElem?_eq_some_iff.1 hx'
  simp only [List.length_map, List.length_range] at hi
  obtain ⟨cs', h2, _, h4⟩ := hf i hi
  refine ⟨cs', by simpa using h2, fun j hj => ?_⟩
  rw [← h4 j hj]
  congr 1
  rw [add_add]
  unfold Addr.add; split <;> simp_all; omega
set_option maxRecDepth 100000 in
theorem openStr {n : Nat} {c : List Value} {y : DataW H × List MemPlace} (h : DataW.trod enc Tryz.prog w base spare held n 9 c = some y) (hk : Light 9 y.1) : ∃ s : ByteArray, c = [.string s] ∧ s.size ≤ 140737488351232 := by
  obtain ⟨s, rfl, rfl, -⟩ := DataW.trod_string Tryz.underlying9 h
  refine ⟨s, rfl, ?_⟩
  have := hk s.data.toList.length (by simp [DataW.weights])
  have e : s.data.toList.length = s.size := Array.length_toList
  unfold reachBytes at this
  omega
theorem light_field {t : TypeId} {fs : Array Field} {parts : List (DataW H)} (ht : Tryz.prog.underlying t = some (.struct fs)) (hk : Light t (.agg parts)) : ∀ n ∈ DataW.weightsEach Tryz.prog (fs.toList.map (·.type)) parts, n ≤ reachBytes := fun n hn => hk n (by
  simp only [DataW.weights, ht]
  exact hn)
set_option maxRecDepth 100000 in
theorem openID (n : Nat) (cs : List Value) (d : DataW H) (pl : List MemPlace) (h : DataW.trod enc Tryz.prog w base spare held n 52 cs = some (d, pl)) (hk : Light 52 d) : ∃ x : IDd, cs = cI x ∧ okI x := by
  obtain ⟨y0, y1, m, he, hl, h0, h1⟩ := trod_struct2 Tryz.underlying52 h
  obtain ⟨rfl, -⟩ := Prod.mk.inj he
  rw [cellsID] at hl
  have hw := light_field Tryz.underlying52 hk
  simp only [List.map_cons, List.map_nil, DataW.weightsEach, List.append_nil, List.mem_append] at hw
  obtain ⟨s, e0, k0⟩ := openStr h0 (fun n hn => hw n (.inl hn))
  obtain ⟨t, e1, k1⟩ := openStr h1 (fun n hn => hw n (.inr hn))
  match cs, hl with
  | [u, v], _ =>
    rw [show Tryz.prog.cellsOf 9 = 1 from cellsStr] at e0 e1
    simp at e0 e1
    exact ⟨⟨s, t⟩, by simp [cI, e0, e1], by show s.size ≤ _; omega, by show t.size ≤ _; omega⟩
theorem trod_four {t : TypeId} {f0 f1 f2 f3 : Field} {fuel : Nat} {cs : List Value} {x : DataW H × List MemPlace} (ht : Tryz.prog.underlying t = some (.struct #[f0, f1, f2, f3])) (h : DataW.trod enc Tryz.prog w base spare held fuel t cs = some x) :
    ∃ y0 y1 y2 y3 n, x.1 = .agg [y0.1, y1.1, y2.1, y3.1] ∧ cs.length = Tryz.prog.cellsOf t ∧ DataW.trod enc Tryz.prog w base spare held n f0.type ((cs.drop f0.offset).take (Tryz.prog.cellsOf f0.type)) = some y0 ∧
      DataW.trod enc Tryz.prog w base spare held n f1.type ((cs.drop f1.offset).take (Tryz.prog.cellsOf f1.type)) = some y1 ∧ DataW.trod enc Tryz.prog w base spare held n f2.type ((cs.drop f2.offset).take (Tryz.prog.cellsOf f2.type)) = some y2 ∧
      DataW.trod enc Tryz.prog w base spare held n f3.type ((cs.drop f3.offset).take (Tryz.prog.cellsOf f3.type)) = some y3 := by
  obtain ⟨xs, n, _, rfl, hl, hlen, hf⟩ := DataW.trod_struct ht h
  match xs, hlen with
  | [y0, y1, y2, y3], _ => exact ⟨y0, y1, y2, y3, n, rfl, hl, by simpa using hf 0 f0 rfl, by simpa using hf 1 f1 rfl, by simpa using hf 2 f2 rfl, by simpa using hf 3 f3 rfl⟩
set_option maxRecDepth 100000 in
theorem openAttr (n : Nat) (cs : List Value) (d : DataW H) (pl : List MemPlace) (h : DataW.trod enc Tryz.prog w base spare held n 62 cs = some (d, pl)) (hk : Light 62 d) : ∃ x : Attrd, cs = cA x ∧ okA x := by
  obtain ⟨y0, y1, y2, y3, m, he, hl, h0, h1, h2, h3⟩ := trod_four Tryz.underlying62 h
  obtain rfl : d = _ := he
  rw [cellsAttr] at hl
  have hw := light_field Tryz.underlying62 hk
  simp only [List.map_cons, List.map_nil, DataW.weightsEach, List.append_nil, List.mem_append] at hw
  obtain ⟨s, e0, k0⟩ := openStr h0 (fun n hn => hw n (.inl hn))
  obtain ⟨b, e1, _⟩ := DataW.trod_bool Tryz.underlying4 h1
  obtain ⟨t, e2, k2⟩ := openStr h2 (fun n hn => hw n (.inr (.inr (.inl hn))))
  obtain ⟨z, e3, _, hz⟩ := DataW.trod_int Tryz.underlying3 h3
  match cs, hl with
  | [u0, u1, u2, u3], _ =>
    simp only [cellsStr, cellsBool, cellsInt] at e0 e1 e2 e3
    simp at e0 e1 e2 e3
    simp only [Lit.wf, Bool.and_eq_true, decide_eq_true_eq] at hz
    refine ⟨⟨s, b, t, z⟩, by simp [cA, e0, e1, e2, e3], by show s.size ≤ _; omega, by show t.size ≤ _; omega, ?_, ?_⟩
    · exact hz.1
    · exact hz.2
set_option maxRecDepth 100000 in
theorem openRes (n : Nat) (cs : List Value) (d : DataW H) (pl : List MemPlace) (h : DataW.trod enc Tryz.prog w base spare held n 56 cs = some (d, pl)) (hk : Light 56 d) :
    ∃ x : Resd, (∃ c2 c3, cs = [.string x.id.kind, .string x.id.name, c2, c3] ∧ ResV w c2 c3 x) ∧ okR x := by
  obtain ⟨y0, y1, y2, m, he, hl, h0, h1, h2⟩ := trod_struct3 Tryz.underlying56 h
  obtain ⟨rfl, -⟩ := Prod.mk.inj he
  rw [cellsRes] at hl
  have hw := light_field Tryz.underlying56 hk
  simp only [List.map_cons, List.map_nil, DataW.weightsEach, List.append_nil, List.mem_append] at hw
  obtain ⟨i, e0, ki⟩ := openID _ _ y0.1 y0.2 h0 (fun n hn => hw n (.inl hn))
  obtain ⟨la, a, cap, e1, a1, a2, a3, a4⟩ := openSlice Tryz.underlying53 cellsAttr bytesAttr (by omega) (good := fun (x : Attrd) cs => cs = cA x ∧ okA x) openAttr h1 (fun n hn => hw n (.inr (.inl hn)))
  obtain ⟨lf, b, cap', e2, b1, b2, b3, b4⟩ := openSlice Tryz.underlying54 cellsID bytesID (by omega) (good := fun (x : IDd) cs => cs = cI x ∧ okI x) openID h2 (fun n hn => hw n (.inr (.inr hn)))
  have okas : ∀ x ∈ la, okA x := fun x hx => by
    rcases a4 with rfl | ⟨_, _, _, h⟩
    · cases hx
    · obtain ⟨i, hi, rfl⟩ := List.mem_iff_getElem.1 hx
      obtain ⟨_, ⟨_, hh⟩, _⟩ := h i _ (List.getElem?_eq_getElem hi)
      exact hh
  have okfs : ∀ x ∈ lf, okI x := fun x hx => by
    rcases b4 with rfl | ⟨_, _, _, h⟩
    · cases hx
    · obtain ⟨i, hi, rfl⟩ := List.mem_iff_getElem.1 hx
      obtain ⟨_, ⟨_, hh⟩, _⟩ := h i _ (List.getElem?_eq_getElem hi)
      exact hh
  match cs, hl with
  | [u0, u1, u2, u3], _ =>
    simp only [cellsID, cellsAttrs, cellsIDs] at e0 e1 e2
    simp [cI] at e0 e1 e2
    refine ⟨⟨i, la, lf⟩, ⟨u2, u3, by simp [e0], ⟨ki, ?_, ?_⟩⟩, ki, okas, okfs, by unfold reachBytes at a3; show la.length ≤ _; omega, by unfold reachBytes at b3; show lf.length ≤ _; omega⟩
    · refine ⟨⟨a, cap, e1, a1, by unfold maxLen at a2; omega, a4.imp id ?_⟩, by unfold reachBytes at a3; show la.length ≤ _; omega, okas⟩
      rintro ⟨bb, off, rfl, hh⟩
      refine ⟨bb, off, rfl, fun j x hx => ?_⟩
      obtain ⟨cs', ⟨rfl, _⟩, hc⟩ := hh j x hx
      exact ⟨hc 0 (by omega), hc 1 (by omega), hc 2 (by omega), hc 3 (by omega)⟩
    · refine ⟨⟨b, cap', e2, b1, by unfold maxLen at b2; omega, b4.imp id ?_⟩, by unfold reachBytes at b3; show lf.length ≤ _; omega, okfs⟩
      rintro ⟨bb, off, rfl, hh⟩
      refine ⟨bb, off, rfl, fun j x hx => ?_⟩
      obtain ⟨cs', ⟨rfl, _⟩, hc⟩ := hh j x hx
      exact ⟨hc 0 (by omega), hc 1 (by omega)⟩
/-- The argument: a list of resources, and none of it is long. -/
theorem openRess {fuel : Nat} {cs : List Value} {x : DataW H × List MemPlace} (h : DataW.trod enc Tryz.prog w base spare held fuel 22 cs = some x) (hk : Light 22 x.1) :
    ∃ (v : Value) (l : List Resd), cs = [v] ∧ RessV w v l ∧ l.length * 80 ≤ 140737488351232 ∧ ∀ x ∈ l, okR x := by
  obtain ⟨l, a, cap, e1, a1, a2, a3, a4⟩ := openSlice Tryz.underlying22 cellsRes bytesRes (by omega) (good := fun (x : Resd) cs => (∃ c2 c3, cs = [.string x.id.kind, .string x.id.name, c2, c3] ∧ ResV w c2 c3 x) ∧ okR x) openRes h hk
  refine ⟨_, l, e1, ⟨⟨a, cap, rfl, a1, by unfold maxLen at a2; omega, a4.imp id ?_⟩, by unfold reachBytes at a3; omega⟩, by unfold reachBytes at a3; omega, fun x hx => ?_⟩
  · rintro ⟨bb, off, rfl, hh⟩
    refine ⟨bb, off, rfl, fun j x hx => ?_⟩
    obtain ⟨cs', ⟨⟨c2, c3, rfl, hr⟩, _⟩, hc⟩ := hh j x hx
    exact ⟨hc 0 (by omega), hc 1 (by omega), c2, c3, hc 2 (by omega), hc 3 (by omega), hr⟩
  · rcases a4 with rfl | ⟨_, _, _, h⟩
    · cases hx
    · obtain ⟨i, hi, rfl⟩ := List.mem_iff_getElem.1 hx
      obtain ⟨_, ⟨_, hh⟩, _⟩ := h i _ (List.getElem?_eq_getElem hi)
      exact hh
end
end Go.Proofs.YtodhhjlemmmjcaaGreat

namespace Go.Proofs.YtodhhjlemmmjcaaGreat
open Go.ChangeShapes Go.WideShapes Go.ChangeAt Go.RowKit Go.Deep

theorem ownOff : ownKnob Tryz.prog.godebug = none := by kernel_rfl
theorem laidOutAll : laidOutB Tryz.prog = true := by kernel_rfl

/-- What is asked behind a call that turned nothing of what was there. -/
theorem post_ext {H : Type} {enc : TypeId × Value → H} {P : Program} {f : Func} {s : ChangeSpec} {fresh handsOn again : Bool} {W W' : World} {args : Array Value} {v : Value} {ds gs : List (DataW H)} {before pa pv : List MemPlace}
    (hW : DataW.Whole enc P f.params.toList s.vars false W args.toList ds gs before)
    (hres : ∀ (b : Nat) (sp : Nat → Bool) (hd : Bool), DataW.TrodAll enc P W' b sp hd f.resultTypes.toList (v.resultList f.resultTypes.size) (s.fn H (ds ++ gs)).results [])
    (hargs : ∀ sp : Nat → Bool, (∀ p ∈ before, sp p.block = true) → DataW.TrodAll enc P W' 0 sp true f.params.toList args.toList (s.fn H (ds ++ gs)).args pa)
    (hvars : ∀ sp : Nat → Bool, (∀ p ∈ before, sp p.block = true) → DataW.TrodVars enc P W' sp s.vars (s.fn H (ds ++ gs)).vars pv)
    (hps : before = pa ++ pv) (he : Ext W W')
    (hok : ∀ (j : Nat) (t : TypeId) (r : Value), f.resultTypes[j]? = some t → (v.resultList f.resultTypes.size)[j]? = some r → Value.okWide P W' .any 0 t r) :
    s.post enc P f false fresh handsOn again W args v W' := by
  have hlt : ∀ p ∈ before, p.block < W.heap.size := fun p hp => hW.lt p hp
  have hold : ∀ p ∈ before, (fun b => decide (b < W.heap.size)) p.block = true := fun p hp => by simpa using hlt p hp
  refine ⟨ds, gs, before, [], pa, pv, hW, hres _ _ _, hargs _ hold, hvars _ hold, Below.frame he _, fun _ => ⟨hok, _, _, ([] ++ pa) ++ pv, ⟨[] ++ pa, pv, trodAll_append (hargs _ (fun _ _ => rfl)) (hres _ _ _), hvars _ (fun _ _ => rfl), rfl, ?_, fun h => by cases h⟩, ?_⟩⟩
  · obtain ⟨_, _, _, _, _, hz, _⟩ := hW
    intro b off hp
    have hp' : MemPlace.cell b off ∈ before := by rw [hps]; simpa using hp
    rw [Below.frozen he (hlt _ hp')]
    exact hz b off hp'
  · intro p hp _
    rw [hps]; simpa using hp
end Go.Proofs.YtodhhjlemmmjcaaGreat
