/-
  An argument opened, as long as the form's reach lets it be: a list of resources.
-/
/-
  Behind a call that turned nothing of what was there: what the statement asks.
-/
import Derived.Test.YtpkhmgonkbpjjaaJ4
import Derived.Test.YtpkhmgonkbpjjaaJ2
import Derived.Test.YtpkhmgonkbpjjaaRows
import Derived.ProofKit
import Derived.OpenShut
import Derived.Deep.Strs
import Derived.WalkKit
import Derived.SizedLaws
namespace Go.Proofs.Ytpkhmgonkbpjjaa
open Go.ChangeShapes Go.WideShapes Go.ChangeAt Go.RowKit Go.Deep

/-- All that is weighed lies within the reach. -/
def Light {H : Type} (t : TypeId) (d : DataW H) : Prop := ∀ n ∈ d.weights Try.prog t, n ≤ reachBytes
theorem light_all {H : Type} {e : TypeId} {d : DataW H} : ∀ {l : List (DataW H)}, d ∈ l → (∀ n ∈ DataW.weightsAll Try.prog e l, n ≤ reachBytes) → Light e d
  | [], h, _ => by cases h
  | x :: l, h, hw => by
    simp only [DataW.weightsAll, List.mem_append] at hw
    rcases List.mem_cons.1 h with rfl | h
    · exact fun n hn => hw n (.inl hn)
    · exact light_all h fun n hn => hw n (.inr hn)
instance : Inhabited IDd := ⟨markI⟩
instance : Inhabited Attrd := ⟨markA⟩
instance : Inhabited Resd := ⟨markR⟩
theorem cellsStr : Try.prog.cellsOf 9 = 1 := by kernel_rfl
theorem cellsInt : Try.prog.cellsOf 3 = 1 := by kernel_rfl
section
variable {H : Type} {enc : TypeId × Value → H} {w : World} {base : Nat} {spare : Nat → Bool} {held : Bool}
set_option maxRecDepth 100000 in
theorem openSlice {α : Type} [Inhabited α] {t e : TypeId} {sz bytes : Nat} (ht : Try.prog.underlying t = some (.slice e)) (hc : Try.prog.cellsOf e = sz) (hby : Try.prog.bytesOf e = bytes) (hsz : 0 < sz) {good : α → List Value → Prop}
    (elem : ∀ (n : Nat) (cs : List Value) (d : DataW H) (pl : List MemPlace), DataW.trod enc Try.prog w base spare held n e cs = some (d, pl) → Light e d → ∃ x, good x cs)
    {fuel : Nat} {cs : List Value} {x : DataW H × List MemPlace} (h : DataW.trod enc Try.prog w base spare held fuel t cs = some x) (hk : Light t x.1) :
    ∃ (l : List α) (a : Option Addr) (cap : Nat), cs = [.slice a l.length cap] ∧ l.length ≤ cap ∧ cap ≤ maxLen ∧ l.length * bytes ≤ reachBytes ∧
      (l = [] ∨ ∃ b off, a = some ⟨b, off, none⟩ ∧ ∀ i x, l[i]? = some x → ∃ cs', good x cs' ∧ ∀ j, j < sz → w.cell? ⟨b, off + i * sz + j, none⟩ = cs'[j]?) := by
  rcases open_slice ht h with ⟨rfl, rfl⟩ | ⟨a, len, cap, m, n, D, Pl, rfl, hb, hl, hm, hmm, rfl, hx⟩
  · exact ⟨[], none, 0, rfl, by simp, by simp, by simp, .inl rfl⟩
  have hlm : len ≤ m := by rw [hmm]; split <;> omega
  have hlen : len * bytes ≤ reachBytes := by
    have := hk _ (by simp only [DataW.weights, ht]; exact List.mem_cons_self)
    simp only [List.length_map, List.length_range, hby] at this
    exact Nat.le_trans (Nat.mul_le_mul_right _ (Nat.le_add_right _ _)) this
  have hD : ∀ i, i < len → Light e (D i) := fun i hi => light_all (List.mem_map_of_mem (f := D) (List.mem_range.2 hi)) fun n hn => hk n (by
    simp only [DataW.weights, ht]
    exact List.mem_cons_of_mem _ (List.mem_append_left _ hn))
  rw [hc] at hx
  have each : ∀ i, i < len → ∃ y : α, ∃ cs', good y cs' ∧ cs'.length = sz ∧ ∀ j, j < sz → w.cell? ((a.add (i * sz)).add j) = cs'[j]? := fun i hi => by
    obtain ⟨cs', h1, h2⟩ := hx i (by omega)
    obtain ⟨_, h3, h4⟩ := World.cells?_some h1
    obtain ⟨y, hy⟩ := elem n cs' _ _ h2 (hD i hi)
    exact ⟨y, cs', hy, h3, h4⟩
  obtain ⟨f, hf⟩ := choose_lt each
  refine ⟨(List.range len).map f, some a, cap, by simp, by simpa using hl, hm, by simpa using hlen, ?_⟩
  by_cases h0 : len = 0
  · left; subst h0; rfl
  right
  have hsp : a.spot = none := by
    obtain ⟨cs', _, h3, h4⟩ := hf 0 (by omega)
    have h5 := h4 0 hsz
    rw [Nat.zero_mul] at h5
    have e : (a.add 0).add 0 = a := rfl
    rw [e, List.getElem?_eq_getElem (by omega)] at h5
    unfold World.cell? at h5
    split at h5
    · split at h5
      · cases h5
      · rename_i hs; simpa using hs
    · cases h5
  obtain ⟨b, off, spot⟩ := a
  obtain rfl : spot = none := hsp
  refine ⟨b, off, rfl, fun i x hx' => ?_⟩
  obtain ⟨hi, rfl⟩ := List.getElem?_eq_some_iff.1 hx'
  simp only [List.length_map, List.length_range] at hi
  obtain ⟨cs', h2, _, h4⟩ := hf i hi
  refine ⟨cs', by simpa using h2, fun j hj => ?_⟩
  rw [← h4 j hj]
  congr 1
  rw [add_add]
  unfold Addr.add; split <;> simp_all; omega
set_option maxRecDepth 100000 in
theorem openStr {n : Nat} {c : List Value} {y : DataW H × List MemPlace} (h : DataW.trod enc Try.prog w base spare held n 9 c = some y) (hk : Light 9 y.1) : ∃ s : ByteArray, c = [.string s] ∧ s.size ≤ 140737488351232 := by
  obtain ⟨s, rfl, rfl, -⟩ := DataW.trod_string Try.underlying9 h
  refine ⟨s, rfl, ?_⟩
  have := hk s.data.toList.length (by simp [DataW.weights])
  have e : s.data.toList.length = s.size := Array.length_toList
  unfold reachBytes at this
  omega
theorem light_field {t : TypeId} {fs : Array Field} {parts : List (DataW H)} (ht : Try.prog.underlying t = some (.struct fs)) (hk : Light t (.agg parts)) : ∀ n ∈ DataW.weightsEach Try.prog (fs.toList.map (·.type)) parts, n ≤ reachBytes := fun n hn => hk n (by
  simp only [DataW.weights, ht]
  exact hn)
end
end Go.Proofs.Ytpkhmgonkbpjjaa

namespace Go.Proofs.Ytpkhmgonkbpjjaa
open Go.ChangeShapes Go.WideShapes Go.ChangeAt Go.RowKit Go.Deep

theorem ownOff : ownKnob Try.prog.godebug = none := by kernel_rfl
theorem laidOutAll : laidOutB Try.prog = true := by kernel_rfl

/-- What is asked behind a call that turned nothing of what was there. -/
theorem post_ext {H : Type} {enc : TypeId × Value → H} {P : Program} {f : Func} {s : ChangeSpec} {fresh handsOn again : Bool} {W W' : World} {args : Array Value} {v : Value} {ds gs : List (DataW H)} {before pa pv : List MemPlace}
    (hW : DataW.Whole enc P f.params.toList s.vars false W args.toList ds gs before)
    (hres : ∀ (b : Nat) (sp : Nat → Bool) (hd : Bool), DataW.TrodAll enc P W' b sp hd f.resultTypes.toList (v.resultList f.resultTypes.size) (s.fn H (ds ++ gs)).results [])
    (hargs : ∀ sp : Nat → Bool, (∀ p ∈ before, sp p.block = true) → DataW.TrodAll enc P W' 0 sp true f.params.toList args.toList (s.fn H (ds ++ gs)).args pa)
    (hvars : ∀ sp : Nat → Bool, (∀ p ∈ before, sp p.block = true) → DataW.TrodVars enc P W' sp s.vars (s.fn H (ds ++ gs)).vars pv)
    (hps : before = pa ++ pv) (he : Ext W W')
    (hok : ∀ (j : Nat) (t : TypeId) (r : Value), f.resultTypes[j]? = some t → (v.resultList f.resultTypes.size)[j]? = some r → Value.okWide P W' .any 0 t r) :
    s.post enc P f false fresh handsOn again W args v W' := by
  have hlt : ∀ p ∈ before, p.block < W.heap.size := fun p hp => hW.lt p hp
  have hold : ∀ p ∈ before, (fun b => decide (b < W.heap.size)) p.block = true := fun p hp => by simpa using hlt p hp
  refine ⟨ds, gs, before, [], pa, pv, hW, hres _ _ _, hargs _ hold, hvars _ hold, Below.frame he _, fun _ => ⟨hok, _, _, ([] ++ pa) ++ pv, ⟨[] ++ pa, pv, trodAll_append (hargs _ (fun _ _ => rfl)) (hres _ _ _), hvars _ (fun _ _ => rfl), rfl, ?_, fun h => by cases h⟩, ?_⟩⟩
  · obtain ⟨_, _, _, _, _, hz, _⟩ := hW
    intro b off hp
    have hp' : MemPlace.cell b off ∈ before := by rw [hps]; simpa using hp
    rw [Below.frozen he (hlt _ hp')]
    exact hz b off hp'
  · intro p hp _
    rw [hps]; simpa using hp
end Go.Proofs.Ytpkhmgonkbpjjaa
