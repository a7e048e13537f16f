/-
  What tamed keeps to.
-/
/-
  tamed: whatever numbers it is given, the resources that it makes may be, and are whole.
-/
import Derived.Test.YtfmcgdglalljgaaGreatDoorTam5
import Derived.Test.YtfmcgdglalljgaaGreatDoorJ13
import Derived.Test.YtfmcgdglalljgaaGreatDoorJ17
import Derived.Deep.DeepCutAuto
import Derived.Deep.CutBlock
namespace Go.Proofs.YtfmcgdglalljgaaGreatDoor
open Go.RowKit

def kindS (k : Nat) : ByteArray := (⟨#[118, 110, 119]⟩ : ByteArray).extract k (k + 1)
def nmS (k : Nat) : ByteArray := (⟨#[97, 98, 99, 100]⟩ : ByteArray).extract k (k + 1)
def tagS (k : Nat) : ByteArray := (⟨#[120, 121, 122]⟩ : ByteArray).extract k 3
def sizeA (m : Nat) : Attrd := ⟨⟨#[115, 105, 122, 101]⟩, false, ⟨#[]⟩, (m : Int) - 2⟩
def tagA (m : Nat) : Attrd := ⟨⟨#[116, 97, 103]⟩, true, tagS m, 0⟩
theorem kindS_ok {k : Nat} (h : k < 3) : wordB (kindS k).data.toList = true ∧ (kindS k).size ≤ 9223372036854775807 := by
  have : k = 0 ∨ k = 1 ∨ k = 2 := by omega
  rcases this with rfl | rfl | rfl <;> exact ⟨by decide, by decide⟩
theorem nmS_ok {k : Nat} (h : k < 4) : wordB (nmS k).data.toList = true ∧ (nmS k).size ≤ 9223372036854775807 := by
  have : k = 0 ∨ k = 1 ∨ k = 2 ∨ k = 3 := by omega
  rcases this with rfl | rfl | rfl | rfl <;> exact ⟨by decide, by decide⟩
theorem tamId {k n : Nat} (hk : k < 3) (hn : n < 4) : okI ⟨kindS k, nmS n⟩ ∧ idB ⟨kindS k, nmS n⟩ = true :=
  ⟨⟨(kindS_ok hk).2, (nmS_ok hn).2⟩, by unfold idB; rw [(kindS_ok hk).1, (nmS_ok hn).1]; rfl⟩
theorem sizeA_ok {m : Nat} (h : m < 5) : attrB (sizeA m) = true ∧ okA (sizeA m) := by
  refine ⟨?_, (by decide : (⟨#[115, 105, 122, 101]⟩ : ByteArray).size ≤ 9223372036854775807), (by decide : (⟨#[]⟩ : ByteArray).size ≤ 9223372036854775807), by simp [sizeA]; omega, by simp [sizeA]; omega⟩
  have : m = 0 ∨ m = 1 ∨ m = 2 ∨ m = 3 ∨ m = 4 := by omega
  rcases this with rfl | rfl | rfl | rfl | rfl <;> decide
theorem tagA_ok {m : Nat} (h : m < 3) : attrB (tagA m) = true ∧ okA (tagA m) := by
  have : m = 0 ∨ m = 1 ∨ m = 2 := by omega
  rcases this with rfl | rfl | rfl <;> exact ⟨by decide, by decide, by decide, by decide, by decide⟩
/-- The attributes that tamed makes: behind the first test; behind the second. -/
def Sized (ats : List Attrd) : Prop := ats = [] ∨ ∃ m, m < 5 ∧ ats = [sizeA m]
def Tagged (ats : List Attrd) : Prop := ∃ bs, Sized bs ∧ (ats = bs ∨ ∃ m, m < 3 ∧ ats = bs ++ [tagA m])
theorem size_tag (m k : Nat) : lessA (sizeA m) (tagA k) = true := by
  unfold lessA sizeA tagA; exact (by decide : decide (cmpS ⟨#[115, 105, 122, 101]⟩ ⟨#[116, 97, 103]⟩ < 0) = true)
theorem Sized.few {ats : List Attrd} (h : Sized ats) : ats.length ≤ 1 := by rcases h with rfl | ⟨m, _, rfl⟩ <;> simp
theorem Tagged.ok {ats : List Attrd} (h : Tagged ats) : ats.length ≤ 2 ∧ ats.all attrB = true ∧ risesB lessA ats = true ∧ ∀ a ∈ ats, okA a := by
  obtain ⟨bs, hb, h⟩ := h
  rcases hb with rfl | ⟨m, hm, rfl⟩
  · rcases h with rfl | ⟨k, hk, rfl⟩
    · exact ⟨by simp, rfl, rfl, fun a h => (by cases h)⟩
    · exact ⟨by simp, by simp [(tagA_ok hk).1], rfl, fun a h => by rcases List.mem_singleton.1 h with rfl; exact (tagA_ok hk).2⟩
  · rcases h with rfl | ⟨k, hk, rfl⟩
    · exact ⟨by simp, by simp [(sizeA_ok hm).1], rfl, fun a h => by rcases List.mem_singleton.1 h with rfl; exact (sizeA_ok hm).2⟩
    · refine ⟨by simp, by simp [(sizeA_ok hm).1, (tagA_ok hk).1], by simp [risesB, size_tag], fun a h => ?_⟩
      simp at h
      rcases h with rfl | rfl
      · exact (sizeA_ok hm).2
      · exact (tagA_ok hk).2
theorem Sized.tagged {ats : List Attrd} (h : Sized ats) : Tagged ats := ⟨ats, h, .inl rfl⟩
theorem Sized.tag {ats : List Attrd} {m : Nat} (h : Sized ats) (hm : m < 3) : Tagged (ats ++ [tagA m]) := ⟨ats, h, .inr ⟨m, hm, rfl⟩⟩
/-- What comes behind which. -/
structure AftI (ids : List IDd) (k : Nat) (af : List IDd) : Prop where
  mem : ∀ a ∈ af, a ∈ ids.take k
  up : Up af
  len : af.length ≤ k
theorem AftI.nil (ids : List IDd) : AftI ids 0 [] := ⟨fun a h => (by cases h), List.Pairwise.nil, Nat.le_refl _⟩
theorem AftI.skip {ids : List IDd} {k : Nat} {af : List IDd} (h : AftI ids k af) : AftI ids (k + 1) af :=
  ⟨fun a ha => (List.take_subset_take_left _ (Nat.le_succ k)) (h.mem a ha), h.up, Nat.le_succ_of_le h.len⟩
theorem AftI.more {ids : List IDd} {k : Nat} {af : List IDd} {a : IDd} (h : AftI ids k af) (hn : ids.Nodup) (ha : ids[k]? = some a) (h6 : ¬ af.length = 6) : AftI ids (k + 1) (laidS af a) := by
  have hlt := (List.getElem?_eq_some_iff.1 ha).1
  have e : ids[k] = a := (List.getElem?_eq_some_iff.1 ha).2
  have hni : a ∉ af := fun hm => by
    obtain ⟨j, hj⟩ := List.mem_iff_getElem?.1 (h.mem a hm)
    rw [List.getElem?_take] at hj
    split at hj
    · rename_i hjk
      have := nod_at hn hj ha
      omega
    · cases hj
  unfold laidS
  rw [if_neg h6]
  refine ⟨fun b hb => ?_, laid_up h.up hni, by rw [laid_len]; have := h.len; omega⟩
  rw [List.take_succ_eq_append_getElem hlt, List.mem_append, List.mem_singleton, e]
  rcases laid_mem.1 hb with rfl | hb
  · exact .inr rfl
  · exact .inl (h.mem b hb)
theorem up_risesI : ∀ {l : List IDd}, Up l → risesB lessI l = true
  | [], _ => rfl
  | [_], _ => rfl
  | a :: b :: l, h => by
    have h1 := List.pairwise_cons.1 h
    have h2 := h1.1 b List.mem_cons_self
    simp only [risesB, Bool.and_eq_true]
    exact ⟨by simpa [lessI] using h2, up_risesI h1.2⟩
theorem tam_may {ids : List IDd} {k : Nat} {id : IDd} {ats : List Attrd} {af : List IDd} (hi : idB id = true) (ha : Tagged ats) (hf : AftI ids k af) (hk : k ≤ 6) (hb : ∀ a ∈ ids, idB a = true) : mayB ⟨id, ats, af⟩ = true := by
  obtain ⟨h1, h2, h3, -⟩ := ha.ok
  have h4 := hf.len
  simp only [mayB, Bool.and_eq_true, decide_eq_true_eq]
  exact ⟨⟨⟨⟨⟨⟨by omega, by omega⟩, hi⟩, h2⟩, h3⟩, List.all_eq_true.2 fun a h => hb a (List.mem_of_mem_take (hf.mem a h))⟩, up_risesI hf.up⟩

theorem attrsV_ownT {B : Nat} {w : World} {v : Value} {l : List Attrd} (h : w.ownsRow B 66 4 v l.length (cellsA l)) (hn : l.length ≤ 1000) (hok : ∀ a ∈ l, okA a) : AttrsV w v l := by
  refine ⟨?_, by omega, hok⟩
  rcases h.2 with ⟨rfl, h0⟩ | ⟨g, cap, cur, rfl, _, hg, hc, hm, hs, ht⟩
  · have : l = [] := List.eq_nil_of_length_eq_zero h0
    subst this
    exact ⟨none, 0, rfl, Nat.le_refl _, by decide, .inl rfl⟩
  · unfold maxLen at hm
    refine ⟨some ⟨g, 0, none⟩, cap, rfl, hc, by omega, .inr ⟨g, 0, rfl, fun i x hx => ?_⟩⟩
    have hlt : i < l.length := (List.getElem?_eq_some_iff.1 hx).1
    have key : ∀ r, r < 4 → w.cell? ⟨g, 0 + i * 4 + r, none⟩ = (cA x)[r]? := fun r hr => by
      have h1 : (cellsA l)[i * 4 + r]? = (cA x)[r]? := flat_get cA_len hx hr
      rw [← h1, ← ht, List.getElem?_take, if_pos (by omega), Nat.zero_add]
      simp [World.cell?, hg]
    exact ⟨key 0 (by omega), key 1 (by omega), key 2 (by omega), key 3 (by omega)⟩

/-- What may turn while a resource is made. -/
def D2 (R : Nat) (idv : Value) : Nat → Prop := fun k => k = R ∨ some k = idv.ownBlock
def Stab (R : Nat) (idv : Value) (w : World) (q : ResC) : Prop := ∀ w', Kept (D2 R idv) w w' → q.In w'
theorem Stab.here {R : Nat} {idv : Value} {w : World} {q : ResC} (h : Stab R idv w q) : q.In w := h w (Kept.refl _ w)
/-- Between two rounds. -/
structure TamL (w0 : World) (R : Nat) (v : Value) (rl : List Int) (idv lv : Value) (ids : List IDd) (qs : List ResC) (wr : World) : Prop where
  box : ∃ k, k ≤ rl.length ∧ wr.heap[R]? = some (.cells #[v, .int .i64 (k : Nat)] 62 (0, 0))
  ext : Ext w0 wr
  tam : TamI ids (qs.map ResC.x)
  idrow : wr.ownsRow (R + 1) 25 2 idv ids.length (cellsI ids)
  lrow : wr.ownsRow (R + 1) 29 4 lv qs.length (cellsQ qs)
  stab : ∀ q ∈ qs, Stab R idv wr q
  ok : ∀ a ∈ ids, okI a ∧ idB a = true
theorem raw_of {w0 w : World} {v : Value} {rl : List Int} {k : Nat} (hi : IntsV w0 v rl) (x : Ext w0 w) (hb : w.heap[w0.heap.size]? = some (.cells #[v, .int .i64 (k : Nat)] 62 (0, 0))) (hk : k ≤ rl.length) : RawAt w w0.heap.size v rl k := by
  refine ⟨hb, hi.ext x, hk, fun hne ad n cap hv e => ?_⟩
  obtain ⟨a, c, h1, -, -, h2⟩ := hi.shape
  rcases h2 with h2 | ⟨b, off, rfl, h2⟩
  · exact hne h2
  · rw [h1] at hv
    injection hv with e1
    injection e1 with e1
    subst e1
    cases rl with
    | nil => exact hne rfl
    | cons y rl =>
      have := World.block_lt_of_cell? _ _ (h2 0 y rfl)
      simp only at this e
      omega
/-- While one is made. -/
structure MidT (wr : World) (R : Nat) (v : Value) (rl : List Int) (Bi Br : Nat) (id : IDd) (ats : List Attrd) (va : Value) (af : List IDd) (vf : Value) (wx : World) : Prop where
  box : ∃ k, k ≤ rl.length ∧ wx.heap[R]? = some (.cells #[v, .int .i64 (k : Nat)] 62 (0, 0))
  kept : Kept (· = R) wr wx
  idb : wx.heap[Bi]? = some (.cells #[.string id.kind, .string id.name] 25 (0, 0))
  rb : wx.heap[Br]? = some (.cells #[.string id.kind, .string id.name, va, vf] 29 (0, 0))
  arow : wx.ownsRow wr.heap.size 66 4 va ats.length (cellsA ats)
  frow : wx.ownsRow wr.heap.size 25 2 vf af.length (cellsI af)
  bi : wr.heap.size ≤ Bi
  br : wr.heap.size ≤ Br
  rlt : R < wr.heap.size
section
variable {wr : World} {R : Nat} {v : Value} {rl : List Int} {Bi Br : Nat} {id : IDd} {ats : List Attrd} {va : Value} {af : List IDd} {vf : Value} {wx w5 : World}
theorem own_mono {w : World} {B B' : Nat} {T : TypeId} {sz n : Nat} {u : Value} {xs : List Value} (h : w.ownsRow B T sz u n xs) (hb : B' ≤ B) : w.ownsRow B' T sz u n xs :=
  ⟨h.1, h.2.imp (fun h => h) fun ⟨g, cap, cur, e, hg, r⟩ => ⟨g, cap, cur, e, Nat.le_trans hb hg, r⟩⟩
theorem own_ge {w : World} {B : Nat} {T : TypeId} {sz n : Nat} {u : Value} {xs : List Value} (h : w.ownsRow B T sz u n xs) {g : Nat} (hg : u.ownBlock = some g) : B ≤ g ∧ g < w.heap.size := h.lt g hg
theorem MidT.next {k : Nat} (h : MidT wr R v rl Bi Br id ats va af vf wx) (hK : Kept (· = R) wx w5) (hk : k ≤ rl.length) (hb : w5.heap[R]? = some (.cells #[v, .int .i64 (k : Nat)] 62 (0, 0))) : MidT wr R v rl Bi Br id ats va af vf w5 := by
  have h1 := h.rlt; have h2 := h.bi; have h3 := h.br
  refine ⟨⟨k, hk, hb⟩, h.kept.trans hK (fun _ _ h => h), hK.heap h.idb (by omega), hK.heap h.rb (by omega), ownsRow_keptR h.arow hK (fun g hg e => by have := own_ge h.arow hg; omega), ownsRow_keptR h.frow hK (fun g hg e => by have := own_ge h.frow hg; omega), h2, h3, h1⟩
theorem MidT.ext (h : MidT wr R v rl Bi Br id ats va af vf wx) (e : Ext wx w5) : MidT wr R v rl Bi Br id ats va af vf w5 := by
  obtain ⟨k, hk, hb⟩ := h.box
  exact h.next (e.kept _) hk (ext_heap e hb)
theorem MidT.attr {ats' : List Attrd} {va' : Value} (h : MidT wr R v rl Bi Br id ats va af vf wx) (hK : Kept (fun k => some k = va.ownBlock) wx w5) (hr : w5.ownsRow wr.heap.size 66 4 va' ats'.length (cellsA ats')) : MidT wr R v rl Bi Br id ats' va' af vf (w5.setCell ⟨Br, 2, none⟩ va') := by
  obtain ⟨k, hk, hb⟩ := h.box
  have h1 := h.rlt; have h2 := h.bi; have h3 := h.br
  have nb : ∀ {j : Nat} {c : Array Value} {t : TypeId} {fz : Nat × Nat}, wx.heap[j]? = some (.cells c t fz) → t ≠ 66 → ¬ some j = va.ownBlock := fun hj ht e => ownsRow_ne h.arow hj ht e
  have rb5 := hK.heap h.rb (nb h.rb (by decide))
  have ib5 := hK.heap h.idb (nb h.idb (by decide))
  have R5 := hK.heap hb (nb hb (by decide))
  have f5 := ownsRow_keptR h.frow hK (fun g hg e => by
    rcases h.frow.2 with ⟨rfl, _⟩ | ⟨g', cap, cur, rfl, _, hg', _⟩
    · cases hg
    · injection hg with hg; subst hg; exact nb hg' (by decide) e)
  have K6 := kept_setCell w5 ⟨Br, 2, none⟩ va'
  have nr : ¬ Bi = Br := fun e => by rw [← e, ib5] at rb5; cases rb5
  refine ⟨⟨k, hk, K6.heap R5 (by show ¬ R = Br; omega)⟩, (h.kept.trans hK (fun j hj e => ?_)).trans K6 (fun j hj e => ?_), K6.heap ib5 nr, (row_set rb5 2 _).trans rfl, ownsRow_keptR hr K6 (fun g hg e => ?_), ownsRow_keptR f5 K6 (fun g hg e => ?_), h2, h3, h1⟩
  · exact absurd (own_ge h.arow e.symm).1 (by omega)
  · have e' : j = Br := e
    omega
  · have e' : g = Br := e
    rw [e'] at hg; exact ownsRow_ne hr rb5 (by decide) hg.symm
  · have e' : g = Br := e
    rw [e'] at hg; exact ownsRow_ne f5 rb5 (by decide) hg.symm
theorem MidT.aft {af' : List IDd} {vf' : Value} (h : MidT wr R v rl Bi Br id ats va af vf wx) (e : Ext wx w5) (hr : w5.ownsRow wr.heap.size 25 2 vf' af'.length (cellsI af')) : MidT wr R v rl Bi Br id ats va af' vf' (w5.setCell ⟨Br, 3, none⟩ vf') := by
  have h5 := h.ext e
  obtain ⟨k, hk, hb⟩ := h5.box
  have h1 := h.rlt; have h2 := h.bi; have h3 := h.br
  have K6 := kept_setCell w5 ⟨Br, 3, none⟩ vf'
  have nr : ¬ Bi = Br := fun e => by have := h5.rb; rw [← e, h5.idb] at this; cases this
  refine ⟨⟨k, hk, K6.heap hb (by show ¬ R = Br; omega)⟩, h5.kept.trans K6 (fun j hj e => ?_), K6.heap h5.idb nr, (row_set h5.rb 3 _).trans rfl, ownsRow_keptR h5.arow K6 (fun g hg e => ?_), ownsRow_keptR hr K6 (fun g hg e => ?_), h2, h3, h1⟩
  · have e' : j = Br := e
    omega
  · have e' : g = Br := e
    rw [e'] at hg; exact ownsRow_ne h5.arow h5.rb (by decide) hg.symm
  · have e' : g = Br := e
    rw [e'] at hg; exact ownsRow_ne hr h5.rb (by decide) hg.symm
variable {w0 w6 : World} {idv lv : Value} {ids : List IDd} {qs : List ResC}
theorem TamL.idsAt (h : TamL w0 R v rl idv lv ids qs wr) (hm : Kept (· = R) wr wx) : wx.ownsRow (R + 1) 25 2 idv ids.length (cellsI ids) :=
  ownsRow_keptR h.idrow hm (fun g hg e => by have := own_ge h.idrow hg; omega)
/-- One that is made, and laid beside the others. -/
theorem TamL.stepD {a2 : Option Addr} {p2 : Nat} {a3 : Option Addr} {p3 : Nat} (h : TamL w0 R v rl idv lv ids qs wr) (hm : MidT wr R v rl Bi Br id ats (.slice a2 ats.length p2) af (.slice a3 af.length p3) wx)
    (hK : Kept (fun k => some k = idv.ownBlock) wx w5) (hi : okI id) (ha : Tagged ats) (hf : AftI ids ids.length af) (h6 : ids.length ≤ 6) :
    w5.ownsRow (R + 1) 29 4 lv qs.length (cellsQ qs) ∧ (∀ q ∈ qs, q.In w5) ∧ (∀ g5, (idv.ownBlock = some g5 ∨ wx.heap.size ≤ g5) → ∀ w7, Kept (fun k => k = R ∨ k = g5) w5 w7 → ResC.In w7 ⟨⟨id, ats, af⟩, a2, ats.length, p2, a3, af.length, p3⟩) ∧ w5.heap[Br]? = some (.cells #[.string id.kind, .string id.name, .slice a2 ats.length p2, .slice a3 af.length p3] 29 (0, 0)) := by
  have h1 := hm.rlt; have h2 := hm.bi; have h3 := hm.br
  have hle := hm.kept.size
  have old : ∀ {g}, idv.ownBlock = some g → g < wr.heap.size := fun hg => (own_ge h.idrow hg).2
  have K5 : Kept (D2 R idv) wr w5 := (hm.kept.mono (fun k _ e => .inl e)).trans hK (fun k _ e => .inr e)
  have a5 := ownsRow_keptR hm.arow hK (fun g hg e => by have := old e.symm; have := own_ge hm.arow hg; omega)
  have f5 := ownsRow_keptR hm.frow hK (fun g hg e => by have := old e.symm; have := own_ge hm.frow hg; omega)
  refine ⟨ownsRow_keptR h.lrow K5 (fun g hg e => ?_), fun q hq => h.stab q hq _ K5, fun g5 hg5 w7 K7 => ?_, hK.heap hm.rb (fun e => by have := old e.symm; omega)⟩
  · rcases e with e | e
    · have := own_ge h.lrow hg; omega
    · rcases h.lrow.2 with ⟨rfl, _⟩ | ⟨g', cap, cur, rfl, _, hg', _⟩
      · cases hg
      · injection hg with hg; subst hg; exact ownsRow_ne h.idrow hg' (by decide) e
  · have far : ∀ {T : TypeId} {sz n : Nat} {u : Value} {xs : List Value}, wx.ownsRow wr.heap.size T sz u n xs → ∀ g, u.ownBlock = some g → ¬ (g = R ∨ g = g5) := fun hu g hg e => by
      have h4 := own_ge hu hg
      rcases e with e | e
      · omega
      · rcases hg5 with h5 | h5
        · have := old h5; omega
        · omega
    have a7 := ownsRow_keptR a5 K7 (far hm.arow)
    have f7 := ownsRow_keptR f5 K7 (far hm.frow)
    have hl := hf.len
    have hn := ha.ok
    exact ⟨hi, attrsV_ownT a7 (Nat.le_trans hn.1 (by decide)) hn.2.2.2, idsV_own f7 (Nat.le_trans hl (Nat.le_trans h6 (by decide))) (fun a haf => (h.ok a (List.mem_of_mem_take (hf.mem a haf))).1)⟩
/-- The round's end. -/
theorem TamL.more {a2 : Option Addr} {p2 : Nat} {a3 : Option Addr} {p3 : Nat} {idv5 lv6 : Value} {qs6 : List ResC} {g5 : Nat} (h : TamL w0 w0.heap.size v rl idv lv ids qs wr) (hm : MidT wr w0.heap.size v rl Bi Br id ats (.slice a2 ats.length p2) af (.slice a3 af.length p3) wx)
    (hK : Kept (fun k => some k = idv.ownBlock) wx w5) (hi : okI id) (hb : idB id = true) (ha : Tagged ats) (hf : AftI ids ids.length af) (h6 : ids.length ≤ 6) (hn : id ∉ ids)
    (hg : idv5.ownBlock = some g5) (hg5 : idv.ownBlock = some g5 ∨ wx.heap.size ≤ g5) (hr : w5.ownsRow (w0.heap.size + 1) 25 2 idv5 (ids ++ [id]).length (cellsI (ids ++ [id]))) (x6 : Ext w5 w6)
    (hq : qs6.map ResC.x = putS (qs.map ResC.x) ⟨id, ats, af⟩) (hin : ∀ q ∈ qs6, q ∈ qs ∨ q = ⟨⟨id, ats, af⟩, a2, ats.length, p2, a3, af.length, p3⟩) (hl : w6.ownsRow (w5.heap.size + 1) 29 4 lv6 qs6.length (cellsQ qs6)) :
    TamL w0 w0.heap.size v rl idv5 lv6 (ids ++ [id]) qs6 w6 := by
  have h1 := hm.rlt
  have hle := hm.kept.size
  have hle5 := hK.size
  have old : ∀ {g}, idv.ownBlock = some g → w0.heap.size + 1 ≤ g ∧ g < wr.heap.size := fun hg => own_ge h.idrow hg
  obtain ⟨-, -, hB, -⟩ := h.stepD hm hK hi ha hf h6
  obtain ⟨k, hk, hbx⟩ := hm.box
  refine ⟨⟨k, hk, ext_heap x6 (hK.heap hbx (fun e => by have := old e.symm; omega))⟩, ((h.ext.since hm.kept (fun j e => by omega)).since hK (fun j e => by have := old e.symm; omega)).trans x6, ?_, ownsRow_keptR hr (x6.kept (fun _ => False)) (fun _ _ e => e), own_mono hl (by omega), fun q hqm w7 K7 => ?_, fun a ham => ?_⟩
  · rw [hq]
    exact h.tam.more (r := ⟨id, ats, af⟩) hn (tam_may hb ha hf h6 (fun a h' => (h.ok a h').2)) (fun a haf => List.mem_of_mem_take (hf.mem a haf))
  · have K57 : Kept (fun k => k = w0.heap.size ∨ k = g5) w5 w7 := (x6.kept _).trans (D' := D2 w0.heap.size idv5) K7 (fun k _ e => by
      rcases e with e | e
      · exact .inl e
      · rw [hg] at e; injection e with e; exact .inr e)
    rcases hin q hqm with hq' | rfl
    · refine h.stab q hq' _ (((hm.kept.mono (fun k _ e => .inl e)).trans hK (fun k _ e => .inr e)).trans K57 (fun k hk e => ?_))
      rcases e with e | e
      · exact .inl e
      · rcases hg5 with h5 | h5
        · rw [e]; exact .inr h5.symm
        · omega
    · exact hB g5 hg5 w7 K57
  · rcases List.mem_append.1 ham with ham | ham
    · exact h.ok a ham
    · obtain rfl : a = id := by simpa using ham
      exact ⟨hi, hb⟩
theorem TamL.nextR {k : Nat} (h : TamL w0 w0.heap.size v rl idv lv ids qs wr) (hK : Kept (· = w0.heap.size) wr wx) (hk : k ≤ rl.length) (hb : wx.heap[w0.heap.size]? = some (.cells #[v, .int .i64 (k : Nat)] 62 (0, 0))) : TamL w0 w0.heap.size v rl idv lv ids qs wx :=
  ⟨⟨k, hk, hb⟩, h.ext.since hK (fun j e => by omega), h.tam, h.idsAt hK, ownsRow_keptR h.lrow hK (fun g hg e => by have := own_ge h.lrow hg; omega), fun q hq w7 K7 => h.stab q hq _ ((hK.mono (fun k _ e => .inl e)).trans K7 (fun k _ e => e)), h.ok⟩
theorem TamL.extR (h : TamL w0 w0.heap.size v rl idv lv ids qs wr) (e : Ext wr wx) : TamL w0 w0.heap.size v rl idv lv ids qs wx := by
  obtain ⟨k, hk, hb⟩ := h.box
  exact h.nextR (e.kept _) hk (ext_heap e hb)
end
end Go.Proofs.YtfmcgdglalljgaaGreatDoor

namespace Go.Proofs.YtfmcgdglalljgaaGreatDoor
open Go.RowKit

attribute [local go_sem] Go.World.cell?_alloc_some
def TamedIs (w : World) (e : Ending) (w' : World) : Prop :=
  ∃ (qs : List ResC) (pa : Option Addr) (cap : Nat), e = .returned (.slice pa qs.length cap) ∧ Hid (w'.ownsRow 0 29 4 (.slice pa qs.length cap) qs.length (cellsQ qs)) ∧ Hid (∀ q ∈ qs, q.In w') ∧ Hid (FineP (qs.map ResC.x)) ∧ qs.length ≤ 12 ∧ Hid (Ext w w')
theorem TamL.few {w0 wr : World} {R : Nat} {v : Value} {rl : List Int} {idv lv : Value} {ids : List IDd} {qs : List ResC} (h : TamL w0 R v rl idv lv ids qs wr) (h6 : ids.length ≤ 6) : qs.length ≤ 12 := by
  have := (h.tam.fine (by omega)).1
  simp only [mayAllB, Bool.and_eq_true, decide_eq_true_eq] at this
  have := this.1.1
  rw [List.length_map] at this
  exact this
theorem TamL.fin {w0 wr : World} {R : Nat} {v : Value} {rl : List Int} {idv : Value} {pl : Option Addr} {cl : Nat} {ids : List IDd} {qs : List ResC} (h : TamL w0 R v rl idv (.slice pl qs.length cl) ids qs wr) (h6 : ids.length ≤ 6) : TamedIs w0 (.returned (.slice pl qs.length cl)) wr :=
  ⟨qs, pl, cl, rfl, own_mono h.lrow (Nat.zero_le _), fun q hq => (h.stab q hq).here, h.tam.fine (by omega), h.few h6, h.ext⟩

set_option maxRecDepth 100000 in
set_option maxHeartbeats 6400000 in
theorem tamedL (v : Value) (rl : List Int) (w : World) (hv : IntsV w v rl) : Calls Tryz.prog 5 #[v] w (TamedIs w) := by
  obtain ⟨vpa, vcap, rfl, -⟩ := hv.shape
  obtain ⟨i0, hi0, hz0, hz1, hz2⟩ := info_of infoID
  obtain ⟨iA, hiA, ha0, ha1, ha2⟩ := info_of infoAttr
  have Bx0 := heap_alloc_new w (.cells #[(.slice vpa rl.length vcap), .int .i64 0] 62)
  have hR0 := hide (raw_of (k := 0) hv ((Ext.refl w).alloc _) Bx0 (Nat.zero_le _))
  have X0 := hide ((Ext.refl w).alloc (.cells #[(.slice vpa rl.length vcap), .int .i64 0] 62))
  replace hv := hide hv; replace hi0 := hide hi0; replace hiA := hide hiA; replace Bx0 := hide Bx0
  go_enter Tryz.func5, Tryz.ntmps5
  go_wp2_with fail
  refine (nextL w.heap.size (.slice vpa rl.length vcap) rl 0 7 _ hR0.out (by omega) (by omega)).mono ?_
  rintro e1 w1 ⟨many, k1, rfl, hm7, hb1, hk1, K1⟩
  have T1 : Hid (TamL w w.heap.size (.slice vpa rl.length vcap) rl (.slice none 0 0) (.slice none 0 0) [] [] w1) := ⟨⟨k1, hk1, hb1.out⟩, X0.out.since K1.out (fun j e => by omega), TamI.nil, World.ownsRow_nil _ _ _ _, World.ownsRow_nil _ _ _ _, fun q hq => (by cases hq), fun a ha => (by cases ha)⟩
  replace hb1 := hide hb1; replace K1 := hide K1
  go_wp2_with fail
  go_loopw [3, 4, 7] (fun idv lv kv wr => ∃ (ids : List IDd) (qs : List ResC) (po pl : Option Addr) (co cl k : Nat), idv = .slice po ids.length co ∧ lv = .slice pl qs.length cl ∧ kv = .int .i64 k ∧ k ≤ many ∧ ids.length ≤ k ∧ Hid (TamL w w.heap.size (.slice vpa rl.length vcap) rl (.slice po ids.length co) (.slice pl qs.length cl) ids qs wr)) (fun _ _ kv _ => many - (intOf kv).toNat)
  case atStart => exact ⟨[], [], none, none, 0, 0, 0, rfl, rfl, rfl, Nat.zero_le _, Nat.le_refl _, T1⟩
  case round =>
    obtain ⟨ids, qs, po, pl, co, cl, k, rfl, rfl, rfl, hk, hid, T⟩ := hrel
    obtain ⟨wo, rfl⟩ : ∃ wo : World, wo = wr := ⟨_, rfl⟩
    by_cases hlt : k < many
    · have k2 : decide ((k : Int) < (many : Int)) = true := by simp; omega
      obtain ⟨kr, hkr, hbr⟩ := T.out.box
      have hRr := hide (raw_of hv.out T.out.ext hbr hkr)
      replace hbr := hide hbr
      go_wp2_with fail
      refine (nextL w.heap.size (.slice vpa rl.length vcap) rl kr 3 _ hRr.out (by omega) (by omega)).mono ?_
      rintro e2 w2 ⟨kd, kr2, rfl, hkd, hb2, hkr2, K2⟩
      have T2 := hide (T.out.nextR K2.out hkr2 hb2.out)
      have hR2 := hide (raw_of hv.out T2.out.ext hb2.out hkr2)
      replace hb2 := hide hb2; replace K2 := hide K2
      go_wp2_with fail
      refine (nextL w.heap.size (.slice vpa rl.length vcap) rl kr2 4 _ hR2.out (by omega) (by omega)).mono ?_
      rintro e3 w3 ⟨nm, kr3, rfl, hnm, hb3, hkr3, K3⟩
      have T3 := hide (T2.out.nextR K3.out hkr3 hb3.out)
      replace hb3 := hide hb3; replace K3 := hide K3
      have d1 : IntKind.i64.wrap ((kd : Int) + 1) = (kd : Int) + 1 := by rw [IntKind.wrap_i64]; omega
      have d2 : IntKind.i64.wrap ((nm : Int) + 1) = (nm : Int) + 1 := by rw [IntKind.wrap_i64]; omega
      have d3 : (0 : Int) ≤ (kd : Int) := by omega
      have d4 : (0 : Int) ≤ (nm : Int) := by omega
      have d5 : (kd : Int) + 1 ≤ 3 := by omega
      have d6 : (nm : Int) + 1 ≤ 4 := by omega
      have d7 : (kd : Int) ≤ (kd : Int) + 1 := by omega
      have d8 : (nm : Int) ≤ (nm : Int) + 1 := by omega
      go_upto_region 10 with fail
      go_region_held3 (fun _ => True) (trivial) (fail)
      have hidk := hide (tamId hkd hnm)
      have hksd : Hid (kindS kd = (⟨#[118, 110, 119]⟩ : ByteArray).extract kd (kd + 1)) := rfl
      have hnsd : Hid (nmS nm = (⟨#[97, 98, 99, 100]⟩ : ByteArray).extract nm (nm + 1)) := rfl
      rw [← hksd.out, ← hnsd.out]
      generalize kindS kd = ks at *
      generalize nmS nm = ns at *
      clear hksd hnsd d1 d2 d3 d4 d5 d6 d7 d8
      have I4 : ((w3.alloc (.cells #[.string ks, .string ns] 25)).drew).heap[w3.heap.size]? = some (.cells #[.string ks, .string ns] 25 (0, 0)) := heap_alloc_new w3 _
      have X4 : Ext w3 ((w3.alloc (.cells #[.string ks, .string ns] 25)).drew) := ((Ext.refl w3).alloc _).drew
      generalize (w3.alloc (.cells #[.string ks, .string ns] 25)).drew = w4 at *
      have hV4 := hide (idsV_own (ownsRow_keptR T3.out.idrow (X4.kept (fun _ => False)) (fun _ _ e => e)) (by omega) (fun a ha => (T3.out.ok a ha).1))
      obtain ⟨z0, z1⟩ := twoAt I4
      replace I4 := hide I4; replace X4 := hide X4
      go_wp2_with fail
      refine (holdsL _ ids ⟨ks, ns⟩ w4 hV4.out).mono ?_
      rintro e5 w5 ⟨b5, rfl, hb5, X5⟩
      have I5 := hide (ext_heap X5.out I4.out)
      have X35 := hide (X4.out.trans X5.out)
      replace X5 := hide X5.out
      clear z0 z1
      cases b5 with
      | true =>
        go_wp2_with fail
        go_roundw
        case rel => exact ⟨ids, qs, po, pl, co, cl, k + 1, rfl, rfl, by go_num, by omega, by omega, T3.out.extR X35.out⟩
        case measure => simp [intOf]; omega
      | false =>
        have hni : Hid (¬ (⟨ks, ns⟩ : IDd) ∈ ids) := fun h => by cases hb5.out.2 h
        obtain ⟨z0, z1⟩ := twoAt I5.out
        have M6 : Hid (MidT w3 w.heap.size (.slice vpa rl.length vcap) rl w3.heap.size w5.heap.size ⟨ks, ns⟩ [] (.slice none 0 0) [] (.slice none 0 0) (w5.alloc (.cells #[.string ks, .string ns, .slice none 0 0, .slice none 0 0] 29))) := by
          have E6 := X35.out.alloc (.cells #[.string ks, .string ns, .slice none 0 0, .slice none 0 0] 29)
          have hR3 := (Array.getElem?_eq_some_iff.1 hb3.out).1
          exact ⟨⟨kr3, hkr3, ext_heap E6 hb3.out⟩, E6.kept _, ext_heap ((Ext.refl w5).alloc _) I5.out, heap_alloc_new w5 _, World.ownsRow_nil _ _ _ _, World.ownsRow_nil _ _ _ _, Nat.le_refl _, Ext.size X35.out, hR3⟩
        have hR6 := hide (raw_of hv.out (T3.out.ext.trans (X35.out.alloc (.cells #[.string ks, .string ns, .slice none 0 0, .slice none 0 0] 29))) (ext_heap (X35.out.alloc (.cells #[.string ks, .string ns, .slice none 0 0, .slice none 0 0] 29)) hb3.out) hkr3)
        go_wp2_with fail
        refine (nextL w.heap.size (.slice vpa rl.length vcap) rl kr3 2 _ hR6.out (by omega) (by omega)).mono ?_
        rintro e7 w7 ⟨z7, kr7, rfl, hz7, hb7, hkr7, K7⟩
        have M7 := hide (M6.out.next K7.out hkr7 hb7.out)
        replace hb7 := hide hb7; replace K7 := hide K7
        clear z0 z1
        go_upto_if 47 with fail
        go_cut [] (fun wx => ∃ (ats : List Attrd) (pa2 : Option Addr) (p2 : Nat), Hid (Sized ats) ∧ Hid (MidT w3 w.heap.size (.slice vpa rl.length vcap) rl w3.heap.size w5.heap.size ⟨ks, ns⟩ ats (.slice pa2 ats.length p2) [] (.slice none 0 0) wx))
        case first =>
          by_cases h0 : z7 = 0
          · have h0b : ((z7 : Int) == 0) = true := by simp [h0]
            replace h0 := hide h0
            have hR7 := hide (raw_of hv.out (T3.out.ext.since M7.out.kept (fun j e => by omega)) hb7.out hkr7)
            go_wp2_with fail
            refine (nextL w.heap.size (.slice vpa rl.length vcap) rl kr7 5 _ hR7.out (by omega) (by omega)).mono ?_
            rintro e8 w8 ⟨z8, kr8, rfl, hz8, hb8, hkr8, K8⟩
            have M8 := hide (M7.out.next K8.out hkr8 hb8.out)
            replace hb8 := hide hb8; replace K8 := hide K8
            have d1 : IntKind.i64.wrap ((z8 : Int) - 2) = (z8 : Int) - 2 := by rw [IntKind.wrap_i64]; omega
            obtain ⟨q0, q1, q2, q3⟩ := boxIs M8.out.rb
            have hs8 : Hid (w3.heap.size ≤ w8.heap.size) := M8.out.kept.size
            go_wp2_with (at_builtin; go_loud (refine wpList_append_lies _ rfl (.tmp 51) (.tmp 55) 26 rfl w3.heap.size 66 iA (.agg #[.string ⟨#[]⟩, .bool false, .string ⟨#[]⟩, .int .i64 0]) 4 48 Tryz.underlying26 hiA.out ha0 ha1 ha2 rfl (by omega) _ 0 [] rfl (World.ownsRow_nil _ _ _ _) ⟨w8.heap.size, 0, none⟩ 1 1 (cA (sizeA z8)) rfl rfl ?_ (cA_one _) (by omega) (by unfold maxLen; omega) (by omega) (by have := hs8.out; simp; omega) (w8.heap.size + 1) (by simp) ?_; (intro j u hu; rw [add_eq]; (match j, hu with | 0, hu => (simp [cA, sizeA] at hu; subst hu; simp [go_sem]) | 1, hu => (simp [cA, sizeA] at hu; subst hu; simp [go_sem]) | 2, hu => (simp [cA, sizeA] at hu; subst hu; simp [go_sem]) | 3, hu => (simp [cA, sizeA] at hu; subst hu; simp [go_sem]) | _ + 4, hu => (simp [cA] at hu))); intro g9 c9 w9 hown9 hgrow9 hat9 hlt9; have K9 := grown_kept hgrow9; have rb9 := K9.heap M8.out.rb (fun e => by cases e); have v9 := row_frozen rb9; obtain ⟨y0, y1, y2, y3⟩ := boxIs rb9; replace rb9 := hide rb9; replace K9 := hide K9; replace hown9 := hide hown9; replace hgrow9 := hide hgrow9))
            go_meet
            exact ⟨[sizeA z8], some ⟨g9, 0, none⟩, c9, .inr ⟨z8, hz8, rfl⟩, M8.out.attr K9.out hown9.out⟩
          · have h0b : ((z7 : Int) == 0) = false := by simp; omega
            replace h0 := hide h0
            go_wp2_with fail
            go_meet
            exact ⟨[], none, 0, .inl rfl, M7⟩
        case rest =>
          obtain ⟨bts, pa2, p2, hsz, MC⟩ := hcut
          obtain ⟨w8, rfl⟩ : ∃ w8 : World, w8 = wc := ⟨_, rfl⟩
          obtain ⟨kr8, hkr8, hb8⟩ := MC.out.box
          have hR8 := hide (raw_of hv.out (T3.out.ext.since MC.out.kept (fun j e => by omega)) hb8 hkr8)
          replace hb8 := hide hb8
          go_wp2_with fail
          refine (nextL w.heap.size (.slice vpa rl.length vcap) rl kr8 3 _ hR8.out (by omega) (by omega)).mono ?_
          rintro e9 w9 ⟨z9, kr9, rfl, hz9, hb9, hkr9, K9⟩
          have M9 := hide (MC.out.next K9.out hkr9 hb9.out)
          replace hb9 := hide hb9; replace K9 := hide K9
          go_upto_if 60 with fail
          go_cut [] (fun wx => ∃ (ats : List Attrd) (pa2 : Option Addr) (p2 : Nat), Hid (Tagged ats) ∧ Hid (MidT w3 w.heap.size (.slice vpa rl.length vcap) rl w3.heap.size w5.heap.size ⟨ks, ns⟩ ats (.slice pa2 ats.length p2) [] (.slice none 0 0) wx))
          case first =>
            by_cases h0 : z9 = 0
            · have h0b : ((z9 : Int) == 0) = true := by simp [h0]
              replace h0 := hide h0
              have hR9 := hide (raw_of hv.out (T3.out.ext.since M9.out.kept (fun j e => by omega)) hb9.out hkr9)
              go_wp2_with fail
              refine (nextL w.heap.size (.slice vpa rl.length vcap) rl kr9 3 _ hR9.out (by omega) (by omega)).mono ?_
              rintro e10 w10 ⟨z10, kr10, rfl, hz10, hb10, hkr10, K10⟩
              have M10 := hide (M9.out.next K10.out hkr10 hb10.out)
              replace hb10 := hide hb10; replace K10 := hide K10
              have hln := hide hsz.out.few
              have d1 : (0 : Int) ≤ (z10 : Int) := by omega
              have d2 : (z10 : Int) ≤ 3 := by omega
              obtain ⟨q0, q1, q2, q3⟩ := boxIs M10.out.rb
              obtain ⟨x0, x1, x2, x3⟩ := boxIs (M10.out.ext ((Ext.refl w10).alloc (.cells #[.string ⟨#[116, 97, 103]⟩, .bool true, .string ((⟨#[120, 121, 122]⟩ : ByteArray).extract z10 3), .int .i64 0] 66))).rb
              have hsx : Hid (w3.heap.size ≤ ((w10.drew).alloc (.cells (cA (tagA z10)).toArray 66)).heap.size) := by show _ ≤ _; have := M10.out.kept.size; simp; omega
              have hnew : Hid (∀ j u, (cA (tagA z10))[j]? = some u → ((w10.drew).alloc (.cells (cA (tagA z10)).toArray 66)).cell? ((⟨w10.heap.size, 0, none⟩ : Addr).add j) = some u) := by
                exact World.news_of_block (heap_alloc_new w10.drew (.cells (cA (tagA z10)).toArray 66))
              have hOx := hide (M10.out.arow.alloc (.cells (cA (tagA z10)).toArray 66))
              go_upto_region 19 with fail
              go_region_law (refine step_append_lies _ rfl (.tmp 64) (.tmp 68) 26 rfl w3.heap.size 66 iA (.agg #[.string ⟨#[]⟩, .bool false, .string ⟨#[]⟩, .int .i64 0]) 4 48 Tryz.underlying26 hiA.out ha0 ha1 ha2 rfl (by omega) (.slice pa2 bts.length p2) bts.length (cellsA bts) (by simp [Act.eval]) hOx.out ⟨w10.heap.size, 0, none⟩ 1 1 (cA (tagA z10)) (by simp [Act.eval]) rfl hnew.out (cA_one _) (by omega) (by unfold maxLen; have := hln.out; omega) (by have := hln.out; omega) hsx.out (w10.heap.size + 1) (by simp) ?_; intro g11 c11 w11 hown11 hgrow11 hat11 hlt11; clear hat11; have K11 : Kept (fun k => some k = (Value.slice pa2 bts.length p2).ownBlock) w10 w11 := ((Ext.refl w10).drew.kept _).trans (grown_kept (w := w10.drew) hgrow11) (fun _ _ h => h); have rb11 := K11.heap M10.out.rb (fun e => ownsRow_ne M10.out.arow M10.out.rb (by decide) e); have v11 := row_frozen rb11; obtain ⟨y0, y1, y2, y3⟩ := boxIs rb11; replace rb11 := hide rb11; replace K11 := hide K11; replace hown11 := hide hown11; replace hgrow11 := hide hgrow11; replace hlt11 := hide hlt11)
              all_goals
                go_wp2_with fail
                go_meet
                refine ⟨bts ++ [tagA z10], some ⟨g11, 0, none⟩, c11, hsz.out.tag hz10, ?_⟩
                have hl5 : (bts ++ [tagA z10]).length = bts.length + 1 := by simp
                rw [hl5]
                exact M10.out.attr K11.out (by rw [hl5, show cellsA (bts ++ [tagA z10]) = cellsA bts ++ cA (tagA z10) by simp [cellsA]]; exact hown11.out)
            · have h0b : ((z9 : Int) == 0) = false := by simp; omega
              replace h0 := hide h0
              go_wp2_with fail
              go_meet
              exact ⟨bts, pa2, p2, hsz.out.tagged, M9⟩
          case rest =>
            obtain ⟨ats, pa2, p2, htg, MD⟩ := hcut
            obtain ⟨w10, rfl⟩ : ∃ w10 : World, w10 = wc := ⟨_, rfl⟩
            have h6 : ids.length ≤ 6 := by omega
            clear hV4 hRr hR2 hR6 hR8 M6 M7 MC M9
            go_wp2_with fail
            go_loopw [15] (fun jv wx => ∃ (j : Nat) (af : List IDd) (a3 : Option Addr) (p3 : Nat), jv = .int .i64 j ∧ j ≤ ids.length ∧ Hid (AftI ids j af) ∧ Hid (MidT w3 w.heap.size (.slice vpa rl.length vcap) rl w3.heap.size w5.heap.size ⟨ks, ns⟩ ats (.slice pa2 ats.length p2) af (.slice a3 af.length p3) wx)) (fun jv _ => ids.length - (intOf jv).toNat)
            case atStart => exact ⟨0, [], none, 0, rfl, Nat.zero_le _, AftI.nil ids, MD⟩
            case round =>
              obtain ⟨j, af, a3, p3, rfl, hj, hA, M⟩ := hrel
              obtain ⟨w11, rfl⟩ : ∃ w11 : World, w11 = wr := ⟨_, rfl⟩
              by_cases hjl : j < ids.length
              · obtain ⟨kr11, hkr11, hb11⟩ := M.out.box
                have hR11 := hide (raw_of hv.out (T3.out.ext.since M.out.kept (fun j e => by omega)) hb11 hkr11)
                have j2 : (j : Int) < (ids.length : Int) := by omega
                replace hb11 := hide hb11
                go_wp2_with fail
                refine (nextL w.heap.size (.slice vpa rl.length vcap) rl kr11 3 _ hR11.out (by omega) (by omega)).mono ?_
                rintro e12 w12 ⟨z12, kr12, rfl, hz12, hb12, hkr12, K12⟩
                have M12 := hide (M.out.next K12.out hkr12 hb12.out)
                replace hb12 := hide hb12; replace K12 := hide K12
                by_cases h0 : z12 = 0
                · have h0b : ((z12 : Int) == 0) = true := by simp [h0]
                  replace h0 := hide h0
                  obtain ⟨a, ha⟩ := some_of_lt hjl
                  have hI12 := hide (idsV_own (T3.out.idsAt M12.out.kept) (by omega) (fun a ha => (T3.out.ok a ha).1))
                  obtain ⟨_, _, hpe, -, -, hin2⟩ := hI12.out.shape
                  injection hpe with e1 e2 e3
                  subst e1; subst e3; clear e2
                  rcases hin2 with hh | ⟨bx, ox, rfl, hxi⟩
                  · rw [hh] at hjl; simp at hjl
                  obtain ⟨p0, p1⟩ := hxi j a ha
                  have j4 : (0 : Int) ≤ (j : Int) := by omega
                  have hal := hA.out.len
                  have hF12 := hide (idsV_own M12.out.frow (by omega) (fun a haf => (T3.out.ok a (List.mem_of_mem_take (hA.out.mem a haf))).1))
                  have hoka := hide (T3.out.ok a (List.mem_of_getElem? ha)).1
                  have hLa : ∀ w', Ext w12 w' → Calls Tryz.prog 22 #[.slice a3 af.length p3, .agg #[.string a.kind, .string a.name]] w' _ := fun w' hx => laidL _ af a w' (hF12.out.ext hx) (by omega) hoka.out
                  replace hLa := hide hLa
                  have hB12 := hide M12.out.rb
                  have x3 := (boxIs hB12.out).2.2.2
                  have xf := row_frozen hB12.out
                  replace ha := hide ha; replace hxi := hide hxi; replace hal := hide hal
                  go_upto_region 24 with fail
                  go_region_with (go_at_call 22; refine (hLa.out _ (Ext.refl w12).drew).mono ?_; rintro e13 w13 ⟨pb, cb, rfl, hV13, hE13, hrow13⟩; have X13 := ext_heap (Ext.trans (Ext.refl w12).drew hE13.out) hB12.out; have y3 := (boxIs X13).2.2.2; have yf := row_frozen X13; have y0 := hE13.out.cells (p := ⟨bx, ox + j * 2, none⟩) (v := .string a.kind) (by simpa using p0); have y1 := hE13.out.cells (p := ⟨bx, ox + j * 2 + 1, none⟩) (v := .string a.name) (by simpa using p1); replace X13 := hide X13)
                  all_goals
                    have hX13 := hide (Ext.trans (Ext.refl w12).drew hE13.out)
                    have hO13 := own_mono (hrow13.out (by have := hal.out; omega)) (B' := w3.heap.size) (by have := M12.out.kept.size; simp; omega)
                    have M14 := hide (M12.out.aft hX13.out hO13)
                    have A14 := hide (hA.out.more T3.out.tam.nod ha.out (by have := hal.out; omega))
                    clear hO13 x3 xf y3 yf y0 y1 p0 p1 hLa
                    obtain ⟨w14, hw14⟩ : ∃ w14, w14 = w13.setCell ⟨w5.heap.size, 3, none⟩ (.slice pb (laidS af a).length cb) := ⟨_, rfl⟩
                    rw [← hw14] at M14
                    rw [← hw14]
                    replace hw14 := hide hw14
                    go_wp2_with fail
                    go_roundw
                    case rel => exact ⟨j + 1, laidS af a, pb, cb, by go_num, by omega, A14, M14⟩
                    case measure => simp [intOf]; omega
                · have h0b : ((z12 : Int) == 0) = false := by simp; omega
                  replace h0 := hide h0
                  go_wp2_with fail
                  go_roundw
                  case rel => exact ⟨j + 1, af, a3, p3, by go_num, by omega, hA.out.skip, M12⟩
                  case measure => simp [intOf]; omega
              · obtain rfl : j = ids.length := by omega
                have hIr := hide (T3.out.idsAt M.out.kept)
                have hq12 := T3.out.few h6
                have hs11 : Hid (w.heap.size + 1 ≤ w11.heap.size) := by show _ ≤ _; have := M.out.kept.size; have := M.out.rlt; omega
                obtain ⟨p0, p1⟩ := twoAt M.out.idb
                go_wp2_with (at_builtin; go_loud (refine wpList_append_lies _ rfl (.tmp 88) (.tmp 90) 27 rfl (w.heap.size + 1) 25 i0 (.agg #[.string ⟨#[]⟩, .string ⟨#[]⟩]) 2 32 Tryz.underlying27 hi0.out hz0 hz1 hz2 rfl (by omega) _ ids.length (cellsI ids) rfl (hIr.out.alloc _) ⟨w11.heap.size, 0, none⟩ 1 1 (cI ⟨ks, ns⟩) rfl rfl ?_ (cI_one _) (by omega) (by unfold maxLen; omega) (by omega) (by have := hs11.out; simp; omega) (w11.heap.size + 1) (by simp) ?_; (intro j u hu; rw [add_eq]; (match j, hu with | 0, hu => (simp [cI] at hu; subst hu; simp [go_sem]) | 1, hu => (simp [cI] at hu; subst hu; simp [go_sem]) | _ + 2, hu => (simp [cI] at hu))); intro g13 c13 w13 hown13 hgrow13 hat13 hlt13; have K13 := grown_kept hgrow13; have S13 := T3.out.stepD M.out K13 hidk.out.1 htg.out hA.out h6; obtain ⟨y0, y1, y2, y3⟩ := boxIs S13.2.2.2; replace S13 := hide S13; replace K13 := hide K13; replace hown13 := hide hown13; replace hgrow13 := hide hgrow13; replace hat13 := hide hat13; replace hlt13 := hide hlt13))
                have hgr : Hid ((Value.slice po ids.length co).ownBlock = some g13 ∨ w11.heap.size ≤ g13) := hat13.out.imp (fun h => h) (fun h => by omega)
                refine (putQ _ qs ⟨⟨⟨ks, ns⟩, ats, af⟩, pa2, ats.length, p2, a3, af.length, p3⟩ w13 (w.heap.size + 1) S13.out.1 S13.out.2.1 (by omega) (S13.out.2.2.1 g13 hgr.out w13 (Kept.refl _ _))).mono ?_
                rintro e14 w14 ⟨qs6, pl6, cl6, rfl, hmap, hin6, hrow6, hn6, X14⟩
                have hl5 : (ids ++ [(⟨ks, ns⟩ : IDd)]).length = ids.length + 1 := by simp
                have TT := hide (T3.out.more (idv5 := .slice (some ⟨g13, 0, none⟩) (ids.length + 1) c13) (lv6 := .slice pl6 qs6.length cl6) (qs6 := qs6) (g5 := g13) (w5 := w13) (w6 := w14) M.out K13.out hidk.out.1 hidk.out.2 htg.out hA.out h6 hni.out rfl hgr.out (by rw [hl5, show cellsI (ids ++ [(⟨ks, ns⟩ : IDd)]) = cellsI ids ++ cI ⟨ks, ns⟩ by simp [cellsI]]; exact hown13.out) X14.out hmap.out (fun q hq => (hin6.out q hq).2) hrow6.out)
                replace hmap := hide hmap; replace hin6 := hide hin6; replace hrow6 := hide hrow6; replace X14 := hide X14
                clear y0 y1 y2 y3 p0 p1
                go_wp2_with fail
                go_roundw
                case rel => exact ⟨ids ++ [⟨ks, ns⟩], qs6, some ⟨g13, 0, none⟩, pl6, c13, cl6, k + 1, by rw [hl5], rfl, by go_num, by omega, by rw [hl5]; omega, by rw [hl5]; exact TT⟩
                case measure => simp [intOf]; omega
    · have k2 : decide ((k : Int) < (many : Int)) = false := by simp; omega
      go_wp2_with fail
      go_ret
      exact T.out.fin (by omega)
end Go.Proofs.YtfmcgdglalljgaaGreatDoor
