/-
  What tamed keeps to.
-/
/-
  A step done.
-/
import Derived.Test.YtfoelahabalbpaaGreatDoorTam5
import Derived.Test.YtfoelahabalbpaaGreatDoorJ12
import Derived.Test.YtfoelahabalbpaaGreatDoorJ13
namespace Go.Proofs.YtfoelahabalbpaaGreatDoor
open Go.RowKit

def kindS (k : Nat) : ByteArray := (⟨#[118, 110, 119]⟩ : ByteArray).extract k (k + 1)
def nmS (k : Nat) : ByteArray := (⟨#[97, 98, 99, 100]⟩ : ByteArray).extract k (k + 1)
def tagS (k : Nat) : ByteArray := (⟨#[120, 121, 122]⟩ : ByteArray).extract k 3
def sizeA (m : Nat) : Attrd := ⟨⟨#[115, 105, 122, 101]⟩, false, ⟨#[]⟩, (m : Int) - 2⟩
def tagA (m : Nat) : Attrd := ⟨⟨#[116, 97, 103]⟩, true, tagS m, 0⟩
theorem kindS_ok {k : Nat} (h : k < 3) : wordB (kindS k).data.toList = true ∧ (kindS k).size ≤ 1048576 := by
  have : k = 0 ∨ k = 1 ∨ k = 2 := by omega
  rcases this with rfl | rfl | rfl <;> exact ⟨by decide, by decide⟩
theorem nmS_ok {k : Nat} (h : k < 4) : wordB (nmS k).data.toList = true ∧ (nmS k).size ≤ 1048576 := by
  have : k = 0 ∨ k = 1 ∨ k = 2 ∨ k = 3 := by omega
  rcases this with rfl | rfl | rfl | rfl <;> exact ⟨by decide, by decide⟩
theorem tamId {k n : Nat} (hk : k < 3) (hn : n < 4) : okI ⟨kindS k, nmS n⟩ ∧ idB ⟨kindS k, nmS n⟩ = true :=
  ⟨⟨(kindS_ok hk).2, (nmS_ok hn).2⟩, by unfold idB; rw [(kindS_ok hk).1, (nmS_ok hn).1]; rfl⟩
theorem sizeA_ok {m : Nat} (h : m < 5) : attrB (sizeA m) = true ∧ okA (sizeA m) := by
  refine ⟨?_, (by decide : (⟨#[115, 105, 122, 101]⟩ : ByteArray).size ≤ 1048576), (by decide : (⟨#[]⟩ : ByteArray).size ≤ 1048576), by simp [sizeA]; omega, by simp [sizeA]; omega⟩
  have : m = 0 ∨ m = 1 ∨ m = 2 ∨ m = 3 ∨ m = 4 := by omega
  rcases this with rfl | rfl | rfl | rfl | rfl <;> decide
theorem tagA_ok {m : Nat} (h : m < 3) : attrB (tagA m) = true ∧ okA (tagA m) := by
  have : m = 0 ∨ m = 1 ∨ m = 2 := by omega
  rcases this with rfl | rfl | rfl <;> exact ⟨by decide, by decide, by decide, by decide, by decide⟩
/-- The attributes that tamed makes: behind the first test; behind the second. -/
def Sized (ats : List Attrd) : Prop := ats = [] ∨ ∃ m, m < 5 ∧ ats = [sizeA m]
def Tagged (ats : List Attrd) : Prop := ∃ bs, Sized bs ∧ (ats = bs ∨ ∃ m, m < 3 ∧ ats = bs ++ [tagA m])
theorem size_tag (m k : Nat) : lessA (sizeA m) (tagA k) = true := by
  unfold lessA sizeA tagA; exact (by decide : decide (cmpS ⟨#[115, 105, 122, 101]⟩ ⟨#[116, 97, 103]⟩ < 0) = true)
theorem Sized.few {ats : List Attrd} (h : Sized ats) : ats.length ≤ 1 := by rcases h with rfl | ⟨m, _, rfl⟩ <;> simp
theorem Tagged.ok {ats : List Attrd} (h : Tagged ats) : ats.length ≤ 2 ∧ ats.all attrB = true ∧ risesB lessA ats = true ∧ ∀ a ∈ ats, okA a := by
  obtain ⟨bs, hb, h⟩ := h
  rcases hb with rfl | ⟨m, hm, rfl⟩
  · rcases h with rfl | ⟨k, hk, rfl⟩
    · exact ⟨by simp, rfl, rfl, fun a h => (by cases h)⟩
    · exact ⟨by simp, by simp [(tagA_ok hk).1], rfl, fun a h => by rcases List.mem_singleton.1 h with rfl; exact (tagA_ok hk).2⟩
  · rcases h with rfl | ⟨k, hk, rfl⟩
    · exact ⟨by simp, by simp [(sizeA_ok hm).1], rfl, fun a h => by rcases List.mem_singleton.1 h with rfl; exact (sizeA_ok hm).2⟩
    · refine ⟨by simp, by simp [(sizeA_ok hm).1, (tagA_ok hk).1], by simp [risesB, size_tag], fun a h => ?_⟩
      simp at h
      rcases h with rfl | rfl
      · exact (sizeA_ok hm).2
      · exact (tagA_ok hk).2
theorem Sized.tagged {ats : List Attrd} (h : Sized ats) : Tagged ats := ⟨ats, h, .inl rfl⟩
theorem Sized.tag {ats : List Attrd} {m : Nat} (h : Sized ats) (hm : m < 3) : Tagged (ats ++ [tagA m]) := ⟨ats, h, .inr ⟨m, hm, rfl⟩⟩
/-- What comes behind which. -/
structure AftI (ids : List IDd) (k : Nat) (af : List IDd) : Prop where
  mem : ∀ a ∈ af, a ∈ ids.take k
  up : Up af
  len : af.length ≤ k
theorem AftI.nil (ids : List IDd) : AftI ids 0 [] := ⟨fun a h => (by cases h), List.Pairwise.nil, Nat.le_refl _⟩
theorem AftI.skip {ids : List IDd} {k : Nat} {af : List IDd} (h : AftI ids k af) : AftI ids (k + 1) af :=
  ⟨fun a ha => (List.take_subset_take_left _ (Nat.le_succ k)) (h.mem a ha), h.up, Nat.le_succ_of_le h.len⟩
theorem AftI.more {ids : List IDd} {k : Nat} {af : List IDd} {a : IDd} (h : AftI ids k af) (hn : ids.Nodup) (ha : ids[k]? = some a) (h6 : ¬ af.length = 6) : AftI ids (k + 1) (laidS af a) := by
  have hlt := (List.getElem?_eq_some_iff.1 ha).1
  have e : ids[k] = a := (List.getElem?_eq_some_iff.1 ha).2
  have hni : a ∉ af := fun hm => by
    obtain ⟨j, hj⟩ := List.mem_iff_getElem?.1 (h.mem a hm)
    rw [List.getElem?_take] at hj
    split at hj
    · rename_i hjk
      have := nod_at hn hj ha
      omega
    · cases hj
  unfold laidS
  rw [if_neg h6]
  refine ⟨fun b hb => ?_, laid_up h.up hni, by rw [laid_len]; have := h.len; omega⟩
  rw [List.take_succ_eq_append_getElem hlt, List.mem_append, List.mem_singleton, e]
  rcases laid_mem.1 hb with rfl | hb
  · exact .inr rfl
  · exact .inl (h.mem b hb)
theorem up_risesI : ∀ {l : List IDd}, Up l → risesB lessI l = true
  | [], _ => rfl
  | [_], _ => rfl
  | a :: b :: l, h => by
    have h1 := List.pairwise_cons.1 h
    have h2 := h1.1 b List.mem_cons_self
    simp only [risesB, Bool.and_eq_true]
    exact ⟨by simpa [lessI] using h2, up_risesI h1.2⟩
theorem tam_may {ids : List IDd} {k : Nat} {id : IDd} {ats : List Attrd} {af : List IDd} (hi : idB id = true) (ha : Tagged ats) (hf : AftI ids k af) (hk : k ≤ 6) (hb : ∀ a ∈ ids, idB a = true) : mayB ⟨id, ats, af⟩ = true := by
  obtain ⟨h1, h2, h3, -⟩ := ha.ok
  have h4 := hf.len
  simp only [mayB, Bool.and_eq_true, decide_eq_true_eq]
  exact ⟨⟨⟨⟨⟨⟨by omega, by omega⟩, hi⟩, h2⟩, h3⟩, List.all_eq_true.2 fun a h => hb a (List.mem_of_mem_take (hf.mem a h))⟩, up_risesI hf.up⟩

theorem attrsV_ownT {B : Nat} {w : World} {v : Value} {l : List Attrd} (h : w.ownsRow B 56 4 v l.length (cellsA l)) (hn : l.length ≤ 1000) (hok : ∀ a ∈ l, okA a) : AttrsV w v l := by
  refine ⟨?_, by omega, hok⟩
  rcases h.2 with ⟨rfl, h0⟩ | ⟨g, cap, cur, rfl, _, hg, hc, hm, hs, ht⟩
  · have : l = [] := List.eq_nil_of_length_eq_zero h0
    subst this
    exact ⟨none, 0, rfl, Nat.le_refl _, by decide, .inl rfl⟩
  · unfold maxLen at hm
    refine ⟨some ⟨g, 0, none⟩, cap, rfl, hc, by omega, .inr ⟨g, 0, rfl, fun i x hx => ?_⟩⟩
    have hlt : i < l.length := (List.getElem?_eq_some_iff.1 hx).1
    have key : ∀ r, r < 4 → w.cell? ⟨g, 0 + i * 4 + r, none⟩ = (cA x)[r]? := fun r hr => by
      have h1 : (cellsA l)[i * 4 + r]? = (cA x)[r]? := flat_get cA_len hx hr
      rw [← h1, ← ht, List.getElem?_take, if_pos (by omega), Nat.zero_add]
      simp [World.cell?, hg]
    exact ⟨key 0 (by omega), key 1 (by omega), key 2 (by omega), key 3 (by omega)⟩

/-- What may turn while a resource is made. -/
def D2 (R : Nat) (idv : Value) : Nat → Prop := fun k => k = R ∨ some k = idv.ownBlock
def Stab (R : Nat) (idv : Value) (w : World) (q : ResC) : Prop := ∀ w', Kept (D2 R idv) w w' → q.In w'
theorem Stab.here {R : Nat} {idv : Value} {w : World} {q : ResC} (h : Stab R idv w q) : q.In w := h w (Kept.refl _ w)
/-- Between two rounds. -/
structure TamL (w0 : World) (R : Nat) (v : Value) (rl : List Int) (idv lv : Value) (ids : List IDd) (qs : List ResC) (wr : World) : Prop where
  box : ∃ k, k ≤ rl.length ∧ wr.heap[R]? = some (.cells #[v, .int .i64 (k : Nat)] 53 (0, 0))
  ext : Ext w0 wr
  tam : TamI ids (qs.map ResC.x)
  idrow : wr.ownsRow (R + 1) 31 2 idv ids.length (cellsI ids)
  lrow : wr.ownsRow (R + 1) 35 4 lv qs.length (cellsQ qs)
  stab : ∀ q ∈ qs, Stab R idv wr q
  ok : ∀ a ∈ ids, okI a ∧ idB a = true
theorem raw_of {w0 w : World} {v : Value} {rl : List Int} {k : Nat} (hi : IntsV w0 v rl) (x : Ext w0 w) (hb : w.heap[w0.heap.size]? = some (.cells #[v, .int .i64 (k : Nat)] 53 (0, 0))) (hk : k ≤ rl.length) : RawAt w w0.heap.size v rl k := by
  refine ⟨hb, hi.ext x, hk, fun hne ad n cap hv e => ?_⟩
  obtain ⟨a, c, h1, -, -, h2⟩ := hi.shape
  rcases h2 with h2 | ⟨b, off, rfl, h2⟩
  · exact hne h2
  · rw [h1] at hv
    injection hv with e1
    injection e1 with e1
    subst e1
    cases rl with
    | nil => exact hne rfl
    | cons y rl =>
      have := World.block_lt_of_cell? _ _ (h2 0 y rfl)
      simp only at this e
      omega
/-- While one is made. -/
structure MidT (wr : World) (R : Nat) (v : Value) (rl : List Int) (Bi Br : Nat) (id : IDd) (ats : List Attrd) (va : Value) (af : List IDd) (vf : Value) (wx : World) : Prop where
  box : ∃ k, k ≤ rl.length ∧ wx.heap[R]? = some (.cells #[v, .int .i64 (k : Nat)] 53 (0, 0))
  kept : Kept (· = R) wr wx
  idb : wx.heap[Bi]? = some (.cells #[.string id.kind, .string id.name] 31 (0, 0))
  rb : wx.heap[Br]? = some (.cells #[.string id.kind, .string id.name, va, vf] 35 (0, 0))
  arow : wx.ownsRow wr.heap.size 56 4 va ats.length (cellsA ats)
  frow : wx.ownsRow wr.heap.size 31 2 vf af.length (cellsI af)
  bi : wr.heap.size ≤ Bi
  br : wr.heap.size ≤ Br
  rlt : R < wr.heap.size
section
variable {wr : World} {R : Nat} {v : Value} {rl : List Int} {Bi Br : Nat} {id : IDd} {ats : List Attrd} {va : Value} {af : List IDd} {vf : Value} {wx w5 : World}
theorem own_mono {w : World} {B B' : Nat} {T : TypeId} {sz n : Nat} {u : Value} {xs : List Value} (h : w.ownsRow B T sz u n xs) (hb : B' ≤ B) : w.ownsRow B' T sz u n xs :=
  ⟨h.1, h.2.imp (fun h => h) fun ⟨g, cap, cur, e, hg, r⟩ => ⟨g, cap, cur, e, Nat.le_trans hb hg, r⟩⟩
theorem own_ge {w : World} {B : Nat} {T : TypeId} {sz n : Nat} {u : Value} {xs : List Value} (h : w.ownsRow B T sz u n xs) {g : Nat} (hg : u.ownBlock = some g) : B ≤ g ∧ g < w.heap.size := h.lt g hg
theorem MidT.next {k : Nat} (h : MidT wr R v rl Bi Br id ats va af vf wx) (hK : Kept (· = R) wx w5) (hk : k ≤ rl.length) (hb : w5.heap[R]? = some (.cells #[v, .int .i64 (k : Nat)] 53 (0, 0))) : MidT wr R v rl Bi Br id ats va af vf w5 := by
  have h1 := h.rlt; have h2 := h.bi; have h3 := h.br
  refine ⟨⟨k, hk, hb⟩, h.kept.trans hK (fun _ _ h => h), hK.heap h.idb (by omega), hK.heap h.rb (by omega), ownsRow_keptR h.arow hK (fun g hg e => by have := own_ge h.arow hg; omega), ownsRow_keptR h.frow hK (fun g hg e => by have := own_ge h.frow hg; omega), h2, h3, h1⟩
theorem MidT.ext (h : MidT wr R v rl Bi Br id ats va af vf wx) (e : Ext wx w5) : MidT wr R v rl Bi Br id ats va af vf w5 := by
  obtain ⟨k, hk, hb⟩ := h.box
  exact h.next (e.kept _) hk (ext_heap e hb)
theorem MidT.attr {ats' : List Attrd} {va' : Value} (h : MidT wr R v rl Bi Br id ats va af vf wx) (hK : Kept (fun k => some k = va.ownBlock) wx w5) (hr : w5.ownsRow wr.heap.size 56 4 va' ats'.length (cellsA ats')) : MidT wr R v rl Bi Br id ats' va' af vf (w5.setCell ⟨Br, 2, none⟩ va') := by
  obtain ⟨k, hk, hb⟩ := h.box
  have h1 := h.rlt; have h2 := h.bi; have h3 := h.br
  have nb : ∀ {j : Nat} {c : Array Value} {t : TypeId} {fz : Nat × Nat}, wx.heap[j]? = some (.cells c t fz) → t ≠ 56 → ¬ some j = va.ownBlock := fun hj ht e => ownsRow_ne h.arow hj ht e
  have rb5 := hK.heap h.rb (nb h.rb (by decide))
  have ib5 := hK.heap h.idb (nb h.idb (by decide))
  have R5 := hK.heap hb (nb hb (by decide))
  have f5 := ownsRow_keptR h.frow hK (fun g hg e => by
    rcases h.frow.2 with ⟨rfl, _⟩ | ⟨g', cap, cur, rfl, _, hg', _⟩
    · cases hg
    · injection hg with hg; subst hg; exact nb hg' (by decide) e)
  have K6 := kept_setCell w5 ⟨Br, 2, none⟩ va'
  have nr : ¬ Bi = Br := fun e => by rw [← e, ib5] at rb5; cases rb5
  refine ⟨⟨k, hk, K6.heap R5 (by show ¬ R = Br; omega)⟩, (h.kept.trans hK (fun j hj e => ?_)).trans K6 (fun j hj e => ?_), K6.heap ib5 nr, (row_set rb5 2 _).trans rfl, ownsRow_keptR hr K6 (fun g hg e => ?_), ownsRow_keptR f5 K6 (fun g hg e => ?_), h2, h3, h1⟩
  · exact absurd (own_ge h.arow e.symm).1 (by omega)
  · have e' : j = Br := e
    omega
  · have e' : g = Br := e
    rw [e'] at hg; exact ownsRow_ne hr rb5 (by decide) hg.symm
  · have e' : g = Br := e
    rw [e'] at hg; exact ownsRow_ne f5 rb5 (by decide) hg.symm
theorem MidT.aft {af' : List IDd} {vf' : Value} (h : MidT wr R v rl Bi Br id ats va af vf wx) (e : Ext wx w5) (hr : w5.ownsRow wr.heap.size 31 2 vf' af'.length (cellsI af')) : MidT wr R v rl Bi Br id ats va af' vf' (w5.setCell ⟨Br, 3, none⟩ vf') := by
  have h5 := h.ext e
  obtain ⟨k, hk, hb⟩ := h5.box
  have h1 := h.rlt; have h2 := h.bi; have h3 := h.br
  have K6 := kept_setCell w5 ⟨Br, 3, none⟩ vf'
  have nr : ¬ Bi = Br := fun e => by have := h5.rb; rw [← e, h5.idb] at this; cases this
  refine ⟨⟨k, hk, K6.heap hb (by show ¬ R = Br; omega)⟩, h5.kept.trans K6 (fun j hj e => ?_), K6.heap h5.idb nr, (row_set h5.rb 3 _).trans rfl, ownsRow_keptR h5.arow K6 (fun g hg e => ?_), ownsRow_keptR hr K6 (fun g hg e => ?_), h2, h3, h1⟩
  · have e' : j = Br := e
    omega
  · have e' : g = Br := e
    rw [e'] at hg; exact ownsRow_ne h5.arow h5.rb (by decide) hg.symm
  · have e' : g = Br := e
    rw [e'] at hg; exact ownsRow_ne hr h5.rb (by decide) hg.symm
variable {w0 w6 : World} {idv lv : Value} {ids : List IDd} {qs : List ResC}
theorem TamL.idsAt (h : TamL w0 R v rl idv lv ids qs wr) (hm : Kept (· = R) wr wx) : wx.ownsRow (R + 1) 31 2 idv ids.length (cellsI ids) :=
  ownsRow_keptR h.idrow hm (fun g hg e => by have := own_ge h.idrow hg; omega)
/-- One that is made, and laid beside the others. -/
theorem TamL.stepD {a2 : Option Addr} {p2 : Nat} {a3 : Option Addr} {p3 : Nat} (h : TamL w0 R v rl idv lv ids qs wr) (hm : MidT wr R v rl Bi Br id ats (.slice a2 ats.length p2) af (.slice a3 af.length p3) wx)
    (hK : Kept (fun k => some k = idv.ownBlock) wx w5) (hi : okI id) (ha : Tagged ats) (hf : AftI ids ids.length af) (h6 : ids.length ≤ 6) :
    w5.ownsRow (R + 1) 35 4 lv qs.length (cellsQ qs) ∧ (∀ q ∈ qs, q.In w5) ∧ (∀ g5, (idv.ownBlock = some g5 ∨ wx.heap.size ≤ g5) → ∀ w7, Kept (fun k => k = R ∨ k = g5) w5 w7 → ResC.In w7 ⟨⟨id, ats, af⟩, a2, ats.length, p2, a3, af.length, p3⟩) ∧ w5.heap[Br]? = some (.cells #[.string id.kind, .string id.name, .slice a2 ats.length p2, .slice a3 af.length p3] 35 (0, 0)) := by
  have h1 := hm.rlt; have h2 := hm.bi; have h3 := hm.br
  have hle := hm.kept.size
  have old : ∀ {g}, idv.ownBlock = some g → g < wr.heap.size := fun hg => (own_ge h.idrow hg).2
  have K5 : Kept (D2 R idv) wr w5 := (hm.kept.mono (fun k _ e => .inl e)).trans hK (fun k _ e => .inr e)
  have a5 := ownsRow_keptR hm.arow hK (fun g hg e => by have := old e.symm; have := own_ge hm.arow hg; omega)
  have f5 := ownsRow_keptR hm.frow hK (fun g hg e => by have := old e.symm; have := own_ge hm.frow hg; omega)
  refine ⟨ownsRow_keptR h.lrow K5 (fun g hg e => ?_), fun q hq => h.stab q hq _ K5, fun g5 hg5 w7 K7 => ?_, hK.heap hm.rb (fun e => by have := old e.symm; omega)⟩
  · rcases e with e | e
    · have := own_ge h.lrow hg; omega
    · rcases h.lrow.2 with ⟨rfl, _⟩ | ⟨g', cap, cur, rfl, _, hg', _⟩
      · cases hg
      · injection hg with hg; subst hg; exact ownsRow_ne h.idrow hg' (by decide) e
  · have far : ∀ {T : TypeId} {sz n : Nat} {u : Value} {xs : List Value}, wx.ownsRow wr.heap.size T sz u n xs → ∀ g, u.ownBlock = some g → ¬ (g = R ∨ g = g5) := fun hu g hg e => by
      have h4 := own_ge hu hg
      rcases e with e | e
      · omega
      · rcases hg5 with h5 | h5
        · have := old h5; omega
        · omega
    have a7 := ownsRow_keptR a5 K7 (far hm.arow)
    have f7 := ownsRow_keptR f5 K7 (far hm.frow)
    have hl := hf.len
    have hn := ha.ok
    exact ⟨hi, attrsV_ownT a7 (Nat.le_trans hn.1 (by decide)) hn.2.2.2, idsV_own f7 (Nat.le_trans hl (Nat.le_trans h6 (by decide))) (fun a haf => (h.ok a (List.mem_of_mem_take (hf.mem a haf))).1)⟩
/-- The round's end. -/
theorem TamL.more {a2 : Option Addr} {p2 : Nat} {a3 : Option Addr} {p3 : Nat} {idv5 lv6 : Value} {qs6 : List ResC} {g5 : Nat} (h : TamL w0 w0.heap.size v rl idv lv ids qs wr) (hm : MidT wr w0.heap.size v rl Bi Br id ats (.slice a2 ats.length p2) af (.slice a3 af.length p3) wx)
    (hK : Kept (fun k => some k = idv.ownBlock) wx w5) (hi : okI id) (hb : idB id = true) (ha : Tagged ats) (hf : AftI ids ids.length af) (h6 : ids.length ≤ 6) (hn : id ∉ ids)
    (hg : idv5.ownBlock = some g5) (hg5 : idv.ownBlock = some g5 ∨ wx.heap.size ≤ g5) (hr : w5.ownsRow (w0.heap.size + 1) 31 2 idv5 (ids ++ [id]).length (cellsI (ids ++ [id]))) (x6 : Ext w5 w6)
    (hq : qs6.map ResC.x = putS (qs.map ResC.x) ⟨id, ats, af⟩) (hin : ∀ q ∈ qs6, q ∈ qs ∨ q = ⟨⟨id, ats, af⟩, a2, ats.length, p2, a3, af.length, p3⟩) (hl : w6.ownsRow (w5.heap.size + 1) 35 4 lv6 qs6.length (cellsQ qs6)) :
    TamL w0 w0.heap.size v rl idv5 lv6 (ids ++ [id]) qs6 w6 := by
  have h1 := hm.rlt
  have hle := hm.kept.size
  have hle5 := hK.size
  have old : ∀ {g}, idv.ownBlock = some g → w0.heap.size + 1 ≤ g ∧ g < wr.heap.size := fun hg => own_ge h.idrow hg
  obtain ⟨-, -, hB, -⟩ := h.stepD hm hK hi ha hf h6
  obtain ⟨k, hk, hbx⟩ := hm.box
  refine ⟨⟨k, hk, ext_heap x6 (hK.heap hbx (fun e => by have := old e.symm; omega))⟩, ((h.ext.since hm.kept (fun j e => by omega)).since hK (fun j e => by have := old e.symm; omega)).trans x6, ?_, ownsRow_keptR hr (x6.kept (fun _ => False)) (fun _ _ e => e), own_mono hl (by omega), fun q hqm w7 K7 => ?_, fun a ham => ?_⟩
  · rw [hq]
    exact h.tam.more (r := ⟨id, ats, af⟩) hn (tam_may hb ha hf h6 (fun a h' => (h.ok a h').2)) (fun a haf => List.mem_of_mem_take (hf.mem a haf))
  · have K57 : Kept (fun k => k = w0.heap.size ∨ k = g5) w5 w7 := (x6.kept _).trans (D' := D2 w0.heap.size idv5) K7 (fun k _ e => by
      rcases e with e | e
      · exact .inl e
      · rw [hg] at e; injection e with e; exact .inr e)
    rcases hin q hqm with hq' | rfl
    · refine h.stab q hq' _ (((hm.kept.mono (fun k _ e => .inl e)).trans hK (fun k _ e => .inr e)).trans K57 (fun k hk e => ?_))
      rcases e with e | e
      · exact .inl e
      · rcases hg5 with h5 | h5
        · rw [e]; exact .inr h5.symm
        · omega
    · exact hB g5 hg5 w7 K57
  · rcases List.mem_append.1 ham with ham | ham
    · exact h.ok a ham
    · obtain rfl : a = id := by simpa using ham
      exact ⟨hi, hb⟩
theorem TamL.nextR {k : Nat} (h : TamL w0 w0.heap.size v rl idv lv ids qs wr) (hK : Kept (· = w0.heap.size) wr wx) (hk : k ≤ rl.length) (hb : wx.heap[w0.heap.size]? = some (.cells #[v, .int .i64 (k : Nat)] 53 (0, 0))) : TamL w0 w0.heap.size v rl idv lv ids qs wx :=
  ⟨⟨k, hk, hb⟩, h.ext.since hK (fun j e => by omega), h.tam, h.idsAt hK, ownsRow_keptR h.lrow hK (fun g hg e => by have := own_ge h.lrow hg; omega), fun q hq w7 K7 => h.stab q hq _ ((hK.mono (fun k _ e => .inl e)).trans K7 (fun k _ e => e)), h.ok⟩
theorem TamL.extR (h : TamL w0 w0.heap.size v rl idv lv ids qs wr) (e : Ext wr wx) : TamL w0 w0.heap.size v rl idv lv ids qs wx := by
  obtain ⟨k, hk, hb⟩ := h.box
  exact h.nextR (e.kept _) hk (ext_heap e hb)
end
end Go.Proofs.YtfoelahabalbpaaGreatDoor

namespace Go.Proofs.YtfoelahabalbpaaGreatDoor
open Go.RowKit

attribute [local go_sem] Go.World.cell?_alloc_some
theorem fiveAt {w : World} {k : Nat} {a b c d f : Value} {t : TypeId} {fz : Nat × Nat} (hk : w.heap[k]? = some (.cells #[a, b, c, d, f] t fz)) : w.cell? ⟨k, 0, none⟩ = some a := by simp [World.cell?, hk]
theorem step_del_is {l l' : List Resd} {x : Resd} (h : stepS l ⟨3, x⟩ = some l') : HasR l x.id ∧ (∀ y ∈ withoutS l x.id, x.id ∉ y.after) ∧ l' = withoutS l x.id := by
  unfold stepS at h
  rw [if_pos rfl] at h
  split at h
  · rename_i hh; cases h; exact ⟨hh.1, hh.2, rfl⟩
  · cases h
theorem step_make_is {l l' : List Resd} {op : Nat} {x : Resd} (ho : op ≠ 3) (h : stepS l ⟨op, x⟩ = some l') : (∀ a ∈ x.after, HasR l a) ∧ (HasR l x.id ↔ op = 2) ∧ (op = 1 ∨ op = 2) ∧ l' = putS l x := by
  unfold stepS at h
  rw [if_neg ho] at h
  split at h
  · rename_i hh; cases h; exact ⟨hh.1, hh.2.1, hh.2.2, rfl⟩
  · cases h
def StepIs (w : World) (qs : List ResC) (r : ResC) (l' : List Resd) (e : Ending) (w' : World) : Prop := ∃ (qs' : List ResC) (pa : Option Addr) (cap : Nat), e = .returned (.tuple #[.slice pa qs'.length cap, .bool true]) ∧ Hid (qs'.map ResC.x = l') ∧ Hid (∀ q ∈ qs', q ∈ qs ∨ q = r) ∧ Hid (w'.ownsRow 0 35 4 (.slice pa qs'.length cap) qs'.length (cellsQ qs')) ∧ Hid (Ext w w')
theorem cellsQ_get {B : Nat} {w : World} {pl : Option Addr} {n cl : Nat} {qs : List ResC} (h : w.ownsRow B 35 4 (.slice pl n cl) qs.length (cellsQ qs)) {k : Nat} {q : ResC} (hq : qs[k]? = some q) : ∃ g, pl = some ⟨g, 0, none⟩ ∧ w.cell? ⟨g, k * 4, none⟩ = some (.string q.x.id.kind) ∧ w.cell? ⟨g, k * 4 + 1, none⟩ = some (.string q.x.id.name) ∧ w.cell? ⟨g, k * 4 + 2, none⟩ = some (.slice q.a2 q.n2 q.p2) ∧ w.cell? ⟨g, k * 4 + 3, none⟩ = some (.slice q.a3 q.n3 q.p3) := by
  have hlt : k < qs.length := (List.getElem?_eq_some_iff.1 hq).1
  rcases h.2 with ⟨hv, h0⟩ | ⟨g, cap', cur, hv, _, hg, hc, hm, hs, ht⟩
  · omega
  · injection hv with e1 e2 e3
    have key : ∀ r, r < 4 → w.cell? ⟨g, k * 4 + r, none⟩ = (cQ q)[r]? := fun r hr => by
      have h1 : (cellsQ qs)[k * 4 + r]? = (cQ q)[r]? := flat_get cQ_len hq hr
      rw [← h1, ← ht, List.getElem?_take, if_pos (by omega)]
      simp [World.cell?, hg]
    exact ⟨g, e1, key 0 (by omega), key 1 (by omega), key 2 (by omega), key 3 (by omega)⟩
theorem own_ext {B : Nat} {w w' : World} {T : TypeId} {sz n : Nat} {v : Value} {xs : List Value} (h : w.ownsRow B T sz v n xs) (e : Ext w w') : w'.ownsRow B T sz v n xs := ownsRow_wrote h (Wrote.ext (B := 0) (T := fun _ => False) e) id rfl

set_option maxRecDepth 100000 in
set_option maxHeartbeats 6400000 in
theorem steppedD (B : Nat) (v : Value) (qs : List ResC) (x : Resd) (a2 : Option Addr) (n2 p2 : Nat) (a3 : Option Addr) (p3 : Nat) (w : World) (hrow : w.ownsRow B 35 4 v qs.length (cellsQ qs)) (hqin : ∀ q ∈ qs, q.In w) (hl : qs.length ≤ 500) (hr : ResV w (.slice a2 n2 p2) (.slice a3 x.after.length p3) x) (ph : HasR (qs.map ResC.x) x.id) (pn : ∀ y ∈ withoutS (qs.map ResC.x) x.id, x.id ∉ y.after) :
    Calls Tryz.prog 10 #[v, .agg #[.int .i64 3, .string x.id.kind, .string x.id.name, .slice a2 n2 p2, .slice a3 x.after.length p3]] w (StepIs w qs ⟨x, a2, n2, p2, a3, x.after.length, p3⟩ (withoutS (qs.map ResC.x) x.id)) := by
  obtain ⟨pa, cap, rfl⟩ := ownsRow_form hrow
  obtain ⟨l, hle⟩ : ∃ l, l = qs.map ResC.x := ⟨_, rfl⟩
  have hll : Hid (l.length ≤ 500) := by show _ ≤ _; rw [hle, List.length_map]; exact hl
  have hv : RessV w (.slice pa qs.length cap) l := by rw [hle]; exact ressV_own hrow (by omega) hqin
  rw [← hle]; rw [← hle] at ph pn
  replace hle := hide hle
  obtain ⟨W1, hW1⟩ : ∃ W1, W1 = (w.alloc (.cells #[.int .i64 3, .string x.id.kind, .string x.id.name, .slice a2 n2 p2, .slice a3 x.after.length p3] 38)).alloc (.cells #[.string x.id.kind, .string x.id.name, .slice a2 n2 p2, .slice a3 x.after.length p3] 35) := ⟨_, rfl⟩
  have X0 : Hid (Ext w W1) := hW1 ▸ ((Ext.refl w).alloc _).alloc _
  have B0 : Hid (W1.heap[w.heap.size]? = some (.cells #[.int .i64 3, .string x.id.kind, .string x.id.name, .slice a2 n2 p2, .slice a3 x.after.length p3] 38 (0, 0))) := by
    rw [hW1]; exact ext_at ((Ext.refl _).alloc _) (heap_alloc_new w _)
  have B1 : Hid (W1.heap[w.heap.size + 1]? = some (.cells #[.string x.id.kind, .string x.id.name, .slice a2 n2 p2, .slice a3 x.after.length p3] 35 (0, 0))) := by
    rw [hW1]
    have := heap_alloc_new (w.alloc (.cells #[.int .i64 3, .string x.id.kind, .string x.id.name, .slice a2 n2 p2, .slice a3 x.after.length p3] 38)) (.cells #[.string x.id.kind, .string x.id.name, .slice a2 n2 p2, .slice a3 x.after.length p3] 35)
    rw [show (w.alloc (.cells #[.int .i64 3, .string x.id.kind, .string x.id.name, .slice a2 n2 p2, .slice a3 x.after.length p3] 38)).heap.size = w.heap.size + 1 by simp] at this
    exact this
  replace hv := hide hv; replace hrow := hide hrow; replace hqin := hide hqin; replace hr := hide hr; replace hW1 := hide hW1; replace ph := hide ph; replace pn := hide pn
  go_enter Tryz.func10, Tryz.ntmps10
  go_wp2_with fail
  rw [← hW1.out]
  refine (hasL _ l x.id W1 (hv.out.ext X0.out) hll.out).mono ?_
  rintro e1 w1 ⟨b, rfl, hb, h1⟩
  obtain rfl : b = true := by exact hb.out.2 ph.out
  replace B0 := hide (ext_at h1.out B0.out); replace B1 := hide (ext_at h1.out B1.out)
  have X1 := hide (X0.out.trans h1.out)
  replace hb := hide hb.out
  have z0 := fiveAt B0.out
  obtain ⟨z1, z2, z3, z4⟩ := boxIs B1.out
  go_wp2_with fail
  refine (withoutQ _ qs x.id w1 B (own_ext hrow.out X1.out) (fun q hq => (hqin.out q hq).ext X1.out) hl).mono ?_
  rintro e2 w2 ⟨left, pl, cl, rfl, hmap, hin2, hrow2, hn2, h2⟩
  replace B0 := hide (ext_at h2.out B0.out); replace B1 := hide (ext_at h2.out B1.out)
  have X2 := hide (X1.out.trans h2.out)
  rw [← hle.out] at hmap
  rw [← hmap.out] at pn
  replace hmap := hide hmap.out; replace h1 := hide h1; replace h2 := hide h2; replace hin2 := hide hin2.out; replace hrow2 := hide hrow2.out
  clear z0 z1 z2 z3 z4
  go_wp2_with fail
  go_loopw [9] (fun kv wr => ∃ (k : Nat), kv = .int .i64 k ∧ k ≤ left.length ∧ Hid (Ext w2 wr)) (fun kv _ => left.length - (intOf kv).toNat)
  case atStart => exact ⟨0, rfl, Nat.zero_le _, Ext.refl _⟩
  case round =>
    obtain ⟨k, rfl, hk, hX⟩ := hrel
    have B0r := hide (ext_at hX.out B0.out); have B1r := hide (ext_at hX.out B1.out)
    by_cases hlt : k < left.length
    · obtain ⟨y, hy⟩ := some_of_lt hlt
      obtain ⟨g, rfl, p0, p1, p2', p3'⟩ := cellsQ_get hrow2.out hy
      have hR := (hin2.out y (List.mem_of_getElem? hy)).1
      have hno := hide (pn.out y.x (List.mem_map.2 ⟨y, List.mem_of_getElem? hy, rfl⟩))
      replace p3' := hX.out.cells p3'
      clear p0 p1 p2'
      obtain ⟨q0, q1, -, -⟩ := boxIs B1r.out
      have k2 : (k : Int) < (left.length : Int) := by omega
      have k4 : (0 : Int) ≤ (k : Int) := by omega
      have hA := hide (ResV.after (ResV.ext hR (h2.out.out.trans hX.out)))
      replace hy := hide hy; replace hR := hide hR
      go_wp2_with fail
      go_region_held3 (fun w' => w'.cell? ⟨w.heap.size + 1, 0, none⟩ = some (.string x.id.kind) ∧ w'.cell? ⟨w.heap.size + 1, 1, none⟩ = some (.string x.id.name) ∧ w'.cell? ⟨g, k * 4 + 3, none⟩ = some (.slice y.a3 y.n3 y.p3)) (go_keep)
        ((go_at_call 9; refine (holdsL _ y.x.after x.id _ (hA.out.ext (Ext.refl wr).drew)).mono ?_; rintro e3' w3 ⟨b3, rfl, hb3, he3⟩; go_must (have E3 : Hid (Ext wr w3) := (Ext.refl wr).drew.trans he3.out; have B3 := hide (ext_at E3.out B1r.out); obtain ⟨y0, y1, -, -⟩ := boxIs B3.out; have y2 := E3.out.cells p3'; replace he3 := hide he3)))
      obtain rfl : b3 = false := by
        cases b3 with
        | true => exact absurd (hb3.out.1 rfl) hno.out
        | false => rfl
      go_wp2_with fail
      go_roundw
      case rel => exact ⟨k + 1, by go_num, by omega, hX.out.trans E3.out⟩
      case measure => simp [intOf]; omega
    · obtain rfl : k = left.length := by omega
      go_wp2_with fail
      go_ret2
      exact ⟨left, pl, cl, rfl, hmap.out, fun q hq => .inl (hin2.out q hq).2, own_ext (own_mono hrow2.out (Nat.zero_le _)) hX.out, X2.out.trans hX.out⟩

set_option maxRecDepth 100000 in
set_option maxHeartbeats 6400000 in
theorem steppedC (B : Nat) (v : Value) (qs : List ResC) (x : Resd) (a2 : Option Addr) (n2 p2 : Nat) (a3 : Option Addr) (p3 : Nat) (w : World) (hrow : w.ownsRow B 35 4 v qs.length (cellsQ qs)) (hqin : ∀ q ∈ qs, q.In w) (hl : qs.length ≤ 500) (hr : ResV w (.slice a2 n2 p2) (.slice a3 x.after.length p3) x) (ph : ¬ HasR (qs.map ResC.x) x.id) (pn : ∀ a ∈ x.after, HasR (qs.map ResC.x) a) :
    Calls Tryz.prog 10 #[v, .agg #[.int .i64 1, .string x.id.kind, .string x.id.name, .slice a2 n2 p2, .slice a3 x.after.length p3]] w (StepIs w qs ⟨x, a2, n2, p2, a3, x.after.length, p3⟩ (putS (qs.map ResC.x) x)) := by
  obtain ⟨pa, cap, rfl⟩ := ownsRow_form hrow
  obtain ⟨l, hle⟩ : ∃ l, l = qs.map ResC.x := ⟨_, rfl⟩
  have hll : Hid (l.length ≤ 500) := by show _ ≤ _; rw [hle, List.length_map]; exact hl
  have hv : RessV w (.slice pa qs.length cap) l := by rw [hle]; exact ressV_own hrow (by omega) hqin
  rw [← hle]; rw [← hle] at ph pn
  replace hle := hide hle
  obtain ⟨W1, hW1⟩ : ∃ W1, W1 = (w.alloc (.cells #[.int .i64 1, .string x.id.kind, .string x.id.name, .slice a2 n2 p2, .slice a3 x.after.length p3] 38)).alloc (.cells #[.string x.id.kind, .string x.id.name, .slice a2 n2 p2, .slice a3 x.after.length p3] 35) := ⟨_, rfl⟩
  have X0 : Hid (Ext w W1) := hW1 ▸ ((Ext.refl w).alloc _).alloc _
  have B0 : Hid (W1.heap[w.heap.size]? = some (.cells #[.int .i64 1, .string x.id.kind, .string x.id.name, .slice a2 n2 p2, .slice a3 x.after.length p3] 38 (0, 0))) := by
    rw [hW1]; exact ext_at ((Ext.refl _).alloc _) (heap_alloc_new w _)
  have B1 : Hid (W1.heap[w.heap.size + 1]? = some (.cells #[.string x.id.kind, .string x.id.name, .slice a2 n2 p2, .slice a3 x.after.length p3] 35 (0, 0))) := by
    rw [hW1]
    have := heap_alloc_new (w.alloc (.cells #[.int .i64 1, .string x.id.kind, .string x.id.name, .slice a2 n2 p2, .slice a3 x.after.length p3] 38)) (.cells #[.string x.id.kind, .string x.id.name, .slice a2 n2 p2, .slice a3 x.after.length p3] 35)
    rw [show (w.alloc (.cells #[.int .i64 1, .string x.id.kind, .string x.id.name, .slice a2 n2 p2, .slice a3 x.after.length p3] 38)).heap.size = w.heap.size + 1 by simp] at this
    exact this
  replace hv := hide hv; replace hrow := hide hrow; replace hqin := hide hqin; replace hr := hide hr; replace hW1 := hide hW1; replace ph := hide ph; replace pn := hide pn
  go_enter Tryz.func10, Tryz.ntmps10
  go_wp2_with fail
  rw [← hW1.out]
  refine (hasL _ l x.id W1 (hv.out.ext X0.out) hll.out).mono ?_
  rintro e1 w1 ⟨b, rfl, hb, h1⟩
  obtain rfl : b = false := by cases b with
    | true => exact absurd (hb.out.1 rfl) ph.out
    | false => rfl
  replace B0 := hide (ext_at h1.out B0.out); replace B1 := hide (ext_at h1.out B1.out)
  have X1 := hide (X0.out.trans h1.out)
  replace hb := hide hb.out
  have z0 := fiveAt B0.out
  obtain ⟨z1, z2, z3, z4⟩ := boxIs B1.out
  have hA := hide hr.out.after
  replace h1 := hide h1
  go_wp2_with fail
  clear z0 z1 z2 z3 z4
  go_loopw [11] (fun kv wr => ∃ (k : Nat), kv = .int .i64 k ∧ k ≤ x.after.length ∧ Hid (Ext w1 wr)) (fun kv _ => x.after.length - (intOf kv).toNat)
  case atStart => exact ⟨0, rfl, Nat.zero_le _, Ext.refl _⟩
  case round =>
    obtain ⟨k, rfl, hk, hX⟩ := hrel
    have B0r := hide (ext_at hX.out B0.out); have B1r := hide (ext_at hX.out B1.out)
    have hfew := hA.out.few
    by_cases hlt : k < x.after.length
    · obtain ⟨a, ha⟩ := some_of_lt hlt
      obtain ⟨_, _, hpe, -, -, hin2⟩ := hA.out.shape
      injection hpe with e1 e2 e3
      subst e1; subst e3; clear e2
      rcases hin2 with hh | ⟨bx, ox, rfl, hxi⟩
      · rw [hh] at hlt; simp at hlt
      obtain ⟨p0, p1⟩ := hxi k a ha
      have hno := hide (pn.out a (List.mem_of_getElem? ha))
      replace p0 := (X1.out.trans hX.out).cells p0; replace p1 := (X1.out.trans hX.out).cells p1
      obtain ⟨q0, q1, q2, q3⟩ := boxIs B1r.out
      have k2 : (k : Int) < (x.after.length : Int) := by omega
      have k4 : (0 : Int) ≤ (k : Int) := by omega
      replace ha := hide ha; replace hxi := hide hxi
      go_wp2_with fail
      refine (hasL _ l a _ (hv.out.ext (X1.out.trans hX.out)) hll.out).mono ?_
      rintro e3 w3 ⟨b3, rfl, hb3, he3⟩
      obtain rfl : b3 = true := hb3.out.2 hno.out
      clear p0 p1 q0 q1 q2 q3
      go_wp2_with fail
      go_roundw
      case rel => exact ⟨k + 1, by go_num, by omega, hX.out.trans he3.out⟩
      case measure => simp [intOf]; omega
    · obtain rfl : k = x.after.length := by omega
      obtain ⟨q0, q1, q2, q3⟩ := boxIs B1r.out
      have q4 := fiveAt B0r.out
      obtain ⟨rc, hrc⟩ : ∃ rc : ResC, rc = ⟨x, a2, n2, p2, a3, x.after.length, p3⟩ := ⟨_, rfl⟩
      have hrc' : Hid (rc.In wr) := by rw [hrc]; exact hr.out.ext (X1.out.trans hX.out)
      have hput : Hid (∀ n, Calls Tryz.prog 18 #[.slice pa qs.length cap, .agg #[.string x.id.kind, .string x.id.name, .slice a2 n2 p2, .slice a3 x.after.length p3]] (wr.drewN n) (PutR (wr.drewN n) (fun q => q ∈ qs ∨ q = rc) (putS l x))) := by
        intro n
        have := putQ (.slice pa qs.length cap) qs rc (wr.drewN n) B (own_ext hrow.out ((X1.out.trans hX.out).drewN n)) (fun q hq => (hqin.out q hq).ext ((X1.out.trans hX.out).drewN n)) hl (hrc'.out.ext ((Ext.refl wr).drewN n))
        rw [hle.out]; rw [hrc] at this ⊢; exact this
      replace hrc := hide hrc
      go_wp2_with fail
      first
        | go_region_with (go_at_call 18; refine (hput.out 1).mono ?_; rintro e3 w3 ⟨qs', po, co, rfl, hmap, hin3, hrow3, hn3, he3⟩; go_must (have E3 : Hid (Ext wr w3) := (Ext.refl wr).drew.trans he3.out; have B3 := hide (ext_at E3.out B1r.out); have B4 := hide (ext_at E3.out B0r.out); obtain ⟨y0, y1, y2, y3⟩ := boxIs B3.out; have y4 := fiveAt B4.out; replace he3 := hide he3; replace hmap := hide hmap.out; replace hin3 := hide hin3.out; replace hrow3 := hide hrow3.out))
        | fail
      all_goals
        go_wp2_with fail
        go_ret2
        exact ⟨qs', po, co, rfl, hmap.out, fun q hq => by have := (hin3.out q hq).2; rw [hrc.out] at this; exact this, own_mono hrow3.out (Nat.zero_le _), X1.out.trans (hX.out.trans E3.out)⟩

set_option maxRecDepth 100000 in
set_option maxHeartbeats 6400000 in
theorem steppedU (B : Nat) (v : Value) (qs : List ResC) (x : Resd) (a2 : Option Addr) (n2 p2 : Nat) (a3 : Option Addr) (p3 : Nat) (w : World) (hrow : w.ownsRow B 35 4 v qs.length (cellsQ qs)) (hqin : ∀ q ∈ qs, q.In w) (hl : qs.length ≤ 500) (hr : ResV w (.slice a2 n2 p2) (.slice a3 x.after.length p3) x) (ph : HasR (qs.map ResC.x) x.id) (pn : ∀ a ∈ x.after, HasR (qs.map ResC.x) a) :
    Calls Tryz.prog 10 #[v, .agg #[.int .i64 2, .string x.id.kind, .string x.id.name, .slice a2 n2 p2, .slice a3 x.after.length p3]] w (StepIs w qs ⟨x, a2, n2, p2, a3, x.after.length, p3⟩ (putS (qs.map ResC.x) x)) := by
  obtain ⟨pa, cap, rfl⟩ := ownsRow_form hrow
  obtain ⟨l, hle⟩ : ∃ l, l = qs.map ResC.x := ⟨_, rfl⟩
  have hll : Hid (l.length ≤ 500) := by show _ ≤ _; rw [hle, List.length_map]; exact hl
  have hv : RessV w (.slice pa qs.length cap) l := by rw [hle]; exact ressV_own hrow (by omega) hqin
  rw [← hle]; rw [← hle] at ph pn
  replace hle := hide hle
  obtain ⟨W1, hW1⟩ : ∃ W1, W1 = (w.alloc (.cells #[.int .i64 2, .string x.id.kind, .string x.id.name, .slice a2 n2 p2, .slice a3 x.after.length p3] 38)).alloc (.cells #[.string x.id.kind, .string x.id.name, .slice a2 n2 p2, .slice a3 x.after.length p3] 35) := ⟨_, rfl⟩
  have X0 : Hid (Ext w W1) := hW1 ▸ ((Ext.refl w).alloc _).alloc _
  have B0 : Hid (W1.heap[w.heap.size]? = some (.cells #[.int .i64 2, .string x.id.kind, .string x.id.name, .slice a2 n2 p2, .slice a3 x.after.length p3] 38 (0, 0))) := by
    rw [hW1]; exact ext_at ((Ext.refl _).alloc _) (heap_alloc_new w _)
  have B1 : Hid (W1.heap[w.heap.size + 1]? = some (.cells #[.string x.id.kind, .string x.id.name, .slice a2 n2 p2, .slice a3 x.after.length p3] 35 (0, 0))) := by
    rw [hW1]
    have := heap_alloc_new (w.alloc (.cells #[.int .i64 2, .string x.id.kind, .string x.id.name, .slice a2 n2 p2, .slice a3 x.after.length p3] 38)) (.cells #[.string x.id.kind, .string x.id.name, .slice a2 n2 p2, .slice a3 x.after.length p3] 35)
    rw [show (w.alloc (.cells #[.int .i64 2, .string x.id.kind, .string x.id.name, .slice a2 n2 p2, .slice a3 x.after.length p3] 38)).heap.size = w.heap.size + 1 by simp] at this
    exact this
  replace hv := hide hv; replace hrow := hide hrow; replace hqin := hide hqin; replace hr := hide hr; replace hW1 := hide hW1; replace ph := hide ph; replace pn := hide pn
  go_enter Tryz.func10, Tryz.ntmps10
  go_wp2_with fail
  rw [← hW1.out]
  refine (hasL _ l x.id W1 (hv.out.ext X0.out) hll.out).mono ?_
  rintro e1 w1 ⟨b, rfl, hb, h1⟩
  obtain rfl : b = true := by exact hb.out.2 ph.out
  replace B0 := hide (ext_at h1.out B0.out); replace B1 := hide (ext_at h1.out B1.out)
  have X1 := hide (X0.out.trans h1.out)
  replace hb := hide hb.out
  have z0 := fiveAt B0.out
  obtain ⟨z1, z2, z3, z4⟩ := boxIs B1.out
  have hA := hide hr.out.after
  replace h1 := hide h1
  go_wp2_with fail
  clear z0 z1 z2 z3 z4
  go_loopw [11] (fun kv wr => ∃ (k : Nat), kv = .int .i64 k ∧ k ≤ x.after.length ∧ Hid (Ext w1 wr)) (fun kv _ => x.after.length - (intOf kv).toNat)
  case atStart => exact ⟨0, rfl, Nat.zero_le _, Ext.refl _⟩
  case round =>
    obtain ⟨k, rfl, hk, hX⟩ := hrel
    have B0r := hide (ext_at hX.out B0.out); have B1r := hide (ext_at hX.out B1.out)
    have hfew := hA.out.few
    by_cases hlt : k < x.after.length
    · obtain ⟨a, ha⟩ := some_of_lt hlt
      obtain ⟨_, _, hpe, -, -, hin2⟩ := hA.out.shape
      injection hpe with e1 e2 e3
      subst e1; subst e3; clear e2
      rcases hin2 with hh | ⟨bx, ox, rfl, hxi⟩
      · rw [hh] at hlt; simp at hlt
      obtain ⟨p0, p1⟩ := hxi k a ha
      have hno := hide (pn.out a (List.mem_of_getElem? ha))
      replace p0 := (X1.out.trans hX.out).cells p0; replace p1 := (X1.out.trans hX.out).cells p1
      obtain ⟨q0, q1, q2, q3⟩ := boxIs B1r.out
      have k2 : (k : Int) < (x.after.length : Int) := by omega
      have k4 : (0 : Int) ≤ (k : Int) := by omega
      replace ha := hide ha; replace hxi := hide hxi
      go_wp2_with fail
      refine (hasL _ l a _ (hv.out.ext (X1.out.trans hX.out)) hll.out).mono ?_
      rintro e3 w3 ⟨b3, rfl, hb3, he3⟩
      obtain rfl : b3 = true := hb3.out.2 hno.out
      clear p0 p1 q0 q1 q2 q3
      go_wp2_with fail
      go_roundw
      case rel => exact ⟨k + 1, by go_num, by omega, hX.out.trans he3.out⟩
      case measure => simp [intOf]; omega
    · obtain rfl : k = x.after.length := by omega
      obtain ⟨q0, q1, q2, q3⟩ := boxIs B1r.out
      have q4 := fiveAt B0r.out
      obtain ⟨rc, hrc⟩ : ∃ rc : ResC, rc = ⟨x, a2, n2, p2, a3, x.after.length, p3⟩ := ⟨_, rfl⟩
      have hrc' : Hid (rc.In wr) := by rw [hrc]; exact hr.out.ext (X1.out.trans hX.out)
      have hput : Hid (∀ n, Calls Tryz.prog 18 #[.slice pa qs.length cap, .agg #[.string x.id.kind, .string x.id.name, .slice a2 n2 p2, .slice a3 x.after.length p3]] (wr.drewN n) (PutR (wr.drewN n) (fun q => q ∈ qs ∨ q = rc) (putS l x))) := by
        intro n
        have := putQ (.slice pa qs.length cap) qs rc (wr.drewN n) B (own_ext hrow.out ((X1.out.trans hX.out).drewN n)) (fun q hq => (hqin.out q hq).ext ((X1.out.trans hX.out).drewN n)) hl (hrc'.out.ext ((Ext.refl wr).drewN n))
        rw [hle.out]; rw [hrc] at this ⊢; exact this
      replace hrc := hide hrc
      go_wp2_with fail
      go_region_held3 (fun w' => w'.cell? ⟨w.heap.size + 1, 0, none⟩ = some (.string x.id.kind) ∧ w'.cell? ⟨w.heap.size + 1, 1, none⟩ = some (.string x.id.name) ∧ w'.cell? ⟨w.heap.size + 1, 2, none⟩ = some (.slice a2 n2 p2) ∧ w'.cell? ⟨w.heap.size + 1, 3, none⟩ = some (.slice a3 x.after.length p3) ∧ w'.cell? ⟨w.heap.size, 0, none⟩ = some (.int .i64 2)) (go_keep)
            ((go_at_call 18; refine (hput.out 1).mono ?_; rintro e3 w3 ⟨qs', po, co, rfl, hmap, hin3, hrow3, hn3, he3⟩; go_must (have E3 : Hid (Ext wr w3) := (Ext.refl wr).drew.trans he3.out; have B3 := hide (ext_at E3.out B1r.out); have B4 := hide (ext_at E3.out B0r.out); obtain ⟨y0, y1, y2, y3⟩ := boxIs B3.out; have y4 := fiveAt B4.out; replace he3 := hide he3; replace hmap := hide hmap.out; replace hin3 := hide hin3.out; replace hrow3 := hide hrow3.out)))
      all_goals
        go_wp2_with fail
        go_ret2
        exact ⟨qs', po, co, rfl, hmap.out, fun q hq => by have := (hin3.out q hq).2; rw [hrc.out] at this; exact this, own_mono hrow3.out (Nat.zero_le _), X1.out.trans (hX.out.trans E3.out)⟩

theorem steppedL (B : Nat) (v : Value) (qs : List ResC) (l' : List Resd) (op : Nat) (r : ResC) (w : World) (hrow : w.ownsRow B 35 4 v qs.length (cellsQ qs)) (hqin : ∀ q ∈ qs, q.In w) (hl : qs.length ≤ 500) (hr : r.In w) (h : stepS (qs.map ResC.x) ⟨op, r.x⟩ = some l') :
    Calls Tryz.prog 10 #[v, .agg #[.int .i64 op, .string r.x.id.kind, .string r.x.id.name, .slice r.a2 r.n2 r.p2, .slice r.a3 r.n3 r.p3]] w (StepIs w qs r l') := by
  obtain ⟨x, a2, n2, p2, a3, n3, p3⟩ := r
  obtain ⟨e3, f3, he⟩ := ResV.after hr |>.form
  have hn3 : n3 = x.after.length := by injection he
  have hr' : ResV w (.slice a2 n2 p2) (.slice a3 x.after.length p3) x := by
    have h0 : ResV w (.slice a2 n2 p2) (.slice a3 n3 p3) x := hr
    rw [hn3] at h0; exact h0
  clear he hr
  subst hn3
  by_cases ho : op = 3
  · subst ho
    obtain ⟨h1, h2, rfl⟩ := step_del_is h
    exact steppedD B v qs x a2 n2 p2 _ _ w hrow hqin hl hr' h1 h2
  · obtain ⟨h1, h2, h3, rfl⟩ := step_make_is ho h
    rcases h3 with rfl | rfl
    · exact steppedC B v qs x a2 n2 p2 _ _ w hrow hqin hl hr' (fun h => by have := h2.1 h; omega) h1
    · exact steppedU B v qs x a2 n2 p2 _ _ w hrow hqin hl hr' (h2.2 rfl) h1
end Go.Proofs.YtfoelahabalbpaaGreatDoor
