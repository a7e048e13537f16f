/-
  Steps in memory.
-/
/-
  IDs, Attrs and resources as bytes: what the program's functions that write them answer.
-/
/-
  What is lent, once all of it stands: the lists that it leads to; and stores into it.
-/
import Derived.Test.YtodhhjlemmmjcaaGreatJ3
import Derived.Test.YtodhhjlemmmjcaaGreatJ2
import Derived.Test.YtodhhjlemmmjcaaGreatJ11
import Derived.Test.YtodhhjlemmmjcaaGreatJ4
import Derived.Test.YtodhhjlemmmjcaaGreatJ10
import Derived.Test.YtodhhjlemmmjcaaGreatJ9
import Derived.Test.YtodhhjlemmmjcaaGreatLend
import Derived.Test.YtodhhjlemmmjcaaGreatJ12
namespace Go.Proofs.YtodhhjlemmmjcaaGreat
open Go.RowKit

/-- A step in memory: what is done; a resource, and where its lists are. -/
structure StepP where
  op : Nat
  x : Resd
  c2 : Value
  c3 : Value
def stepOf (p : StepP) : StepD := ⟨p.op, p.x⟩
def cSt (p : StepP) : List Value := [.int .i64 p.op, .string p.x.id.kind, .string p.x.id.name, p.c2, p.c3]
theorem cSt_len (p : StepP) : (cSt p).length = 5 := rfl
theorem cSt_one {op : Nat} {x : Resd} {pa2 pa3 : Option Addr} {n2 n3 cap2 cap3 : Nat} : ∀ u ∈ cSt ⟨op, x, .slice pa2 n2 cap2, .slice pa3 n3 cap3⟩, u.oneCell' = true := by
  intro u hu
  simp [cSt] at hu
  rcases hu with rfl | rfl | rfl | rfl | rfl <;> rfl
theorem infoStep : (Tryz.prog.info? 60).map (fun i => (i.zero, i.size, i.bytes)) = some (some (.agg #[.int .i64 0, .string ⟨#[]⟩, .string ⟨#[]⟩, .slice none 0 0, .slice none 0 0]), 5, 88) := by kernel_rfl
/-- Steps lie in a block, from a place on. -/
def StepsIn (w : World) (b off : Nat) (l : List StepD) : Prop :=
  ∀ (i : Nat) s, l[i]? = some s → w.cell? ⟨b, off + i * 5, none⟩ = some (.int .i64 s.op) ∧ w.cell? ⟨b, off + i * 5 + 1, none⟩ = some (.string s.x.id.kind) ∧ w.cell? ⟨b, off + i * 5 + 2, none⟩ = some (.string s.x.id.name) ∧
    ∃ c2 c3, w.cell? ⟨b, off + i * 5 + 3, none⟩ = some c2 ∧ w.cell? ⟨b, off + i * 5 + 4, none⟩ = some c3 ∧ ResV w c2 c3 s.x
/-- A slice leads to a list of steps. -/
structure StepsV (w : World) (v : Value) (l : List StepD) : Prop where
  shape : ∃ a cap, v = .slice a l.length cap ∧ l.length ≤ cap ∧ cap ≤ 9223372036854775807 ∧ (l = [] ∨ ∃ b off, a = some ⟨b, off, none⟩ ∧ StepsIn w b off l)
  few : l.length ≤ 4398046511200
theorem StepsIn.ext {w w' : World} {b off : Nat} {l : List StepD} (h : StepsIn w b off l) (e : Ext w w') : StepsIn w' b off l := by
  intro i s hs
  obtain ⟨h0, h1, h2, c2, c3, h3, h4, h5⟩ := h i s hs
  exact ⟨e.cells h0, e.cells h1, e.cells h2, c2, c3, e.cells h3, e.cells h4, h5.ext e⟩
theorem StepsV.ext {w w' : World} {v : Value} {l : List StepD} (h : StepsV w v l) (e : Ext w w') : StepsV w' v l := by
  obtain ⟨⟨a, cap, hv, hc, hm, hs⟩, h2⟩ := h
  refine ⟨⟨a, cap, hv, hc, hm, ?_⟩, h2⟩
  rcases hs with hs | ⟨b, off, ha, hi⟩
  · exact .inl hs
  · exact .inr ⟨b, off, ha, hi.ext e⟩
/-- A row of our own leads to its steps. -/
theorem stepsV_of {B : Nat} {w : World} {v : Value} {ps : List StepP} (hr : w.ownsRow B 60 5 v ps.length (ps.flatMap cSt)) (he : ∀ p ∈ ps, ResV w p.c2 p.c3 p.x) (hn : ps.length ≤ 1000) : StepsV w v (ps.map stepOf) := by
  have hl : (ps.map stepOf).length = ps.length := List.length_map ..
  refine ⟨?_, by rw [hl]; omega⟩
  rcases hr.2 with ⟨rfl, h0⟩ | ⟨g, cap, cur, rfl, _, hg, hc, hm, hs, ht⟩
  · have : ps = [] := List.eq_nil_of_length_eq_zero h0
    subst this
    exact ⟨none, 0, rfl, Nat.le_refl _, by decide, .inl rfl⟩
  · refine ⟨some ⟨g, 0, none⟩, cap, by rw [hl], by rw [hl]; exact hc, by unfold maxLen at hm; omega, .inr ⟨g, 0, rfl, ?_⟩⟩
    intro i s hs
    rw [List.getElem?_map] at hs
    obtain ⟨p, hp, rfl⟩ := Option.map_eq_some_iff.1 hs
    have hlt : i < ps.length := (List.getElem?_eq_some_iff.1 hp).1
    have key : ∀ r, r < 5 → w.cell? ⟨g, 0 + i * 5 + r, none⟩ = (cSt p)[r]? := by
      intro r hr
      have h1 : (ps.flatMap cSt)[i * 5 + r]? = (cSt p)[r]? := flat_get cSt_len hp hr
      rw [← h1, ← ht, List.getElem?_take, if_pos (by omega), Nat.zero_add]
      simp [World.cell?, hg]
    exact ⟨key 0 (by omega), key 1 (by omega), key 2 (by omega), p.c2, p.c3, key 3 (by omega), key 4 (by omega), he p (List.mem_of_getElem? hp)⟩
end Go.Proofs.YtodhhjlemmmjcaaGreat

namespace Go.Proofs.YtodhhjlemmmjcaaGreat
open Go.RowKit

def idL (x : IDd) : List UInt8 := textL x.kind ++ textL x.name
def attrL (x : Attrd) : List UInt8 := textL x.name ++ (if x.isText then bigL 1 1 ++ textL x.text else bigL 1 0 ++ bigL 4 x.number)
def listL {α : Type} (f : α → List UInt8) (l : List α) : List UInt8 := bigL 1 l.length ++ l.flatMap f
/-- A resource as bytes. -/
def encR (x : Resd) : List UInt8 := idL x.id ++ listL attrL x.attrs ++ listL idL x.after
/-- Its texts are short. -/
def shI (x : IDd) : Prop := x.kind.size ≤ 255 ∧ x.name.size ≤ 255
def shA (x : Attrd) : Prop := x.name.size ≤ 255 ∧ x.text.size ≤ 255
def shR (x : Resd) : Prop := shI x.id ∧ (∀ a ∈ x.attrs, shA a) ∧ (∀ a ∈ x.after, shI a) ∧ x.attrs.length ≤ 255 ∧ x.after.length ≤ 255
theorem idL_len {x : IDd} (h : shI x) : (idL x).length ≤ 600 := by
  rw [idL, List.length_append, textL_len, textL_len]; have := h.1; have := h.2; omega
theorem attrL_len {x : Attrd} (h : shA x) : (attrL x).length ≤ 600 := by
  rw [attrL, List.length_append, textL_len]; have := h.1; have := h.2
  split
  · rw [List.length_append, bigL_len, textL_len]; omega
  · rw [List.length_append, bigL_len, bigL_len]; omega
theorem flat_le {α : Type} {f : α → List UInt8} {n : Nat} : ∀ {l : List α}, (∀ x ∈ l, (f x).length ≤ n) → (l.flatMap f).length ≤ l.length * n
  | [], _ => by simp
  | x :: l, h => by
    have h1 := h x (by simp)
    have h2 := flat_le (f := f) (n := n) (l := l) fun y hy => h y (by simp [hy])
    rw [List.flatMap_cons, List.length_append, List.length_cons, Nat.succ_mul]; omega
theorem flat_succ {α : Type} {f : α → List UInt8} {l : List α} {k : Nat} {x : α} (h : l[k]? = some x) : (l.take (k + 1)).flatMap f = (l.take k).flatMap f ++ f x := by
  obtain ⟨hk, rfl⟩ := List.getElem?_eq_some_iff.1 h
  rw [List.take_succ_eq_append_getElem hk, List.flatMap_append]; simp

theorem id_keeps {B : Nat} {w w' : World} (h : Wrote8 B w w') {k : Nat} {c : Array Value} {fz : Nat × Nat} (hk : w.heap[k]? = some (.cells c 52 fz)) : w'.heap[k]? = some (.cells c 52 fz) := h.keeps hk (by decide)
theorem id_c0 {w : World} {k : Nat} {a b : Value} {t : TypeId} {fz : Nat × Nat} (hk : w.heap[k]? = some (.cells #[a, b] t fz)) : w.cell? ⟨k, 0, none⟩ = some a := by simp [World.cell?, hk]
theorem id_c1 {w : World} {k : Nat} {a b : Value} {t : TypeId} {fz : Nat × Nat} (hk : w.heap[k]? = some (.cells #[a, b] t fz)) : w.cell? ⟨k, 1, none⟩ = some b := by simp [World.cell?, hk]

theorem bound1 {acc l : List UInt8} {s : ByteArray} (h : acc = l ++ textL s) (hl : l.length ≤ 800000) (hs : s.size ≤ 255) : acc.length ≤ 900000 := by
  rw [h, List.length_append, textL_len]; omega

theorem at_keeps {B : Nat} {w w' : World} (h : Wrote8 B w w') {k : Nat} {c : Array Value} {fz : Nat × Nat} (hk : w.heap[k]? = some (.cells c 62 fz)) : w'.heap[k]? = some (.cells c 62 fz) := h.keeps hk (by decide)
theorem at_c0 {w : World} {k : Nat} {a b c d : Value} {t : TypeId} {fz : Nat × Nat} (hk : w.heap[k]? = some (.cells #[a, b, c, d] t fz)) : w.cell? ⟨k, 0, none⟩ = some a := by simp [World.cell?, hk]
theorem at_c1 {w : World} {k : Nat} {a b c d : Value} {t : TypeId} {fz : Nat × Nat} (hk : w.heap[k]? = some (.cells #[a, b, c, d] t fz)) : w.cell? ⟨k, 1, none⟩ = some b := by simp [World.cell?, hk]
theorem at_c2 {w : World} {k : Nat} {a b c d : Value} {t : TypeId} {fz : Nat × Nat} (hk : w.heap[k]? = some (.cells #[a, b, c, d] t fz)) : w.cell? ⟨k, 2, none⟩ = some c := by simp [World.cell?, hk]
theorem at_c3 {w : World} {k : Nat} {a b c d : Value} {t : TypeId} {fz : Nat × Nat} (hk : w.heap[k]? = some (.cells #[a, b, c, d] t fz)) : w.cell? ⟨k, 3, none⟩ = some d := by simp [World.cell?, hk]
theorem bound2 {acc l : List UInt8} {n : Int} {k N : Nat} (h : acc = l ++ bigL k n) (hl : l.length + k ≤ N) : acc.length ≤ N := by
  rw [h, List.length_append, bigL_len]; omega
theorem bound3 {acc l : List UInt8} {s : ByteArray} {N : Nat} (h : acc = l ++ textL s) (hl : l.length + (s.size + 1) ≤ N) : acc.length ≤ N := by
  rw [h, List.length_append, textL_len]; omega

end Go.Proofs.YtodhhjlemmmjcaaGreat

namespace Go.Proofs.YtodhhjlemmmjcaaGreat
open Go.RowKit

def marksR : List Value := (List.replicate 8 markR).flatMap cR
theorem okA_mark : okA markA := by refine ⟨?_, ?_, ?_, ?_⟩ <;> decide
theorem okI_mark : okI markI := by refine ⟨?_, ?_⟩ <;> decide
theorem cR_len (x : Resd) : (cR x).length = 4 := rfl
section
variable {B n : Nat} {ps : List Pt} {w : World} {O L : Nat} {va vf : Value} {rest : List Value}
theorem attrsAll {p : Pt} (hb : w.heap[p.a]? = some (.cells (cellsA (p.x.attrs ++ List.replicate 8 markA)).toArray 62 (0, 0))) (hok : okR p.x) : AttrsV w (slA p) (p.x.attrs ++ List.replicate 8 markA) := by
  obtain ⟨_, hA, _, la, _⟩ := hok
  refine ⟨⟨some ⟨p.a, 0, none⟩, p.x.attrs.length + 8, by simp [slA], by simp, by omega, .inr ⟨p.a, 0, rfl, ?_⟩⟩, by simp; omega, ?_⟩
  · exact attrsIn_of (rest := []) (by rw [List.append_nil]; exact hb)
  · intro x hx
    rcases List.mem_append.1 hx with hx | hx
    · exact hA x hx
    · rw [(List.mem_replicate.1 hx).2]; exact okA_mark
theorem idsAll {p : Pt} (hb : w.heap[p.f]? = some (.cells (cellsI (p.x.after ++ List.replicate 8 markI)).toArray 52 (0, 0))) (hok : okR p.x) : IDsV w (slF p) (p.x.after ++ List.replicate 8 markI) := by
  obtain ⟨_, _, hF, _, lf⟩ := hok
  refine ⟨⟨some ⟨p.f, 0, none⟩, p.x.after.length + 8, by simp [slF], by simp, by omega, .inr ⟨p.f, 0, rfl, ?_⟩⟩, by simp; omega, ?_⟩
  · exact idsIn_of (rest := []) (by rw [List.append_nil]; exact hb)
  · intro x hx
    rcases List.mem_append.1 hx with hx | hx
    · exact hF x hx
    · rw [(List.mem_replicate.1 hx).2]; exact okI_mark
theorem Lending.resV (h : Lending B n ps w O L va vf rest) {p : Pt} (hp : p ∈ ps) : ResV w (.slice (some ⟨p.a, 0, none⟩) p.x.attrs.length (p.x.attrs.length + 8)) (.slice (some ⟨p.f, 0, none⟩) p.x.after.length (p.x.after.length + 8)) p.x := by
  obtain ⟨hI, hA, hF, la, lf⟩ := h.ok p hp
  refine ⟨hI, ⟨⟨_, _, rfl, by omega, by omega, .inr ⟨p.a, 0, rfl, ?_⟩⟩, by omega, hA⟩, ⟨⟨_, _, rfl, by omega, by omega, .inr ⟨p.f, 0, rfl, ?_⟩⟩, by omega, hF⟩⟩
  · have hh := h.a p hp
    rw [cellsA, List.flatMap_append] at hh
    exact attrsIn_of (l := p.x.attrs) hh
  · have hh := h.f p hp
    rw [cellsI, List.flatMap_append] at hh
    exact idsIn_of (l := p.x.after) hh
theorem resV_mark : ResV w (.slice none 0 0) (.slice none 0 0) markR :=
  ⟨⟨by decide, by decide⟩, ⟨⟨none, 0, rfl, by simp [markR], by omega, .inl rfl⟩, by simp [markR], fun x hx => (by cases hx)⟩, ⟨⟨none, 0, rfl, by simp [markR], by omega, .inl rfl⟩, by simp [markR], fun x hx => (by cases hx)⟩⟩
theorem Lending.ressIn (h : Lending B n ps w O L va vf marksR) : RessIn w L 0 (ps.map Pt.x ++ List.replicate 8 markR) := by
  intro i x hx
  by_cases hi : i < ps.length
  · rw [List.getElem?_append_left (by simpa using hi), List.getElem?_map, List.getElem?_eq_getElem hi] at hx
    have hx' : ps[i].x = x := by simpa using hx
    subst hx'
    have key : ∀ r, r < 4 → w.cell? ⟨L, 0 + i * 4 + r, none⟩ = (cP ps[i])[r]? := by
      intro r hr
      rw [blk_cell h.l, Nat.zero_add, List.getElem?_append_left (by rw [flat_length cP_len]; omega)]
      exact flat_get cP_len (List.getElem?_eq_getElem hi) hr
    exact ⟨key 0 (by omega), key 1 (by omega), _, _, key 2 (by omega), key 3 (by omega), h.resV (List.getElem_mem hi)⟩
  · have hi' : ps.length ≤ i := by omega
    rw [List.getElem?_append_right (by simpa using hi'), List.length_map] at hx
    have hx' : x = markR := (List.mem_replicate.1 (List.mem_of_getElem? hx)).2
    subst hx'
    have key : ∀ r, r < 4 → w.cell? ⟨L, 0 + i * 4 + r, none⟩ = (cR markR)[r]? := by
      intro r hr
      rw [blk_cell h.l, Nat.zero_add, List.getElem?_append_right (by rw [flat_length cP_len]; omega), flat_length cP_len]
      have := flat_get cR_len hx hr
      rw [← this]
      show (List.flatMap cR _)[_]? = _
      congr 1
      omega
    exact ⟨key 0 (by omega), key 1 (by omega), _, _, key 2 (by omega), key 3 (by omega), resV_mark⟩
theorem Lending.ressAll (h : Lending B n ps w O L va vf marksR) (hn : ps.length = n) (hb : n ≤ 1759218604390) : RessV w (.slice (some ⟨L, 0, none⟩) (n + 8) (n + 8)) (ps.map Pt.x ++ List.replicate 8 markR) :=
  ⟨⟨some ⟨L, 0, none⟩, n + 8, by simp [hn], by simp [hn], by omega, .inr ⟨L, 0, rfl, h.ressIn⟩⟩, by simp [hn]; omega⟩
theorem Lending.ress (h : Lending B n ps w O L va vf marksR) (hn : ps.length = n) (hb : n ≤ 1759218604390) : RessV w (.slice (some ⟨L, 0, none⟩) n (n + 8)) (ps.map Pt.x) := by
  refine ⟨⟨some ⟨L, 0, none⟩, n + 8, by simp [hn], by simp [hn], by omega, .inr ⟨L, 0, rfl, ?_⟩⟩, by simp [hn]; omega⟩
  intro i x hx
  exact h.ressIn i x (by rw [List.getElem?_append_left (List.getElem?_eq_some_iff.1 hx).1]; exact hx)
end
def DL (ps : List Pt) (k : Nat) (j : Nat) : Prop := ∃ p ∈ ps.take k, j = p.a ∨ j = p.f
theorem DL.more {ps : List Pt} {k j : Nat} (h : DL ps k j) : DL ps (k + 1) j := by
  obtain ⟨p, hp, hj⟩ := h
  exact ⟨p, List.take_subset_take_left ps (Nat.le_succ k) hp, hj⟩
theorem take_mem {ps : List Pt} {k : Nat} {p : Pt} (hp : ps[k]? = some p) : p ∈ ps.take (k + 1) := by
  refine List.mem_of_getElem? (i := k) ?_
  rw [List.getElem?_take_of_lt (Nat.lt_succ_self k)]; exact hp
theorem DL.a {ps : List Pt} {k : Nat} {p : Pt} (hp : ps[k]? = some p) : DL ps (k + 1) p.a := ⟨p, take_mem hp, .inl rfl⟩
theorem DL.f {ps : List Pt} {k : Nat} {p : Pt} (hp : ps[k]? = some p) : DL ps (k + 1) p.f := ⟨p, take_mem hp, .inr rfl⟩
section
variable {B n : Nat} {ps : List Pt} {w : World} {O L : Nat} {va vf : Value} {rest : List Value}
theorem Lending.notD (h : Lending B n ps w O L va vf rest) {k j : Nat} {c : Array Value} {t : TypeId} {fz : Nat × Nat} (hj : w.heap[j]? = some (.cells c t fz)) (h1 : t ≠ 62) (h2 : t ≠ 52) : ¬ DL ps k j := by
  rintro ⟨p, hp, rfl | rfl⟩
  · exact tag_ne hj (h.a p (List.mem_of_mem_take hp)) h1 rfl
  · exact tag_ne hj (h.f p (List.mem_of_mem_take hp)) h2 rfl
theorem Lending.ltD (h : Lending B n ps w O L va vf rest) {k j : Nat} (hd : DL ps k j) : B ≤ j ∧ j < w.heap.size := by
  obtain ⟨p, hp, hj⟩ := hd
  have hp' := List.mem_of_mem_take hp
  rcases hj with rfl | rfl
  · exact ⟨(h.low.2.2 p hp').1, (Array.getElem?_eq_some_iff.1 (h.a p hp')).1⟩
  · exact ⟨(h.low.2.2 p hp').2, (Array.getElem?_eq_some_iff.1 (h.f p hp')).1⟩
theorem Lending.notA (h : Lending B n ps w O L va vf rest) {k : Nat} {p : Pt} (hp : ps[k]? = some p) : ¬ DL ps k p.a := by
  rintro ⟨q, hq, hj⟩
  have hq' := List.mem_of_mem_take hq
  rcases hj with hj | hj
  · obtain ⟨i, hi, rfl⟩ := List.mem_take_iff_getElem.1 hq
    obtain ⟨hk, rfl⟩ := List.getElem?_eq_some_iff.1 hp
    exact ((List.pairwise_iff_getElem.1 h.apart) i k (by omega) hk (by omega)).1 hj.symm
  · exact tag_ne (h.a p (List.mem_of_getElem? hp)) (h.f q hq') (by decide) hj
theorem Lending.notF (h : Lending B n ps w O L va vf rest) {k : Nat} {p : Pt} (hp : ps[k]? = some p) : ¬ DL ps k p.f := by
  rintro ⟨q, hq, hj⟩
  have hq' := List.mem_of_mem_take hq
  rcases hj with hj | hj
  · exact tag_ne (h.f p (List.mem_of_getElem? hp)) (h.a q hq') (by decide) hj
  · obtain ⟨i, hi, rfl⟩ := List.mem_take_iff_getElem.1 hq
    obtain ⟨hk, rfl⟩ := List.getElem?_eq_some_iff.1 hp
    exact ((List.pairwise_iff_getElem.1 h.apart) i k (by omega) hk (by omega)).2 hj.symm
end
theorem split4 {cs : List Value} {o : Nat} (h : o + 4 ≤ cs.length) : ∃ pre z0 z1 z2 z3 post, cs = pre ++ z0 :: z1 :: z2 :: z3 :: post ∧ pre.length = o := by
  refine ⟨cs.take o, cs[o], cs[o + 1], cs[o + 2], cs[o + 3], cs.drop (o + 4), ?_, by rw [List.length_take]; omega⟩
  rw [← List.drop_eq_getElem_cons, ← List.drop_eq_getElem_cons, ← List.drop_eq_getElem_cons, ← List.drop_eq_getElem_cons, List.take_append_drop]
theorem split2 {cs : List Value} {o : Nat} (h : o + 2 ≤ cs.length) : ∃ pre z0 z1 post, cs = pre ++ z0 :: z1 :: post ∧ pre.length = o := by
  refine ⟨cs.take o, cs[o], cs[o + 1], cs.drop (o + 2), ?_, by rw [List.length_take]; omega⟩
  rw [← List.drop_eq_getElem_cons, ← List.drop_eq_getElem_cons, List.take_append_drop]
/-- The k-th of a row that is owned. -/
theorem ownsRow_at {w : World} {base : Nat} {e : TypeId} {v : Value} {n : Nat} {xs : List Value} (h : w.ownsRow base e 1 v n xs) {k : Nat} (hk : k < n) : ∃ g cap c, v = .slice (some ⟨g, 0, none⟩) n cap ∧ n ≤ cap ∧ cap ≤ maxLen ∧ base ≤ g ∧ w.heap[g]? = some (.cells c e (0, 0)) ∧ w.cell? ⟨g, k, none⟩ = xs[k]? := by
  have h' := h
  rcases h.2 with ⟨_, rfl⟩ | ⟨g, cap, cur, rfl, hb, hg, h1, h2, _⟩
  · omega
  · exact ⟨g, cap, cur, rfl, h1, h2, hb, hg, h'.cellAt k (by omega)⟩
end Go.Proofs.YtodhhjlemmmjcaaGreat
