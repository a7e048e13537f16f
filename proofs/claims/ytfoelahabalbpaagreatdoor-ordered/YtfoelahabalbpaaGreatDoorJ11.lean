/-
  append onto a row of our own: what the old row is behind it.
-/
/-
  IDs, Attrs and resources as bytes: what the program's functions that write them answer.
-/
/-
  IDs and Attrs out of bytes: what the program's functions that read them answer.
-/
/-
  Steps in memory.
-/
/-
  Tokens: words, numbers, strings.
-/
/-
  Tokens: strings, and the token that begins at a place.
-/
/-
  Tokens: the token that begins at a place; a text is cut.
-/
import Derived.Test.YtfoelahabalbpaaGreatDoorJ7
import Derived.Deep.AppendLies
import Derived.Test.YtfoelahabalbpaaGreatDoorJ6
import Derived.Deep.RegionHeld3
import Derived.Test.YtfoelahabalbpaaGreatDoorJ3
import Derived.Test.YtfoelahabalbpaaGreatDoorJ1
import Derived.Test.YtfoelahabalbpaaGreatDoorShelf
import Derived.Deep.DeepMust
namespace Go.Proofs.YtfoelahabalbpaaGreatDoor
open Go.RowKit

/-- The new slice lies in the old row, or in a new one, and then the old row is as it was. -/
theorem append_tight {P : Program} (w : World) (t ty : TypeId) (base : Nat) (e : TypeId) (i : TypeInfo) (z : Value) (size bytes : Nat) (ht : P.underlying t = some (.slice e)) (hi : P.info? e = some i) (hz : i.zero = some z)
    (hsize : i.size = size) (hby : i.bytes = bytes) (hzs : z.cells.size = size) (hsz : 0 < size)
    (v : Value) (n : Nat) (xs : List Value) (hown : w.ownsRow base e size v n xs)
    (ad : Addr) (m c : Nat) (news : List Value) (hl : news.length = m * size) (hnews : ∀ j u, news[j]? = some u → w.cell? (ad.add j) = some u) (h1 : ∀ u ∈ news, u.oneCell' = true)
    (hm : 0 < m) (h63 : n + m ≤ maxLen) (hbytes : (n + m) * bytes ≤ 140737488355328) (hbase : base ≤ w.heap.size) :
    ∃ g cap w', (Builtin.append_ #[t, t] ty #[v, .slice (some ad) m c]).run P w = .ok (.slice (some ⟨g, 0, none⟩) (n + m) cap) w' ∧
      w'.ownsRow base e size (.slice (some ⟨g, 0, none⟩) (n + m) cap) (n + m) (xs ++ news) ∧ w.grownBy w' v.ownBlock ∧ (v.ownBlock = some g ∨ (w.heap.size ≤ g ∧ ∀ k, k < w.heap.size → w'.heap[k]? = w.heap[k]?)) := by
  obtain ⟨g, cap, w', hr, h2, h3, h4, h5⟩ := run_append_lies (P := P) w t ty base e i z size bytes ht hi hz hsize hby hzs hsz v n xs hown ad m c news hl hnews h1 hm h63 hbytes hbase w.heap.size rfl
  refine ⟨g, cap, w', hr, h2, h3, ?_⟩
  subst hsize
  subst hby
  rcases hown.2 with ⟨rfl, rfl⟩ | ⟨g0, cap0, cur, rfl, hbg, hg, hnc, hcm, hcs, htake⟩
  · rcases h4 with h4 | h4
    · simp [Value.ownBlock] at h4
    · exact .inr ⟨by omega, fun k hk => h3.block k hk (by simp [Value.ownBlock])⟩
  · by_cases hroom : n + m ≤ cap0
    · have hfit : n * i.size + news.length ≤ cur.size := by rw [hl, hcs, ← Nat.add_mul]; exact Nat.mul_le_mul_right _ hroom
      have hr2 := run_append_room (P := P) w t ty e i ht hi g0 n cap0 cur hg ad m c news hl hnews h1 hroom hfit
      rw [hr2] at hr
      left
      injection hr with e1 _
      injection e1 with e2
      simp at e2
      simp [Value.ownBlock, e2]
    · have holds : ∀ j u, xs[j]? = some u → w.cell? ((⟨g0, 0, none⟩ : Addr).add j) = some u := hown.cells (g := g0) rfl
      have hr2 := run_append_grow (P := P) w t ty e i z ht hi hz ⟨g0, 0, none⟩ n cap0 xs hown.1 holds ad m c news hl hnews (by omega) (by unfold maxLen at h63; omega) (growslice_fits (by omega) hbytes)
      rw [hr2] at hr
      right
      injection hr with e1 e3
      injection e1 with e2
      simp at e2
      refine ⟨by omega, fun k hk => ?_⟩
      rw [← e3]
      exact Below.heap_alloc w.drew _ k hk
end Go.Proofs.YtfoelahabalbpaaGreatDoor

namespace Go.Proofs.YtfoelahabalbpaaGreatDoor
open Go.RowKit

/-- Its texts are short. -/
def shI (x : IDd) : Prop := x.kind.size ≤ 255 ∧ x.name.size ≤ 255
def shA (x : Attrd) : Prop := x.name.size ≤ 255 ∧ x.text.size ≤ 255
theorem at_c0 {w : World} {k : Nat} {a b c d : Value} {t : TypeId} {fz : Nat × Nat} (hk : w.heap[k]? = some (.cells #[a, b, c, d] t fz)) : w.cell? ⟨k, 0, none⟩ = some a := by simp [World.cell?, hk]
theorem at_c1 {w : World} {k : Nat} {a b c d : Value} {t : TypeId} {fz : Nat × Nat} (hk : w.heap[k]? = some (.cells #[a, b, c, d] t fz)) : w.cell? ⟨k, 1, none⟩ = some b := by simp [World.cell?, hk]
theorem at_c2 {w : World} {k : Nat} {a b c d : Value} {t : TypeId} {fz : Nat × Nat} (hk : w.heap[k]? = some (.cells #[a, b, c, d] t fz)) : w.cell? ⟨k, 2, none⟩ = some c := by simp [World.cell?, hk]
theorem at_c3 {w : World} {k : Nat} {a b c d : Value} {t : TypeId} {fz : Nat × Nat} (hk : w.heap[k]? = some (.cells #[a, b, c, d] t fz)) : w.cell? ⟨k, 3, none⟩ = some d := by simp [World.cell?, hk]
end Go.Proofs.YtfoelahabalbpaaGreatDoor

namespace Go.Proofs.YtfoelahabalbpaaGreatDoor
open Go.RowKit

theorem Wrote.setNew {B : Nat} {T : TypeId → Prop} {w w1 : World} (h : Wrote B T w w1) {p : Addr} (hp : w.heap.size ≤ p.block) (u : Value) : Wrote B T w (w1.setCell p u) := by
  refine ⟨h.os, h.tape, h.output, by have := h.size; simp [World.setCell]; exact this, fun k hk hd => ?_⟩
  rw [← h.heap k hk hd]
  simp only [World.setCell, Array.getElem?_modify]
  rw [if_neg (by omega)]
theorem row_frozen {w : World} {b : Nat} {cs : Array Value} {t : TypeId} (h : w.heap[b]? = some (.cells cs t (0, 0))) (j : Nat) : w.frozen? ⟨b, j, none⟩ = false := by simp [World.frozen?, h]
theorem row_set {w : World} {b : Nat} {cs : Array Value} {t : TypeId} {fz : Nat × Nat} (h : w.heap[b]? = some (.cells cs t fz)) (j : Nat) (v : Value) : (w.setCell ⟨b, j, none⟩ v).heap[b]? = some (.cells (cs.setIfInBounds j v) t fz) := by
  simp [World.setCell, Array.getElem?_modify, h]
theorem World.setCell_other_row {w : World} {b c : Nat} {o : Obj} (h : w.heap[b]? = some o) (hne : c ≠ b) (j : Nat) (v : Value) : (w.setCell ⟨c, j, none⟩ v).heap[b]? = some o := by
  simp only [World.setCell, Array.getElem?_modify]
  rw [if_neg hne]; exact h
theorem two_hi (w : World) (o o' : Obj) : ((w.alloc o).alloc o').heap[w.heap.size + 1]? = some o' := by
  have := heap_alloc_new (w.alloc o) o'; simpa using this
theorem four_cells {w : World} {k : Nat} {a b c d : Value} {t : TypeId} {fz : Nat × Nat} (hk : w.heap[k]? = some (.cells #[a, b, c, d] t fz)) :
    w.cell? ⟨k, 0, none⟩ = some a ∧ w.cell? ⟨k, 1, none⟩ = some b ∧ w.cell? ⟨k, 2, none⟩ = some c ∧ w.cell? ⟨k, 3, none⟩ = some d := ⟨at_c0 hk, at_c1 hk, at_c2 hk, at_c3 hk⟩
/-- Four cells of a row are stored. -/
theorem Wrote.set4 {B : Nat} {T : TypeId → Prop} {w w1 : World} (h : Wrote B T w w1) {O : Nat} (hO : w.heap.size ≤ O) (v0 v1 v2 v3 : Value) :
    Wrote B T w ((((w1.setCell ⟨O, 0, none⟩ v0).setCell ⟨O, 1, none⟩ v1).setCell ⟨O, 2, none⟩ v2).setCell ⟨O, 3, none⟩ v3) :=
  (((h.setNew (p := ⟨O, 0, none⟩) hO v0).setNew (p := ⟨O, 1, none⟩) hO v1).setNew (p := ⟨O, 2, none⟩) hO v2).setNew (p := ⟨O, 3, none⟩) hO v3
end Go.Proofs.YtfoelahabalbpaaGreatDoor

namespace Go.Proofs.YtfoelahabalbpaaGreatDoor
open Go.RowKit

/-- A step in memory: what is done; a resource, and where its lists are. -/
structure StepP where
  op : Nat
  x : Resd
  c2 : Value
  c3 : Value
theorem infoStep : (Tryz.prog.info? 38).map (fun i => (i.zero, i.size, i.bytes)) = some (some (.agg #[.int .i64 0, .string ⟨#[]⟩, .string ⟨#[]⟩, .slice none 0 0, .slice none 0 0]), 5, 88) := by kernel_rfl
/-- Steps lie in a block, from a place on. -/
def StepsIn (w : World) (b off : Nat) (l : List StepD) : Prop :=
  ∀ (i : Nat) s, l[i]? = some s → w.cell? ⟨b, off + i * 5, none⟩ = some (.int .i64 s.op) ∧ w.cell? ⟨b, off + i * 5 + 1, none⟩ = some (.string s.x.id.kind) ∧ w.cell? ⟨b, off + i * 5 + 2, none⟩ = some (.string s.x.id.name) ∧
    ∃ c2 c3, w.cell? ⟨b, off + i * 5 + 3, none⟩ = some c2 ∧ w.cell? ⟨b, off + i * 5 + 4, none⟩ = some c3 ∧ ResV w c2 c3 s.x
/-- A slice leads to a list of steps. -/
structure StepsV (w : World) (v : Value) (l : List StepD) : Prop where
  shape : ∃ a cap, v = .slice a l.length cap ∧ l.length ≤ cap ∧ cap ≤ 9223372036854775807 ∧ (l = [] ∨ ∃ b off, a = some ⟨b, off, none⟩ ∧ StepsIn w b off l)
  few : l.length ≤ 2000000
theorem StepsIn.ext {w w' : World} {b off : Nat} {l : List StepD} (h : StepsIn w b off l) (e : Ext w w') : StepsIn w' b off l := by
  intro i s hs
  obtain ⟨h0, h1, h2, c2, c3, h3, h4, h5⟩ := h i s hs
  exact ⟨e.cells h0, e.cells h1, e.cells h2, c2, c3, e.cells h3, e.cells h4, h5.ext e⟩
theorem StepsV.ext {w w' : World} {v : Value} {l : List StepD} (h : StepsV w v l) (e : Ext w w') : StepsV w' v l := by
  obtain ⟨⟨a, cap, hv, hc, hm, hs⟩, h2⟩ := h
  refine ⟨⟨a, cap, hv, hc, hm, ?_⟩, h2⟩
  rcases hs with hs | ⟨b, off, ha, hi⟩
  · exact .inl hs
  · exact .inr ⟨b, off, ha, hi.ext e⟩
end Go.Proofs.YtfoelahabalbpaaGreatDoor

namespace Go.Proofs.YtfoelahabalbpaaGreatDoor
open Go.RowKit

/-- What the reading of a token answers: its place is still 0. -/
def TkIs (w : World) (r : (Tok × Nat) ⊕ Int) (e : Ending) (w' : World) : Prop :=
  Hid (Ext w w') ∧ ((∃ t b, Hid (r = .inl (t, b)) ∧ e = .returned (.tuple #[.agg #[.int .i64 t.kind, .int .i64 0, .string t.text, .int .i64 t.value], .int .i64 b, .int .i64 0])) ∨
    ∃ en : Int, Hid (r = .inr en) ∧ en ≠ 0 ∧ e = .returned (.tuple #[.agg #[.int .i64 0, .int .i64 0, .string ⟨#[]⟩, .int .i64 0], .int .i64 0, .int .i64 en]))
theorem Ext.set4 {w w1 : World} (h : Ext w w1) (v0 v1 v2 v3 : Value) : Ext w ((((w1.setCell ⟨w.heap.size, 0, none⟩ v0).setCell ⟨w.heap.size, 1, none⟩ v1).setCell ⟨w.heap.size, 2, none⟩ v2).setCell ⟨w.heap.size, 3, none⟩ v3) :=
  (((h.setCell (p := ⟨w.heap.size, 0, none⟩) (Nat.le_refl _) _).setCell (p := ⟨w.heap.size, 1, none⟩) (Nat.le_refl _) _).setCell (p := ⟨w.heap.size, 2, none⟩) (Nat.le_refl _) _).setCell (p := ⟨w.heap.size, 3, none⟩) (Nat.le_refl _) _
theorem ex_size (s : ByteArray) {a b : Nat} (h : a ≤ b) (hb : b ≤ s.size) : (s.extract a b).size = b - a := by
  simp [ByteArray.size_extract]; omega
theorem ex_midT (s : ByteArray) (a b : Nat) (h : a ≤ b) : (s.extract a b).data.toList = (s.data.toList.drop a).take (b - a) := by
  rw [ByteArray.data_extract]; simp [List.take_drop, Nat.add_sub_cancel' h]

set_option maxRecDepth 100000 in
set_option maxHeartbeats 800000 in
theorem cloneP (s : ByteArray) (w : World) (hs : s.size ≤ 1000000) :
    Calls Tryz.prog 151 #[.string s] w fun e w' => e = .returned (.string s) ∧ Ext w w' := by
  have hc := hide (Tryz.stringslite_Clone s w (by omega))
  go_enter Tryz.func151, Tryz.ntmps151
  go_wp2_with fail
  refine hc.out.mono ?_
  rintro e w1 ⟨rfl, he⟩
  replace he := hide he
  go_wp2
  go_ret
  exact ⟨rfl, he.out⟩

set_option maxRecDepth 100000 in
set_option maxHeartbeats 1600000 in
theorem readWord (s : ByteArray) (a : Nat) (c : UInt8) (w : World) (hs : s.size ≤ 1000000) (ha : a < s.size) (hl : isLetterB c.toNat = true) :
    Calls Tryz.prog 116 #[.string s, .int .i64 a] w (TkIs w (tokL s.data.toList a c)) := by
  have hlen : s.data.toList.length = s.size := Array.length_toList
  have hbl := behind_le (p := fun b => isInnerB b.toNat) (l := s.data.toList) (a := a) (by omega)
  have hT : Hid (tokL s.data.toList a c = if behindL (fun b => isInnerB b.toNat) s.data.toList a - a ≤ 12 then .inl (⟨1, a, baOf ((s.data.toList.drop a).take (behindL (fun b => isInnerB b.toNat) s.data.toList a - a)), 0⟩, behindL (fun b => isInnerB b.toNat) s.data.toList a) else .inr 5) := by show _ = _; unfold tokL; rw [if_pos hl]
  have hcall := hide (behindWord s a (w.alloc (.cells #[.int .i64 0, .int .i64 0, .string ⟨#[]⟩, .int .i64 0] 114)) hs (by omega))
  rw [hlen] at hbl
  generalize behindL (fun b => isInnerB b.toNat) s.data.toList a = m at *
  obtain ⟨m1, m2⟩ := hbl
  replace hlen := hide hlen
  go_enter Tryz.func116, Tryz.ntmps116
  go_wp2_with fail
  refine hcall.out.mono ?_
  rintro e w' ⟨rfl, rfl⟩
  by_cases h12 : m - a ≤ 12
  · have h12' : ¬ (12 : Int) < (m : Int) - (a : Int) := by omega
    have hx : Hid ((s.extract a m) = baOf ((s.data.toList.drop a).take (m - a))) := by
      show _ = _
      apply ByteArray.ext; apply Array.toList_inj.1
      rw [ex_midT s a m m1]; rfl
    have hz : (s.extract a m).size ≤ 1000000 := by rw [ex_size s m1 m2]; omega
    have hcl := hide (cloneP (s.extract a m) (w.alloc (.cells #[.int .i64 0, .int .i64 0, .string ⟨#[]⟩, .int .i64 0] 114)) hz)
    have hT2 : Hid (tokL s.data.toList a c = .inl (⟨1, a, s.extract a m, 0⟩, m)) := by show _ = _; rw [hT.out, if_pos h12, hx.out]
    have j1 : (a : Int) ≤ (m : Int) := by omega
    have j2 : (m : Int) ≤ (s.size : Int) := by omega
    have j3 : (0 : Int) ≤ (a : Int) := by omega
    go_wp2_with fail
    refine hcl.out.mono ?_
    rintro e w1 ⟨rfl, he1⟩
    have hO := ext_heap he1 (heap_alloc_new w _)
    obtain ⟨o0, o1, o2, o3⟩ := four_cells hO
    have fO := row_frozen hO
    replace hO := hide hO
    have X1 := hide (((Ext.refl w).alloc _).trans he1)
    replace he1 := hide he1
    go_wp2_with fail
    refine bodyPost_ret (v := .tuple #[.agg #[.int .i64 1, .int .i64 0, .string (s.extract a m), .int .i64 0], .int .i64 m, .int .i64 0]) (by simp [results, Tryz.results116, go_sem, o0, o1, o2, o3]) rfl ?_
    exact ⟨X1.out.set4 _ _ _ _, .inl ⟨_, _, hT2, rfl⟩⟩
  · have h12' : (12 : Int) < (m : Int) - (a : Int) := by omega
    have hT2 : Hid (tokL s.data.toList a c = .inr 5) := by show _ = _; rw [hT.out, if_neg h12]
    go_wp2_with fail
    refine bodyPost_ret (v := .tuple #[.agg #[.int .i64 0, .int .i64 0, .string ⟨#[]⟩, .int .i64 0], .int .i64 0, .int .i64 5]) (by simp [results, Tryz.results116, go_sem]) rfl ?_
    exact ⟨(Ext.refl w).alloc _, .inr ⟨5, hT2, by decide, rfl⟩⟩

theorem take_while (p : UInt8 → Bool) (l : List UInt8) : l.take (l.takeWhile p).length = l.takeWhile p := by
  have := List.takeWhile_append_dropWhile (p := p) (l := l)
  conv => lhs; rw [← this]
  exact List.take_left' (by rw [this])
theorem while_all (p : UInt8 → Bool) : ∀ (l : List UInt8), ∀ c ∈ l.takeWhile p, p c = true := fun l c h => by
  have := List.all_takeWhile (p := p) (l := l)
  exact List.all_eq_true.1 this c h

set_option maxRecDepth 100000 in
set_option maxHeartbeats 1600000 in
theorem readNumber (s : ByteArray) (a : Nat) (c : UInt8) (w : World) (hs : s.size ≤ 1000000) (ha : a < s.size) (hc : s.data.toList[a]? = some c) (hl : isLetterB c.toNat = false) (hd : (isDigitB c.toNat || c == 45) = true) :
    Calls Tryz.prog 118 #[.string s, .int .i64 a] w (TkIs w (tokL s.data.toList a c)) := by
  have hlen : s.data.toList.length = s.size := Array.length_toList
  obtain ⟨c', hc1, hc2⟩ := byteAt ha
  obtain rfl : c = c' := by rw [hc] at hc1; simpa using hc1
  have b45 : ((c.toNat : Int) == 45) = decide (c = 45) := by
    by_cases h : c = 45
    · subst h; rfl
    · rw [show (45 : Int) = ((45 : UInt8).toNat : Int) from rfl, byte_ne h]; simp [h]
  have key : ∀ (f : Nat) (sg : Int), (if c = 45 then a + 1 else a) = f → (if c = 45 then (-1 : Int) else 1) = sg → f ≤ s.size →
      Hid (tokL s.data.toList a c = if digitsOk ((s.data.toList.drop f).takeWhile fun b => isDigitB b.toNat) then .inl (⟨2, a, ⟨#[]⟩, sg * (valN ((s.data.toList.drop f).takeWhile fun b => isDigitB b.toNat) : Int)⟩, behindL (fun b => isDigitB b.toNat) s.data.toList f) else .inr 4) := by
    intro f sg h1 h2 _
    show _ = _
    unfold tokL
    rw [hl, if_neg (by decide), if_pos hd, h1, h2]
  obtain ⟨f, sg, hf, hsg, hfs, hfa, hs1⟩ : ∃ (f : Nat) (sg : Int), (if c = 45 then a + 1 else a) = f ∧ (if c = 45 then (-1 : Int) else 1) = sg ∧ f ≤ s.size ∧ (c = 45 ∧ f = a + 1 ∧ sg = -1 ∨ c ≠ 45 ∧ f = a ∧ sg = 1) ∧ (sg = -1 ∨ sg = 1) := by
    by_cases h : c = 45
    · exact ⟨a + 1, -1, if_pos h, if_pos h, by omega, .inl ⟨h, rfl, rfl⟩, .inl rfl⟩
    · exact ⟨a, 1, if_neg h, if_neg h, by omega, .inr ⟨h, rfl, rfl⟩, .inr rfl⟩
  have hT := key f sg hf hsg hfs
  clear key hf hsg
  have hbl := behind_le (p := fun b => isDigitB b.toNat) (l := s.data.toList) (a := f) (by omega)
  have hcall := hide (behindDigits s f (w.alloc (.cells #[.int .i64 0, .int .i64 0, .string ⟨#[]⟩, .int .i64 0] 114)) hs hfs)
  have hdig : Hid ((s.extract f (behindL (fun b => isDigitB b.toNat) s.data.toList f)).data.toList = (s.data.toList.drop f).takeWhile fun b => isDigitB b.toNat) := by
    show _ = _
    rw [ex_midT s f _ hbl.1]
    unfold behindL
    rw [Nat.add_sub_cancel_left]
    exact take_while _ _
  have hall := hide (while_all (fun b => isDigitB b.toNat) (s.data.toList.drop f))
  rw [← hdig.out] at hT hall
  rw [hlen] at hbl
  generalize behindL (fun b => isDigitB b.toNat) s.data.toList f = m at *
  obtain ⟨m1, m2⟩ := hbl
  have hz : (s.extract f m).size ≤ 1000000 := by rw [ex_size s m1 m2]; omega
  have hval := hide (valueOf (s.extract f m) (w.alloc (.cells #[.int .i64 0, .int .i64 0, .string ⟨#[]⟩, .int .i64 0] 114)) hz hall.out)
  have hdo : digitsOk (s.extract f m).data.toList = true → valN (s.extract f m).data.toList ≤ 1000000000 := by
    intro h; unfold digitsOk at h; rw [Bool.and_eq_true] at h; exact of_decide_eq_true h.2
  have hvo : valOf (s.extract f m).data.toList = if digitsOk (s.extract f m).data.toList then (valN (s.extract f m).data.toList : Int) else 0 := rfl
  generalize valOf (s.extract f m).data.toList = vv at *
  generalize hvn : valN (s.extract f m).data.toList = vn at *
  generalize hdk : digitsOk (s.extract f m).data.toList = dk at *
  replace hlen := hide hlen; replace hdig := hide hdig; replace hvn := hide hvn; replace hdk := hide hdk
  replace hc := hide hc; replace hc1 := hide hc1; replace hl := hide hl; replace hd := hide hd
  have j1 : (f : Int) ≤ (m : Int) := by omega
  have j2 : (m : Int) ≤ (s.size : Int) := by omega
  have j3 : (0 : Int) ≤ (f : Int) := by omega
  have ka : (a : Int) < (s.size : Int) := by omega
  have fin : ∀ w1 : World, Ext (w.alloc (.cells #[.int .i64 0, .int .i64 0, .string ⟨#[]⟩, .int .i64 0] 114)) w1 → ∀ dk', dk' = dk → dk' = true → TkIs w (tokL s.data.toList a c) (.returned (.tuple #[.agg #[.int .i64 2, .int .i64 0, .string ⟨#[]⟩, .int .i64 (sg * (vn : Int))], .int .i64 m, .int .i64 0])) ((((w1.setCell ⟨w.heap.size, 0, none⟩ (.int .i64 2)).setCell ⟨w.heap.size, 1, none⟩ (.int .i64 0)).setCell ⟨w.heap.size, 2, none⟩ (.string ⟨#[]⟩)).setCell ⟨w.heap.size, 3, none⟩ (.int .i64 (sg * (vn : Int)))) := by
    intro w1 he1 dk' e1 e2
    refine ⟨(((Ext.refl w).alloc _).trans he1).set4 _ _ _ _, .inl ⟨⟨2, a, ⟨#[]⟩, sg * (vn : Int)⟩, m, ?_, rfl⟩⟩
    show _ = _
    rw [hT.out, ← e1, e2]; rfl
  replace fin := hide fin
  rcases hfa with ⟨h45, rfl, rfl⟩ | ⟨h45, rfl, rfl⟩
  · rw [decide_eq_true h45] at b45
    replace h45 := hide h45
    go_enter Tryz.func118, Tryz.ntmps118
    go_wp2_with fail
    refine hcall.out.mono ?_
    rintro e w' ⟨rfl, rfl⟩
    go_wp2_with fail
    refine hval.out.mono ?_
    rintro e w1 ⟨rfl, he1⟩
    have hO := ext_heap he1 (heap_alloc_new w _)
    obtain ⟨o0, o1, o2, o3⟩ := four_cells hO
    have fO := row_frozen hO
    replace hO := hide hO
    have X1 := hide (((Ext.refl w).alloc _).trans he1)
    replace he1 := hide he1
    cases dk
    · have hT2 : Hid (tokL s.data.toList a c = .inr 4) := by show _ = _; rw [hT.out]; rfl
      go_wp2_with fail
      refine bodyPost_ret (v := .tuple #[.agg #[.int .i64 0, .int .i64 0, .string ⟨#[]⟩, .int .i64 0], .int .i64 0, .int .i64 4]) (by simp [results, Tryz.results118, go_sem, o0, o1, o2, o3]) rfl ?_
      exact ⟨X1.out.set4 _ _ _ _, .inr ⟨4, hT2, by decide, rfl⟩⟩
    · have hvb := hdo rfl
      obtain rfl : vv = (vn : Int) := hvo
      go_wp2_with fail
      refine bodyPost_ret (v := .tuple #[.agg #[.int .i64 2, .int .i64 0, .string ⟨#[]⟩, .int .i64 (-1 * (vn : Int))], .int .i64 m, .int .i64 0]) (by simp [results, Tryz.results118, go_sem, o0, o1, o2, o3]) rfl ?_
      have := fin.out w1 he1.out true rfl rfl
      simpa using this
  · rw [decide_eq_false h45] at b45
    replace h45 := hide h45
    go_enter Tryz.func118, Tryz.ntmps118
    go_wp2_with fail
    refine hcall.out.mono ?_
    rintro e w' ⟨rfl, rfl⟩
    go_wp2_with fail
    refine hval.out.mono ?_
    rintro e w1 ⟨rfl, he1⟩
    have hO := ext_heap he1 (heap_alloc_new w _)
    obtain ⟨o0, o1, o2, o3⟩ := four_cells hO
    have fO := row_frozen hO
    replace hO := hide hO
    have X1 := hide (((Ext.refl w).alloc _).trans he1)
    replace he1 := hide he1
    cases dk
    · have hT2 : Hid (tokL s.data.toList f c = .inr 4) := by show _ = _; rw [hT.out]; rfl
      go_wp2_with fail
      refine bodyPost_ret (v := .tuple #[.agg #[.int .i64 0, .int .i64 0, .string ⟨#[]⟩, .int .i64 0], .int .i64 0, .int .i64 4]) (by simp [results, Tryz.results118, go_sem, o0, o1, o2, o3]) rfl ?_
      exact ⟨X1.out.set4 _ _ _ _, .inr ⟨4, hT2, by decide, rfl⟩⟩
    · have hvb := hdo rfl
      obtain rfl : vv = (vn : Int) := hvo
      go_wp2_with fail
      refine bodyPost_ret (v := .tuple #[.agg #[.int .i64 2, .int .i64 0, .string ⟨#[]⟩, .int .i64 (1 * (vn : Int))], .int .i64 m, .int .i64 0]) (by simp [results, Tryz.results118, go_sem, o0, o1, o2, o3]) rfl ?_
      have := fin.out w1 he1.out true rfl rfl
      simpa using this
end Go.Proofs.YtfoelahabalbpaaGreatDoor

namespace Go.Proofs.YtfoelahabalbpaaGreatDoor
open Go.RowKit

theorem drop_extract (s : ByteArray) (k : Nat) : (s.extract k s.size).data.toList = s.data.toList.drop k := by
  rw [ByteArray.data_extract]; simp
  rw [List.take_of_length_le]
  rw [List.length_drop]
  have : s.data.toList.length = s.size := Array.length_toList
  simp at this ⊢

theorem conv_own {w : World} {B n cap : Nat} {pa : Option Addr} {l : List UInt8} (h : w.ownsRow B 5 1 (.slice pa n cap) l.length (cellsB l)) :
    (convert 50 9 (.slice pa n cap)).run Tryz.prog w = .ok (.string ⟨l.toArray⟩) w := by
  rcases h.2 with ⟨h1, h2⟩ | ⟨g, c, cur, h1, _⟩
  · cases h1
    obtain rfl : l = [] := List.eq_nil_of_length_eq_zero h2
    simp [convert, run_underlying Tryz.underlying50, run_underlying Tryz.underlying9, run_underlying Tryz.underlying5, Conv.bytesToString, Result.andThen]
    rfl
  · cases h1
    exact own_conv rfl h

set_option maxRecDepth 100000 in
set_option maxHeartbeats 3200000 in
theorem readString (s : ByteArray) (a : Nat) (c : UInt8) (w : World) (hs : s.size ≤ 1000000) (ha : a < s.size) (h34 : c = 34) :
    Calls Tryz.prog 119 #[.string s, .int .i64 a] w (TkIs w (tokL s.data.toList a c)) := by
  have hlen : s.data.toList.length = s.size := Array.length_toList
  obtain ⟨i0, hi, hz0, hz1, hz2⟩ := info_of infoByte
  have hT : Hid (tokL s.data.toList a c = match strL s.data.toList (a + 1) with
    | none => .inr 3
    | some (m, e) => if m.length ≤ 20 then .inl (⟨3, a, baOf m, 0⟩, e + 1) else .inr 3) := by
    show _ = _; subst h34; rfl
  replace hi := hide hi; replace hlen := hide hlen; replace h34 := hide h34
  go_enter Tryz.func119, Tryz.ntmps119
  go_wp2_with fail
  go_loopw [1, 7] (fun at_ v wr => ∃ (k : Nat) (acc : List UInt8) (pa : Option Addr) (cap : Nat), k ≤ s.size ∧ acc.length + a + 1 ≤ k ∧ at_ = .int .i64 k ∧ v = .slice pa acc.length cap ∧ Hid (strL s.data.toList (a + 1) = (strL s.data.toList k).map fun r => (acc ++ r.1, r.2)) ∧ Hid (wr.ownsRow (w.alloc (.cells #[.int .i64 0, .int .i64 0, .string ⟨#[]⟩, .int .i64 0] 114)).heap.size 5 1 (.slice pa acc.length cap) acc.length (cellsB acc)) ∧ Hid (Ext (w.alloc (.cells #[.int .i64 0, .int .i64 0, .string ⟨#[]⟩, .int .i64 0] 114)) wr)) (fun at_ _ _ => s.size - (intOf at_).toNat)
  case atStart =>
    refine ⟨a + 1, [], none, 0, by omega, by simp, by go_num, rfl, ?_, World.ownsRow_nil _ _ _ _, Ext.refl _⟩
    show _ = _
    cases strL s.data.toList (a + 1) <;> simp
  case round =>
    obtain ⟨k, acc, pa, cap, hk, hka, rfl, rfl, hst, hown, hx⟩ := hrel
    have hO := ext_heap hx.out (heap_alloc_new w _)
    obtain ⟨o0, o1, o2, o3⟩ := four_cells hO
    have fO := row_frozen hO
    replace hO := hide hO
    have X0 := hide (((Ext.refl w).alloc _).trans hx.out)
    by_cases hlt : k < s.size
    · obtain ⟨d, hd1, hd2⟩ := byteAt hlt
      have b34 : ((d.toNat : Int) == 34) = decide (d = 34) := by
        by_cases h : d = 34
        · subst h; rfl
        · rw [show (34 : Int) = ((34 : UInt8).toNat : Int) from rfl, byte_ne h]; simp [h]
      have hstep := hide (str_step hd1)
      by_cases hq : d = 34
      · rw [decide_eq_true hq] at b34
        have b34' : ((d.toNat : Int) != 34) = false := by simp only [bne, b34]; rfl
        have hne : ¬ (k : Int) = (s.size : Int) := by omega
        have hres : Hid (strL s.data.toList (a + 1) = some (acc, k)) := by show _ = _; rw [hst.out, hstep.out, if_pos hq]; simp
        replace hd1 := hide hd1; replace hq := hide hq
        by_cases h20 : acc.length ≤ 20
        · have h20' : ¬ (20 : Int) < (acc.length : Int) := by omega
          have hT2 : Hid (tokL s.data.toList a c = .inl (⟨3, a, baOf acc, 0⟩, k + 1)) := by show _ = _; rw [hT.out, hres.out]; simp [h20]
          have hcv : (convert 50 9 (.slice pa acc.length cap)).run Tryz.prog wr = .ok (.string ⟨acc.toArray⟩) wr := conv_own hown.out
          clear o0 o1 o2 o3
          obtain ⟨o0, o1, o2, o3⟩ := four_cells hO.out
          go_wp2_with fail
          refine bodyPost_ret (v := .tuple #[.agg #[.int .i64 3, .int .i64 0, .string ⟨acc.toArray⟩, .int .i64 0], .int .i64 ((k + 1 : Nat) : Int), .int .i64 0]) (by simp [results, Tryz.results119, go_sem, o0, o1, o2, o3]) rfl ?_
          exact ⟨X0.out.set4 _ _ _ _, .inl ⟨_, _, hT2, rfl⟩⟩
        · have h20' : (20 : Int) < (acc.length : Int) := by omega
          have hT2 : Hid (tokL s.data.toList a c = .inr 3) := by show _ = _; rw [hT.out, hres.out]; simp [h20]
          go_wp2_with fail
          refine bodyPost_ret (v := .tuple #[.agg #[.int .i64 0, .int .i64 0, .string ⟨#[]⟩, .int .i64 0], .int .i64 0, .int .i64 3]) (by simp [results, Tryz.results119, go_sem, o0, o1, o2, o3]) rfl ?_
          exact ⟨X0.out.set4 _ _ _ _, .inr ⟨3, hT2, by decide, rfl⟩⟩
      · rw [decide_eq_false hq] at b34
        have b34' : ((d.toNat : Int) != 34) = true := by simp only [bne, b34]; rfl
        have hxs : Hid ((s.extract k s.size).data.toList = s.data.toList.drop k) := drop_extract s k
        have hxz : (s.extract k s.size).size = s.size - k := ex_size s (by omega) (Nat.le_refl _)
        have hsign := hide (readSign (s.extract k s.size) wr (by omega) (by omega))
        rw [hxs.out] at hsign
        have hused := sign_used (s.data.toList.drop k)
        rw [List.length_drop, hlen.out] at hused
        generalize hsg : signL (s.data.toList.drop k) = sg at *
        obtain ⟨sb, su⟩ := sg
        dsimp only at *
        have j1 : (k : Int) ≤ (s.size : Int) := by omega
        have j3 : (0 : Int) ≤ (k : Int) := by omega
        replace hd1 := hide hd1; replace hxz := hide hxz; replace hsg := hide hsg
        go_wp2_with fail
        refine hsign.out.mono ?_
        rintro e w' ⟨rfl, rfl⟩
        by_cases hu : su = 0
        · have hres : Hid (strL s.data.toList (a + 1) = none) := by show _ = _; rw [hst.out, hstep.out, if_neg hq]; simp [hu]
          have hT2 : Hid (tokL s.data.toList a c = .inr 3) := by show _ = _; rw [hT.out, hres.out]
          subst hu
          replace hq := hide hq
          go_wp2_with fail
          refine bodyPost_ret (v := .tuple #[.agg #[.int .i64 0, .int .i64 0, .string ⟨#[]⟩, .int .i64 0], .int .i64 0, .int .i64 3]) (by simp [results, Tryz.results119, go_sem, o0, o1, o2, o3]) rfl ?_
          exact ⟨X0.out.set4 _ _ _ _, .inr ⟨3, hT2, by decide, rfl⟩⟩
        · have hu' : ((su : Int) == 0) = false := by simp; omega
          have hres : Hid (strL s.data.toList (a + 1) = (strL s.data.toList (k + su)).map fun r => ((acc ++ [sb]) ++ r.1, r.2)) := by
            show _ = _
            rw [hst.out, hstep.out, if_neg hq, if_neg hu]
            cases strL s.data.toList (k + su) with
            | none => rfl
            | some r => simp
          have hsz := hide (Ext.size hx.out)
          replace hq := hide hq; replace hu := hide hu; replace hstep := hide hstep
          go_wp2_with (at_builtin; go_must (refine wpList_append_lies _ rfl _ _ 50 rfl (w.alloc (.cells #[.int .i64 0, .int .i64 0, .string ⟨#[]⟩, .int .i64 0] 114)).heap.size 5 i0 (.int .u8 0) 1 1 Tryz.underlying50 hi.out hz0 hz1 hz2 rfl (by omega) _ acc.length (cellsB acc) rfl (hown.out.alloc _) ⟨w'.heap.size, 0, none⟩ 1 1 (cellsB [sb]) rfl rfl ?_ (one_cellB _) (by omega) (by unfold maxLen; omega) (by omega) (by have := hsz.out; simp at this ⊢; omega) (w'.heap.size + 1) (by simp) ?_; (intro j u hu; rw [add_eq]; (match j, hu with | 0, hu => (simp [cellsB] at hu; subst hu; simp [go_sem]) | _ + 1, hu => (simp [cellsB] at hu))); intro g1 cap1 w1 hown1 hgrow1 hat1 hlt1))
          replace hgrow1 : (w'.alloc (.cells (cellsB [sb]).toArray 5)).grownBy w1 (Value.slice pa acc.length cap).ownBlock := hgrow1
          have hl : (acc ++ [sb]).length = acc.length + 1 := by simp
          have hx1 : Ext (w.alloc (.cells #[.int .i64 0, .int .i64 0, .string ⟨#[]⟩, .int .i64 0] 114)) w1 := ((Wrote.ext (B := (w.alloc (.cells #[.int .i64 0, .int .i64 0, .string ⟨#[]⟩, .int .i64 0] 114)).heap.size) (T := (· = 5)) hx.out).grownAt hown.out rfl hgrow1).toExt
          go_roundw
          case rel =>
            refine ⟨k + su, acc ++ [sb], some ⟨g1, 0, none⟩, cap1, by omega, by rw [hl]; have := hu.out; omega, by go_num, by rw [hl], hres, ?_, hx1⟩
            show World.ownsRow _ _ _ _ _ _ _
            rw [hl, cellsB_append]; exact hown1
          case measure => have := hu.out; simp [intOf]; omega
    · have heq : k = s.size := by omega
      have hres : Hid (strL s.data.toList (a + 1) = none) := by show _ = _; rw [hst.out, str_end (by rw [hlen.out]; omega)]; rfl
      have hT2 : Hid (tokL s.data.toList a c = .inr 3) := by show _ = _; rw [hT.out, hres.out]
      subst heq
      go_wp2_with fail
      refine bodyPost_ret (v := .tuple #[.agg #[.int .i64 0, .int .i64 0, .string ⟨#[]⟩, .int .i64 0], .int .i64 0, .int .i64 3]) (by simp [results, Tryz.results119, go_sem, o0, o1, o2, o3]) rfl ?_
      exact ⟨X0.out.set4 _ _ _ _, .inr ⟨3, hT2, by decide, rfl⟩⟩
end Go.Proofs.YtfoelahabalbpaaGreatDoor

namespace Go.Proofs.YtfoelahabalbpaaGreatDoor
open Go.RowKit

set_option maxRecDepth 100000 in
set_option maxHeartbeats 1600000 in
theorem readP (s : ByteArray) (a : Nat) (c : UInt8) (w : World) (hs : s.size ≤ 1000000) (ha : a < s.size) (hc : s.data.toList[a]? = some c) :
    Calls Tryz.prog 69 #[.string s, .int .i64 a] w (TkIs w (tokL s.data.toList a c)) := by
  obtain ⟨c', hc1, hc2⟩ := byteAt ha
  obtain rfl : c = c' := by rw [hc] at hc1; simpa using hc1
  have key : ∀ d : UInt8, ((c.toNat : Int) == (d.toNat : Int)) = decide (c = d) := fun d => by
    by_cases h : c = d
    · subst h; simp
    · rw [byte_ne h]; simp [h]
  have b45 := key 45; have b34 := key 34
  rw [show ((45 : UInt8).toNat : Int) = 45 from rfl] at b45
  rw [show ((34 : UInt8).toNat : Int) = 34 from rfl] at b34
  replace key := hide key; replace hc1 := hide hc1
  have ka : (a : Int) < (s.size : Int) := by omega
  cases hl : isLetterB c.toNat
  · cases hd : isDigitB c.toNat
    · by_cases h45 : c = 45
      · have hw := hide (readNumber s a c (w.alloc (.cells #[.int .i64 0, .int .i64 0, .string ⟨#[]⟩, .int .i64 0] 114)) hs ha hc hl (by simp [h45]))
        rw [decide_eq_true h45] at b45
        replace hc := hide hc; replace h45 := hide h45; replace b34 := hide b34
        go_enter Tryz.func69, Tryz.ntmps69
        go_wp2_with (first | (go_at_call 115; refine (isLetter _ _).mono ?_; rintro e w' ⟨rfl, rfl⟩) | (go_at_call 117; refine (isDigit _ _).mono ?_; rintro e w' ⟨rfl, rfl⟩))
        refine hw.out.mono ?_
        rintro e w1 ⟨he1, hcase⟩
        have hO := ext_heap he1.out (heap_alloc_new w _)
        obtain ⟨o0, o1, o2, o3⟩ := four_cells hO
        have fO := row_frozen hO
        replace hO := hide hO
        have X1 := hide (((Ext.refl w).alloc _).trans he1.out)
        rcases hcase with ⟨t, b, hr, rfl⟩ | ⟨en, hr, hne, rfl⟩
        · go_wp2_with fail
          refine bodyPost_ret (v := .tuple #[.agg #[.int .i64 t.kind, .int .i64 0, .string t.text, .int .i64 t.value], .int .i64 b, .int .i64 0]) (by simp [results, Tryz.results69, go_sem, o0, o1, o2, o3]) rfl ?_
          exact ⟨X1.out.set4 _ _ _ _, .inl ⟨t, b, hr, rfl⟩⟩
        · go_wp2_with fail
          refine bodyPost_ret (v := .tuple #[.agg #[.int .i64 0, .int .i64 0, .string ⟨#[]⟩, .int .i64 0], .int .i64 0, .int .i64 en]) (by simp [results, Tryz.results69, go_sem, o0, o1, o2, o3]) rfl ?_
          exact ⟨X1.out.set4 _ _ _ _, .inr ⟨en, hr, hne, rfl⟩⟩
      · rw [decide_eq_false h45] at b45
        by_cases h34 : c = 34
        · have hw := hide (readString s a c (w.alloc (.cells #[.int .i64 0, .int .i64 0, .string ⟨#[]⟩, .int .i64 0] 114)) hs ha h34)
          rw [decide_eq_true h34] at b34
          replace hc := hide hc; replace h45 := hide h45; replace h34 := hide h34
          go_enter Tryz.func69, Tryz.ntmps69
          go_wp2_with (first | (go_at_call 115; refine (isLetter _ _).mono ?_; rintro e w' ⟨rfl, rfl⟩) | (go_at_call 117; refine (isDigit _ _).mono ?_; rintro e w' ⟨rfl, rfl⟩))
          refine hw.out.mono ?_
          rintro e w1 ⟨he1, hcase⟩
          have hO := ext_heap he1.out (heap_alloc_new w _)
          obtain ⟨o0, o1, o2, o3⟩ := four_cells hO
          have fO := row_frozen hO
          replace hO := hide hO
          have X1 := hide (((Ext.refl w).alloc _).trans he1.out)
          rcases hcase with ⟨t, b, hr, rfl⟩ | ⟨en, hr, hne, rfl⟩
          · go_wp2_with fail
            refine bodyPost_ret (v := .tuple #[.agg #[.int .i64 t.kind, .int .i64 0, .string t.text, .int .i64 t.value], .int .i64 b, .int .i64 0]) (by simp [results, Tryz.results69, go_sem, o0, o1, o2, o3]) rfl ?_
            exact ⟨X1.out.set4 _ _ _ _, .inl ⟨t, b, hr, rfl⟩⟩
          · go_wp2_with fail
            refine bodyPost_ret (v := .tuple #[.agg #[.int .i64 0, .int .i64 0, .string ⟨#[]⟩, .int .i64 0], .int .i64 0, .int .i64 en]) (by simp [results, Tryz.results69, go_sem, o0, o1, o2, o3]) rfl ?_
            exact ⟨X1.out.set4 _ _ _ _, .inr ⟨en, hr, hne, rfl⟩⟩
        · rw [decide_eq_false h34] at b34
          have hT : Hid (tokL s.data.toList a c = if signKind c = 0 then .inr 2 else .inl (⟨signKind c, a, ⟨#[]⟩, 0⟩, a + 1)) := by
            show _ = _; unfold tokL; rw [hl, hd]; simp [h45, h34]
          replace hc := hide hc; replace h45 := hide h45; replace h34 := hide h34
          have hk := hide (signKindP c (w.alloc (.cells #[.int .i64 0, .int .i64 0, .string ⟨#[]⟩, .int .i64 0] 114)))
          generalize signKind c = sk at *
          go_enter Tryz.func69, Tryz.ntmps69
          go_wp2_with (first | (go_at_call 115; refine (isLetter _ _).mono ?_; rintro e w' ⟨rfl, rfl⟩) | (go_at_call 117; refine (isDigit _ _).mono ?_; rintro e w' ⟨rfl, rfl⟩))
          refine hk.out.mono ?_
          rintro e w' ⟨rfl, rfl⟩
          by_cases h0 : sk = 0
          · have hT2 : Hid (tokL s.data.toList a c = .inr 2) := by show _ = _; rw [hT.out, if_pos h0]
            subst h0
            go_wp2_with fail
            refine bodyPost_ret (v := .tuple #[.agg #[.int .i64 0, .int .i64 0, .string ⟨#[]⟩, .int .i64 0], .int .i64 0, .int .i64 2]) (by simp [results, Tryz.results69, go_sem]) rfl ?_
            exact ⟨by first | exact (Ext.refl w).alloc _ | exact ((Ext.refl w).alloc _).set4 _ _ _ _, .inr ⟨2, hT2, by decide, rfl⟩⟩
          · have hT2 : Hid (tokL s.data.toList a c = .inl (⟨sk, a, ⟨#[]⟩, 0⟩, a + 1)) := by show _ = _; rw [hT.out, if_neg h0]
            have h0' : ((sk : Int) == 0) = false := by simp; omega
            go_wp2_with fail
            refine bodyPost_ret (v := .tuple #[.agg #[.int .i64 sk, .int .i64 0, .string ⟨#[]⟩, .int .i64 0], .int .i64 ((a + 1 : Nat) : Int), .int .i64 0]) (by simp [results, Tryz.results69, go_sem]) rfl ?_
            refine ⟨?_, .inl ⟨_, _, hT2, rfl⟩⟩
            show Ext _ _
            first | exact ((Ext.refl w).alloc _).set4 _ _ _ _ | exact ((Ext.refl w).alloc _) | exact (((Ext.refl w).alloc _).alloc _) | exact (((Ext.refl w).alloc _).alloc _).set4 _ _ _ _
    · have hw := hide (readNumber s a c (w.alloc (.cells #[.int .i64 0, .int .i64 0, .string ⟨#[]⟩, .int .i64 0] 114)) hs ha hc hl (by simp [hd]))
      replace hc := hide hc; replace b34 := hide b34; replace b45 := hide b45
      go_enter Tryz.func69, Tryz.ntmps69
      go_wp2_with (first | (go_at_call 115; refine (isLetter _ _).mono ?_; rintro e w' ⟨rfl, rfl⟩) | (go_at_call 117; refine (isDigit _ _).mono ?_; rintro e w' ⟨rfl, rfl⟩))
      refine hw.out.mono ?_
      rintro e w1 ⟨he1, hcase⟩
      have hO := ext_heap he1.out (heap_alloc_new w _)
      obtain ⟨o0, o1, o2, o3⟩ := four_cells hO
      have fO := row_frozen hO
      replace hO := hide hO
      have X1 := hide (((Ext.refl w).alloc _).trans he1.out)
      rcases hcase with ⟨t, b, hr, rfl⟩ | ⟨en, hr, hne, rfl⟩
      · go_wp2_with fail
        refine bodyPost_ret (v := .tuple #[.agg #[.int .i64 t.kind, .int .i64 0, .string t.text, .int .i64 t.value], .int .i64 b, .int .i64 0]) (by simp [results, Tryz.results69, go_sem, o0, o1, o2, o3]) rfl ?_
        exact ⟨X1.out.set4 _ _ _ _, .inl ⟨t, b, hr, rfl⟩⟩
      · go_wp2_with fail
        refine bodyPost_ret (v := .tuple #[.agg #[.int .i64 0, .int .i64 0, .string ⟨#[]⟩, .int .i64 0], .int .i64 0, .int .i64 en]) (by simp [results, Tryz.results69, go_sem, o0, o1, o2, o3]) rfl ?_
        exact ⟨X1.out.set4 _ _ _ _, .inr ⟨en, hr, hne, rfl⟩⟩
  · have hw := hide (readWord s a c (w.alloc (.cells #[.int .i64 0, .int .i64 0, .string ⟨#[]⟩, .int .i64 0] 114)) hs ha hl)
    replace hc := hide hc; replace b34 := hide b34; replace b45 := hide b45
    go_enter Tryz.func69, Tryz.ntmps69
    go_wp2_with (first | (go_at_call 115; refine (isLetter _ _).mono ?_; rintro e w' ⟨rfl, rfl⟩) | (go_at_call 117; refine (isDigit _ _).mono ?_; rintro e w' ⟨rfl, rfl⟩))
    refine hw.out.mono ?_
    rintro e w1 ⟨he1, hcase⟩
    have hO := ext_heap he1.out (heap_alloc_new w _)
    obtain ⟨o0, o1, o2, o3⟩ := four_cells hO
    have fO := row_frozen hO
    replace hO := hide hO
    have X1 := hide (((Ext.refl w).alloc _).trans he1.out)
    rcases hcase with ⟨t, b, hr, rfl⟩ | ⟨en, hr, hne, rfl⟩
    · go_wp2_with fail
      refine bodyPost_ret (v := .tuple #[.agg #[.int .i64 t.kind, .int .i64 0, .string t.text, .int .i64 t.value], .int .i64 b, .int .i64 0]) (by simp [results, Tryz.results69, go_sem, o0, o1, o2, o3]) rfl ?_
      exact ⟨X1.out.set4 _ _ _ _, .inl ⟨t, b, hr, rfl⟩⟩
    · go_wp2_with fail
      refine bodyPost_ret (v := .tuple #[.agg #[.int .i64 0, .int .i64 0, .string ⟨#[]⟩, .int .i64 0], .int .i64 0, .int .i64 en]) (by simp [results, Tryz.results69, go_sem, o0, o1, o2, o3]) rfl ?_
      exact ⟨X1.out.set4 _ _ _ _, .inr ⟨en, hr, hne, rfl⟩⟩
end Go.Proofs.YtfoelahabalbpaaGreatDoor
