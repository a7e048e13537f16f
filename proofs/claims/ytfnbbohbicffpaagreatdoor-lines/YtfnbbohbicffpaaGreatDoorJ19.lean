/-
  Tokens: words, numbers, strings.
-/
/-
  Tokens: strings, and the token that begins at a place.
-/
/-
  What is looked for in a list by its ID.
-/
import Derived.Test.YtfnbbohbicffpaaGreatDoorJ13
import Derived.Test.YtfnbbohbicffpaaGreatDoorShelf
import Derived.Test.YtfnbbohbicffpaaGreatDoorJ2
import Derived.Test.YtfnbbohbicffpaaGreatDoorJ6
import Derived.Test.YtfnbbohbicffpaaGreatDoorJ5
import Derived.Test.YtfnbbohbicffpaaGreatDoorJ14
import Derived.Deep.DeepMust
import Derived.Test.YtfnbbohbicffpaaGreatDoorJ8
import Derived.Test.YtfnbbohbicffpaaGreatDoorRefFind
namespace Go.Proofs.YtfnbbohbicffpaaGreatDoor
open Go.RowKit

/-- What the reading of a token answers: its place is still 0. -/
def TkIs (w : World) (r : (Tok × Nat) ⊕ Int) (e : Ending) (w' : World) : Prop :=
  Hid (Ext w w') ∧ ((∃ t b, Hid (r = .inl (t, b)) ∧ e = .returned (.tuple #[.agg #[.int .i64 t.kind, .int .i64 0, .string t.text, .int .i64 t.value], .int .i64 b, .int .i64 0])) ∨
    ∃ en : Int, Hid (r = .inr en) ∧ en ≠ 0 ∧ e = .returned (.tuple #[.agg #[.int .i64 0, .int .i64 0, .string ⟨#[]⟩, .int .i64 0], .int .i64 0, .int .i64 en]))
theorem Ext.set4 {w w1 : World} (h : Ext w w1) (v0 v1 v2 v3 : Value) : Ext w ((((w1.setCell ⟨w.heap.size, 0, none⟩ v0).setCell ⟨w.heap.size, 1, none⟩ v1).setCell ⟨w.heap.size, 2, none⟩ v2).setCell ⟨w.heap.size, 3, none⟩ v3) :=
  (((h.setCell (p := ⟨w.heap.size, 0, none⟩) (Nat.le_refl _) _).setCell (p := ⟨w.heap.size, 1, none⟩) (Nat.le_refl _) _).setCell (p := ⟨w.heap.size, 2, none⟩) (Nat.le_refl _) _).setCell (p := ⟨w.heap.size, 3, none⟩) (Nat.le_refl _) _
theorem ex_size (s : ByteArray) {a b : Nat} (h : a ≤ b) (hb : b ≤ s.size) : (s.extract a b).size = b - a := by
  simp [ByteArray.size_extract]; omega
theorem ex_midT (s : ByteArray) (a b : Nat) (h : a ≤ b) : (s.extract a b).data.toList = (s.data.toList.drop a).take (b - a) := by
  rw [ByteArray.data_extract]; simp [List.take_drop, Nat.add_sub_cancel' h]

set_option maxRecDepth 100000 in
set_option maxHeartbeats 800000 in
theorem cloneP (s : ByteArray) (w : World) (hs : s.size ≤ 1000000) :
    Calls Tryz.prog 82 #[.string s] w fun e w' => e = .returned (.string s) ∧ Ext w w' := by
  have hc := hide (Tryz.stringslite_Clone s w (by omega))
  go_enter Tryz.func82, Tryz.ntmps82
  go_wp2_with fail
  refine hc.out.mono ?_
  rintro e w1 ⟨rfl, he⟩
  replace he := hide he
  go_wp2
  go_ret
  exact ⟨rfl, he.out⟩

set_option maxRecDepth 100000 in
set_option maxHeartbeats 1600000 in
theorem readWord (s : ByteArray) (a : Nat) (c : UInt8) (w : World) (hs : s.size ≤ 1000000) (ha : a < s.size) (hl : isLetterB c.toNat = true) :
    Calls Tryz.prog 60 #[.string s, .int .i64 a] w (TkIs w (tokL s.data.toList a c)) := by
  have hlen : s.data.toList.length = s.size := Array.length_toList
  have hbl := behind_le (p := fun b => isInnerB b.toNat) (l := s.data.toList) (a := a) (by omega)
  have hT : Hid (tokL s.data.toList a c = if behindL (fun b => isInnerB b.toNat) s.data.toList a - a ≤ 12 then .inl (⟨1, a, baOf ((s.data.toList.drop a).take (behindL (fun b => isInnerB b.toNat) s.data.toList a - a)), 0⟩, behindL (fun b => isInnerB b.toNat) s.data.toList a) else .inr 5) := by show _ = _; unfold tokL; rw [if_pos hl]
  have hcall := hide (behindWord s a (w.alloc (.cells #[.int .i64 0, .int .i64 0, .string ⟨#[]⟩, .int .i64 0] 71)) hs (by omega))
  rw [hlen] at hbl
  generalize behindL (fun b => isInnerB b.toNat) s.data.toList a = m at *
  obtain ⟨m1, m2⟩ := hbl
  replace hlen := hide hlen
  go_enter Tryz.func60, Tryz.ntmps60
  go_wp2_with fail
  refine hcall.out.mono ?_
  rintro e w' ⟨rfl, rfl⟩
  by_cases h12 : m - a ≤ 12
  · have h12' : ¬ (12 : Int) < (m : Int) - (a : Int) := by omega
    have hx : Hid ((s.extract a m) = baOf ((s.data.toList.drop a).take (m - a))) := by
      show _ = _
      apply ByteArray.ext; apply Array.toList_inj.1
      rw [ex_midT s a m m1]; rfl
    have hz : (s.extract a m).size ≤ 1000000 := by rw [ex_size s m1 m2]; omega
    have hcl := hide (cloneP (s.extract a m) (w.alloc (.cells #[.int .i64 0, .int .i64 0, .string ⟨#[]⟩, .int .i64 0] 71)) hz)
    have hT2 : Hid (tokL s.data.toList a c = .inl (⟨1, a, s.extract a m, 0⟩, m)) := by show _ = _; rw [hT.out, if_pos h12, hx.out]
    have j1 : (a : Int) ≤ (m : Int) := by omega
    have j2 : (m : Int) ≤ (s.size : Int) := by omega
    have j3 : (0 : Int) ≤ (a : Int) := by omega
    go_wp2_with fail
    refine hcl.out.mono ?_
    rintro e w1 ⟨rfl, he1⟩
    have hO := ext_heap he1 (heap_alloc_new w _)
    obtain ⟨o0, o1, o2, o3⟩ := four_cells hO
    have fO := row_frozen hO
    replace hO := hide hO
    have X1 := hide (((Ext.refl w).alloc _).trans he1)
    replace he1 := hide he1
    go_wp2_with fail
    refine bodyPost_ret (v := .tuple #[.agg #[.int .i64 1, .int .i64 0, .string (s.extract a m), .int .i64 0], .int .i64 m, .int .i64 0]) (by simp [results, Tryz.results60, go_sem, o0, o1, o2, o3]) rfl ?_
    exact ⟨X1.out.set4 _ _ _ _, .inl ⟨_, _, hT2, rfl⟩⟩
  · have h12' : (12 : Int) < (m : Int) - (a : Int) := by omega
    have hT2 : Hid (tokL s.data.toList a c = .inr 5) := by show _ = _; rw [hT.out, if_neg h12]
    go_wp2_with fail
    refine bodyPost_ret (v := .tuple #[.agg #[.int .i64 0, .int .i64 0, .string ⟨#[]⟩, .int .i64 0], .int .i64 0, .int .i64 5]) (by simp [results, Tryz.results60, go_sem]) rfl ?_
    exact ⟨(Ext.refl w).alloc _, .inr ⟨5, hT2, by decide, rfl⟩⟩

theorem take_while (p : UInt8 → Bool) (l : List UInt8) : l.take (l.takeWhile p).length = l.takeWhile p := by
  have := List.takeWhile_append_dropWhile (p := p) (l := l)
  conv => lhs; rw [← this]
  exact List.take_left' (by rw [this])
theorem while_all (p : UInt8 → Bool) : ∀ (l : List UInt8), ∀ c ∈ l.takeWhile p, p c = true := fun l c h => by
  have := List.all_takeWhile (p := p) (l := l)
  exact List.all_eq_true.1 this c h

set_option maxRecDepth 100000 in
set_option maxHeartbeats 1600000 in
theorem readNumber (s : ByteArray) (a : Nat) (c : UInt8) (w : World) (hs : s.size ≤ 1000000) (ha : a < s.size) (hc : s.data.toList[a]? = some c) (hl : isLetterB c.toNat = false) (hd : (isDigitB c.toNat || c == 45) = true) :
    Calls Tryz.prog 62 #[.string s, .int .i64 a] w (TkIs w (tokL s.data.toList a c)) := by
  have hlen : s.data.toList.length = s.size := Array.length_toList
  obtain ⟨c', hc1, hc2⟩ := byteAt ha
  obtain rfl : c = c' := by rw [hc] at hc1; simpa using hc1
  have b45 : ((c.toNat : Int) == 45) = decide (c = 45) := by
    by_cases h : c = 45
    · subst h; rfl
    · rw [show (45 : Int) = ((45 : UInt8).toNat : Int) from rfl, byte_ne h]; simp [h]
  have key : ∀ (f : Nat) (sg : Int), (if c = 45 then a + 1 else a) = f → (if c = 45 then (-1 : Int) else 1) = sg → f ≤ s.size →
      Hid (tokL s.data.toList a c = if digitsOk ((s.data.toList.drop f).takeWhile fun b => isDigitB b.toNat) then .inl (⟨2, a, ⟨#[]⟩, sg * (valN ((s.data.toList.drop f).takeWhile fun b => isDigitB b.toNat) : Int)⟩, behindL (fun b => isDigitB b.toNat) s.data.toList f) else .inr 4) := by
    intro f sg h1 h2 _
    show _ = _
    unfold tokL
    rw [hl, if_neg (by decide), if_pos hd, h1, h2]
  obtain ⟨f, sg, hf, hsg, hfs, hfa, hs1⟩ : ∃ (f : Nat) (sg : Int), (if c = 45 then a + 1 else a) = f ∧ (if c = 45 then (-1 : Int) else 1) = sg ∧ f ≤ s.size ∧ (c = 45 ∧ f = a + 1 ∧ sg = -1 ∨ c ≠ 45 ∧ f = a ∧ sg = 1) ∧ (sg = -1 ∨ sg = 1) := by
    by_cases h : c = 45
    · exact ⟨a + 1, -1, if_pos h, if_pos h, by omega, .inl ⟨h, rfl, rfl⟩, .inl rfl⟩
    · exact ⟨a, 1, if_neg h, if_neg h, by omega, .inr ⟨h, rfl, rfl⟩, .inr rfl⟩
  have hT := key f sg hf hsg hfs
  clear key hf hsg
  have hbl := behind_le (p := fun b => isDigitB b.toNat) (l := s.data.toList) (a := f) (by omega)
  have hcall := hide (behindDigits s f (w.alloc (.cells #[.int .i64 0, .int .i64 0, .string ⟨#[]⟩, .int .i64 0] 71)) hs hfs)
  have hdig : Hid ((s.extract f (behindL (fun b => isDigitB b.toNat) s.data.toList f)).data.toList = (s.data.toList.drop f).takeWhile fun b => isDigitB b.toNat) := by
    show _ = _
    rw [ex_midT s f _ hbl.1]
    unfold behindL
    rw [Nat.add_sub_cancel_left]
    exact take_while _ _
  have hall := hide (while_all (fun b => isDigitB b.toNat) (s.data.toList.drop f))
  rw [← hdig.out] at hT hall
  rw [hlen] at hbl
  generalize behindL (fun b => isDigitB b.toNat) s.data.toList f = m at *
  obtain ⟨m1, m2⟩ := hbl
  have hz : (s.extract f m).size ≤ 1000000 := by rw [ex_size s m1 m2]; omega
  have hval := hide (valueOf (s.extract f m) (w.alloc (.cells #[.int .i64 0, .int .i64 0, .string ⟨#[]⟩, .int .i64 0] 71)) hz hall.out)
  have hdo : digitsOk (s.extract f m).data.toList = true → valN (s.extract f m).data.toList ≤ 1000000000 := by
    intro h; unfold digitsOk at h; rw [Bool.and_eq_true] at h; exact of_decide_eq_true h.2
  have hvo : valOf (s.extract f m).data.toList = if digitsOk (s.extract f m).data.toList then (valN (s.extract f m).data.toList : Int) else 0 := rfl
  generalize valOf (s.extract f m).data.toList = vv at *
  generalize hvn : valN (s.extract f m).data.toList = vn at *
  generalize hdk : digitsOk (s.extract f m).data.toList = dk at *
  replace hlen := hide hlen; replace hdig := hide hdig; replace hvn := hide hvn; replace hdk := hide hdk
  replace hc := hide hc; replace hc1 := hide hc1; replace hl := hide hl; replace hd := hide hd
  have j1 : (f : Int) ≤ (m : Int) := by omega
  have j2 : (m : Int) ≤ (s.size : Int) := by omega
  have j3 : (0 : Int) ≤ (f : Int) := by omega
  have ka : (a : Int) < (s.size : Int) := by omega
  have fin : ∀ w1 : World, Ext (w.alloc (.cells #[.int .i64 0, .int .i64 0, .string ⟨#[]⟩, .int .i64 0] 71)) w1 → ∀ dk', dk' = dk → dk' = true → TkIs w (tokL s.data.toList a c) (.returned (.tuple #[.agg #[.int .i64 2, .int .i64 0, .string ⟨#[]⟩, .int .i64 (sg * (vn : Int))], .int .i64 m, .int .i64 0])) ((((w1.setCell ⟨w.heap.size, 0, none⟩ (.int .i64 2)).setCell ⟨w.heap.size, 1, none⟩ (.int .i64 0)).setCell ⟨w.heap.size, 2, none⟩ (.string ⟨#[]⟩)).setCell ⟨w.heap.size, 3, none⟩ (.int .i64 (sg * (vn : Int)))) := by
    intro w1 he1 dk' e1 e2
    refine ⟨(((Ext.refl w).alloc _).trans he1).set4 _ _ _ _, .inl ⟨⟨2, a, ⟨#[]⟩, sg * (vn : Int)⟩, m, ?_, rfl⟩⟩
    show _ = _
    rw [hT.out, ← e1, e2]; rfl
  replace fin := hide fin
  rcases hfa with ⟨h45, rfl, rfl⟩ | ⟨h45, rfl, rfl⟩
  · rw [decide_eq_true h45] at b45
    replace h45 := hide h45
    go_enter Tryz.func62, Tryz.ntmps62
    go_wp2_with fail
    refine hcall.out.mono ?_
    rintro e w' ⟨rfl, rfl⟩
    go_wp2_with fail
    refine hval.out.mono ?_
    rintro e w1 ⟨rfl, he1⟩
    have hO := ext_heap he1 (heap_alloc_new w _)
    obtain ⟨o0, o1, o2, o3⟩ := four_cells hO
    have fO := row_frozen hO
    replace hO := hide hO
    have X1 := hide (((Ext.refl w).alloc _).trans he1)
    replace he1 := hide he1
    cases dk
    · have hT2 : Hid (tokL s.data.toList a c = .inr 4) := by show _ = _; rw [hT.out]; rfl
      go_wp2_with fail
      refine bodyPost_ret (v := .tuple #[.agg #[.int .i64 0, .int .i64 0, .string ⟨#[]⟩, .int .i64 0], .int .i64 0, .int .i64 4]) (by simp [results, Tryz.results62, go_sem, o0, o1, o2, o3]) rfl ?_
      exact ⟨X1.out.set4 _ _ _ _, .inr ⟨4, hT2, by decide, rfl⟩⟩
    · have hvb := hdo rfl
      obtain rfl : vv = (vn : Int) := hvo
      go_wp2_with fail
      refine bodyPost_ret (v := .tuple #[.agg #[.int .i64 2, .int .i64 0, .string ⟨#[]⟩, .int .i64 (-1 * (vn : Int))], .int .i64 m, .int .i64 0]) (by simp [results, Tryz.results62, go_sem, o0, o1, o2, o3]) rfl ?_
      have := fin.out w1 he1.out true rfl rfl
      simpa using this
  · rw [decide_eq_false h45] at b45
    replace h45 := hide h45
    go_enter Tryz.func62, Tryz.ntmps62
    go_wp2_with fail
    refine hcall.out.mono ?_
    rintro e w' ⟨rfl, rfl⟩
    go_wp2_with fail
    refine hval.out.mono ?_
    rintro e w1 ⟨rfl, he1⟩
    have hO := ext_heap he1 (heap_alloc_new w _)
    obtain ⟨o0, o1, o2, o3⟩ := four_cells hO
    have fO := row_frozen hO
    replace hO := hide hO
    have X1 := hide (((Ext.refl w).alloc _).trans he1)
    replace he1 := hide he1
    cases dk
    · have hT2 : Hid (tokL s.data.toList f c = .inr 4) := by show _ = _; rw [hT.out]; rfl
      go_wp2_with fail
      refine bodyPost_ret (v := .tuple #[.agg #[.int .i64 0, .int .i64 0, .string ⟨#[]⟩, .int .i64 0], .int .i64 0, .int .i64 4]) (by simp [results, Tryz.results62, go_sem, o0, o1, o2, o3]) rfl ?_
      exact ⟨X1.out.set4 _ _ _ _, .inr ⟨4, hT2, by decide, rfl⟩⟩
    · have hvb := hdo rfl
      obtain rfl : vv = (vn : Int) := hvo
      go_wp2_with fail
      refine bodyPost_ret (v := .tuple #[.agg #[.int .i64 2, .int .i64 0, .string ⟨#[]⟩, .int .i64 (1 * (vn : Int))], .int .i64 m, .int .i64 0]) (by simp [results, Tryz.results62, go_sem, o0, o1, o2, o3]) rfl ?_
      have := fin.out w1 he1.out true rfl rfl
      simpa using this
end Go.Proofs.YtfnbbohbicffpaaGreatDoor

namespace Go.Proofs.YtfnbbohbicffpaaGreatDoor
open Go.RowKit

theorem drop_extract (s : ByteArray) (k : Nat) : (s.extract k s.size).data.toList = s.data.toList.drop k := by
  rw [ByteArray.data_extract]; simp
  rw [List.take_of_length_le]
  rw [List.length_drop]
  have : s.data.toList.length = s.size := Array.length_toList
  simp at this ⊢

theorem conv_own {w : World} {B n cap : Nat} {pa : Option Addr} {l : List UInt8} (h : w.ownsRow B 5 1 (.slice pa n cap) l.length (cellsB l)) :
    (convert 39 9 (.slice pa n cap)).run Tryz.prog w = .ok (.string ⟨l.toArray⟩) w := by
  rcases h.2 with ⟨h1, h2⟩ | ⟨g, c, cur, h1, _⟩
  · cases h1
    obtain rfl : l = [] := List.eq_nil_of_length_eq_zero h2
    simp [convert, run_underlying Tryz.underlying39, run_underlying Tryz.underlying9, run_underlying Tryz.underlying5, Conv.bytesToString, Result.andThen]
    rfl
  · cases h1
    exact own_conv rfl h

set_option maxRecDepth 100000 in
set_option maxHeartbeats 3200000 in
theorem readString (s : ByteArray) (a : Nat) (c : UInt8) (w : World) (hs : s.size ≤ 1000000) (ha : a < s.size) (h34 : c = 34) :
    Calls Tryz.prog 63 #[.string s, .int .i64 a] w (TkIs w (tokL s.data.toList a c)) := by
  have hlen : s.data.toList.length = s.size := Array.length_toList
  obtain ⟨i0, hi, hz0, hz1, hz2⟩ := info_of infoByte
  have hT : Hid (tokL s.data.toList a c = match strL s.data.toList (a + 1) with
    | none => .inr 3
    | some (m, e) => if m.length ≤ 20 then .inl (⟨3, a, baOf m, 0⟩, e + 1) else .inr 3) := by
    show _ = _; subst h34; rfl
  replace hi := hide hi; replace hlen := hide hlen; replace h34 := hide h34
  go_enter Tryz.func63, Tryz.ntmps63
  go_wp2_with fail
  go_loopw [1, 7] (fun at_ v wr => ∃ (k : Nat) (acc : List UInt8) (pa : Option Addr) (cap : Nat), k ≤ s.size ∧ acc.length + a + 1 ≤ k ∧ at_ = .int .i64 k ∧ v = .slice pa acc.length cap ∧ Hid (strL s.data.toList (a + 1) = (strL s.data.toList k).map fun r => (acc ++ r.1, r.2)) ∧ Hid (wr.ownsRow (w.alloc (.cells #[.int .i64 0, .int .i64 0, .string ⟨#[]⟩, .int .i64 0] 71)).heap.size 5 1 (.slice pa acc.length cap) acc.length (cellsB acc)) ∧ Hid (Ext (w.alloc (.cells #[.int .i64 0, .int .i64 0, .string ⟨#[]⟩, .int .i64 0] 71)) wr)) (fun at_ _ _ => s.size - (intOf at_).toNat)
  case atStart =>
    refine ⟨a + 1, [], none, 0, by omega, by simp, by go_num, rfl, ?_, World.ownsRow_nil _ _ _ _, Ext.refl _⟩
    show _ = _
    cases strL s.data.toList (a + 1) <;> simp
  case round =>
    obtain ⟨k, acc, pa, cap, hk, hka, rfl, rfl, hst, hown, hx⟩ := hrel
    have hO := ext_heap hx.out (heap_alloc_new w _)
    obtain ⟨o0, o1, o2, o3⟩ := four_cells hO
    have fO := row_frozen hO
    replace hO := hide hO
    have X0 := hide (((Ext.refl w).alloc _).trans hx.out)
    by_cases hlt : k < s.size
    · obtain ⟨d, hd1, hd2⟩ := byteAt hlt
      have b34 : ((d.toNat : Int) == 34) = decide (d = 34) := by
        by_cases h : d = 34
        · subst h; rfl
        · rw [show (34 : Int) = ((34 : UInt8).toNat : Int) from rfl, byte_ne h]; simp [h]
      have hstep := hide (str_step hd1)
      by_cases hq : d = 34
      · rw [decide_eq_true hq] at b34
        have b34' : ((d.toNat : Int) != 34) = false := by simp only [bne, b34]; rfl
        have hne : ¬ (k : Int) = (s.size : Int) := by omega
        have hres : Hid (strL s.data.toList (a + 1) = some (acc, k)) := by show _ = _; rw [hst.out, hstep.out, if_pos hq]; simp
        replace hd1 := hide hd1; replace hq := hide hq
        by_cases h20 : acc.length ≤ 20
        · have h20' : ¬ (20 : Int) < (acc.length : Int) := by omega
          have hT2 : Hid (tokL s.data.toList a c = .inl (⟨3, a, baOf acc, 0⟩, k + 1)) := by show _ = _; rw [hT.out, hres.out]; simp [h20]
          have hcv : (convert 39 9 (.slice pa acc.length cap)).run Tryz.prog wr = .ok (.string ⟨acc.toArray⟩) wr := conv_own hown.out
          clear o0 o1 o2 o3
          obtain ⟨o0, o1, o2, o3⟩ := four_cells hO.out
          go_wp2_with fail
          refine bodyPost_ret (v := .tuple #[.agg #[.int .i64 3, .int .i64 0, .string ⟨acc.toArray⟩, .int .i64 0], .int .i64 ((k + 1 : Nat) : Int), .int .i64 0]) (by simp [results, Tryz.results63, go_sem, o0, o1, o2, o3]) rfl ?_
          exact ⟨X0.out.set4 _ _ _ _, .inl ⟨_, _, hT2, rfl⟩⟩
        · have h20' : (20 : Int) < (acc.length : Int) := by omega
          have hT2 : Hid (tokL s.data.toList a c = .inr 3) := by show _ = _; rw [hT.out, hres.out]; simp [h20]
          go_wp2_with fail
          refine bodyPost_ret (v := .tuple #[.agg #[.int .i64 0, .int .i64 0, .string ⟨#[]⟩, .int .i64 0], .int .i64 0, .int .i64 3]) (by simp [results, Tryz.results63, go_sem, o0, o1, o2, o3]) rfl ?_
          exact ⟨X0.out.set4 _ _ _ _, .inr ⟨3, hT2, by decide, rfl⟩⟩
      · rw [decide_eq_false hq] at b34
        have b34' : ((d.toNat : Int) != 34) = true := by simp only [bne, b34]; rfl
        have hxs : Hid ((s.extract k s.size).data.toList = s.data.toList.drop k) := drop_extract s k
        have hxz : (s.extract k s.size).size = s.size - k := ex_size s (by omega) (Nat.le_refl _)
        have hsign := hide (readSign (s.extract k s.size) wr (by omega) (by omega))
        rw [hxs.out] at hsign
        have hused := sign_used (s.data.toList.drop k)
        rw [List.length_drop, hlen.out] at hused
        generalize hsg : signL (s.data.toList.drop k) = sg at *
        obtain ⟨sb, su⟩ := sg
        dsimp only at *
        have j1 : (k : Int) ≤ (s.size : Int) := by omega
        have j3 : (0 : Int) ≤ (k : Int) := by omega
        replace hd1 := hide hd1; replace hxz := hide hxz; replace hsg := hide hsg
        go_wp2_with fail
        refine hsign.out.mono ?_
        rintro e w' ⟨rfl, rfl⟩
        by_cases hu : su = 0
        · have hres : Hid (strL s.data.toList (a + 1) = none) := by show _ = _; rw [hst.out, hstep.out, if_neg hq]; simp [hu]
          have hT2 : Hid (tokL s.data.toList a c = .inr 3) := by show _ = _; rw [hT.out, hres.out]
          subst hu
          replace hq := hide hq
          go_wp2_with fail
          refine bodyPost_ret (v := .tuple #[.agg #[.int .i64 0, .int .i64 0, .string ⟨#[]⟩, .int .i64 0], .int .i64 0, .int .i64 3]) (by simp [results, Tryz.results63, go_sem, o0, o1, o2, o3]) rfl ?_
          exact ⟨X0.out.set4 _ _ _ _, .inr ⟨3, hT2, by decide, rfl⟩⟩
        · have hu' : ((su : Int) == 0) = false := by simp; omega
          have hres : Hid (strL s.data.toList (a + 1) = (strL s.data.toList (k + su)).map fun r => ((acc ++ [sb]) ++ r.1, r.2)) := by
            show _ = _
            rw [hst.out, hstep.out, if_neg hq, if_neg hu]
            cases strL s.data.toList (k + su) with
            | none => rfl
            | some r => simp
          have hsz := hide (Ext.size hx.out)
          replace hq := hide hq; replace hu := hide hu; replace hstep := hide hstep
          go_wp2_with (at_builtin; go_must (refine wpList_append_lies _ rfl _ _ 39 rfl (w.alloc (.cells #[.int .i64 0, .int .i64 0, .string ⟨#[]⟩, .int .i64 0] 71)).heap.size 5 i0 (.int .u8 0) 1 1 Tryz.underlying39 hi.out hz0 hz1 hz2 rfl (by omega) _ acc.length (cellsB acc) rfl (hown.out.alloc _) ⟨w'.heap.size, 0, none⟩ 1 1 (cellsB [sb]) rfl rfl ?_ (one_cellB _) (by omega) (by unfold maxLen; omega) (by omega) (by have := hsz.out; simp at this ⊢; omega) (w'.heap.size + 1) (by simp) ?_; (intro j u hu; rw [add_eq]; (match j, hu with | 0, hu => (simp [cellsB] at hu; subst hu; simp [go_sem]) | _ + 1, hu => (simp [cellsB] at hu))); intro g1 cap1 w1 hown1 hgrow1 hat1 hlt1))
          replace hgrow1 : (w'.alloc (.cells (cellsB [sb]).toArray 5)).grownBy w1 (Value.slice pa acc.length cap).ownBlock := hgrow1
          have hl : (acc ++ [sb]).length = acc.length + 1 := by simp
          have hx1 : Ext (w.alloc (.cells #[.int .i64 0, .int .i64 0, .string ⟨#[]⟩, .int .i64 0] 71)) w1 := ((Wrote.ext (B := (w.alloc (.cells #[.int .i64 0, .int .i64 0, .string ⟨#[]⟩, .int .i64 0] 71)).heap.size) (T := (· = 5)) hx.out).grownAt hown.out rfl hgrow1).toExt
          go_roundw
          case rel =>
            refine ⟨k + su, acc ++ [sb], some ⟨g1, 0, none⟩, cap1, by omega, by rw [hl]; have := hu.out; omega, by go_num, by rw [hl], hres, ?_, hx1⟩
            show World.ownsRow _ _ _ _ _ _ _
            rw [hl, cellsB_append]; exact hown1
          case measure => have := hu.out; simp [intOf]; omega
    · have heq : k = s.size := by omega
      have hres : Hid (strL s.data.toList (a + 1) = none) := by show _ = _; rw [hst.out, str_end (by rw [hlen.out]; omega)]; rfl
      have hT2 : Hid (tokL s.data.toList a c = .inr 3) := by show _ = _; rw [hT.out, hres.out]
      subst heq
      go_wp2_with fail
      refine bodyPost_ret (v := .tuple #[.agg #[.int .i64 0, .int .i64 0, .string ⟨#[]⟩, .int .i64 0], .int .i64 0, .int .i64 3]) (by simp [results, Tryz.results63, go_sem, o0, o1, o2, o3]) rfl ?_
      exact ⟨X0.out.set4 _ _ _ _, .inr ⟨3, hT2, by decide, rfl⟩⟩
end Go.Proofs.YtfnbbohbicffpaaGreatDoor

namespace Go.Proofs.YtfnbbohbicffpaaGreatDoor
open Go.RowKit

theorem ba_iff {a b : ByteArray} : a.toList = b.toList ↔ a = b := ⟨fun h => by by_cases e : a = b; exact e; exact absurd h (ba_ne e), fun h => by rw [h]⟩
def hitK (x a : IDd) : Bool := decide (x.kind = a.kind ∧ x.name = a.name)
theorem hitK_iff {x a : IDd} : hitK x a = true ↔ x = a := by
  unfold hitK
  rw [decide_eq_true_eq]
  constructor
  · rintro ⟨h1, h2⟩; cases x; cases a; simp_all
  · rintro rfl; exact ⟨rfl, rfl⟩

set_option maxRecDepth 100000 in
set_option maxHeartbeats 800000 in
theorem hitA (a x : IDd) (a2 a3 : Option Addr) (n2 n3 p2 p3 p : Nat) (w : World) (h0 : w.cell? ⟨p, 0, none⟩ = some (.string a.kind)) (h1 : w.cell? ⟨p, 1, none⟩ = some (.string a.name)) :
    Calls Tryz.prog 113 #[.agg #[.string x.kind, .string x.name, .slice a2 n2 p2, .slice a3 n3 p3], .pointer (some ⟨p, 0, none⟩)] w fun e w' => e = .returned (.bool (hitK x a)) ∧ Ext w w' := by
  have hp := World.block_lt_of_cell? w _ h0
  have g0 := World.cell?_alloc_past (w := w) (.cells #[.string x.kind, .string x.name, .slice a2 n2 p2, .slice a3 n3 p3] 37) p 0 hp
  have g1 := World.cell?_alloc_past (w := w) (.cells #[.string x.kind, .string x.name, .slice a2 n2 p2, .slice a3 n3 p3] 37) p 1 hp
  rw [h0] at g0; rw [h1] at g1
  replace h0 := hide h0; replace h1 := hide h1; replace hp := hide hp
  go_enter Tryz.func113, Tryz.ntmps113
  go_wp2_with fail
  all_goals go_ret
  all_goals refine ⟨retB ?_, (Ext.refl _).alloc _⟩
  all_goals simp_all [hitK, ba_iff]

set_option maxRecDepth 100000 in
set_option maxHeartbeats 800000 in
theorem hitW (a x : IDd) (p : Nat) (w : World) (h0 : w.cell? ⟨p, 0, none⟩ = some (.string a.kind)) (h1 : w.cell? ⟨p, 1, none⟩ = some (.string a.name)) :
    Calls Tryz.prog 75 #[.agg #[.string x.kind, .string x.name], .pointer (some ⟨p, 0, none⟩)] w fun e w' => e = .returned (.bool (hitK x a)) ∧ Ext w w' := by
  have hp := World.block_lt_of_cell? w _ h0
  have g0 := World.cell?_alloc_past (w := w) (.cells #[.string x.kind, .string x.name] 33) p 0 hp
  have g1 := World.cell?_alloc_past (w := w) (.cells #[.string x.kind, .string x.name] 33) p 1 hp
  rw [h0] at g0; rw [h1] at g1
  replace h0 := hide h0; replace h1 := hide h1; replace hp := hide hp
  go_enter Tryz.func75, Tryz.ntmps75
  go_wp2_with fail
  all_goals go_ret
  all_goals refine ⟨retB ?_, (Ext.refl _).alloc _⟩
  all_goals simp_all [hitK, ba_iff]

/-- The list of what the resource of an ID waits for, as a value. -/
def AfterIs (w0 w : World) (l : List Resd) (a : IDd) (e : Ending) (w' : World) : Prop :=
  ∃ (k n : ByteArray) (c2 : Value) (pa : Option Addr) (cap : Nat) (b : Bool), e = .returned (.tuple #[.agg #[.string k, .string n, c2, .slice pa (afterL l a).length cap], .bool b]) ∧ (∃ pa2 n2 cap2, c2 = .slice pa2 n2 cap2) ∧ Hid (IDsV w0 (.slice pa (afterL l a).length cap) (afterL l a)) ∧ Hid (Ext w w')
theorem IDsV.zero (w : World) : IDsV w (.slice none 0 0) [] := ⟨⟨none, 0, rfl, Nat.le_refl _, by decide, .inl rfl⟩, Nat.zero_le _, fun x h => (by cases h)⟩
theorem after_none {l : List Resd} {a : IDd} (h : ∀ (i : Nat) y, l[i]? = some y → hitK y.id a = false) : afterL l a = [] := by
  have : placeL l a = none := List.findIdx?_eq_none_iff.2 fun y hy => by
    obtain ⟨i, hi, rfl⟩ := List.getElem_of_mem hy
    exact h i _ (List.getElem?_eq_getElem hi)
  unfold afterL; rw [this]
theorem after_some {l : List Resd} {a : IDd} {j : Nat} {x : Resd} (h : ∀ i y, i < j → l[i]? = some y → hitK y.id a = false) (hx : l[j]? = some x) (hh : hitK x.id a = true) : afterL l a = x.after := by
  obtain ⟨hj, hxj⟩ := List.getElem?_eq_some_iff.1 hx
  have : placeL l a = some j := List.findIdx?_eq_some_iff_getElem.2 ⟨hj, by rw [hxj]; exact hh, fun i hi => by
    have := h i l[i] hi (List.getElem?_eq_getElem (by omega))
    simpa [hitK] using this⟩
  unfold afterL; rw [this]; simp only [hx]
theorem newRes_cells (w : World) (o : Obj) (c : Array Value) (t : TypeId) (w1 : World) (h : Ext (w.alloc o) w1) (ho : o = .cells c t (0, 0)) : w1.heap[w.heap.size]? = some (.cells c t (0, 0)) := by
  subst ho
  exact ext_heap h (heap_alloc_new w _)

set_option maxRecDepth 100000 in
set_option maxHeartbeats 1600000 in
theorem findA (v : Value) (l : List Resd) (a : IDd) (p : Nat) (w0 w : World) (hv : RessV w0 v l) (hE : Ext w0 w) (h0 : w.cell? ⟨p, 0, none⟩ = some (.string a.kind)) (h1 : w.cell? ⟨p, 1, none⟩ = some (.string a.name)) :
    Calls Tryz.prog 112 #[v, .func (.func 113) #[] #[.pointer (some ⟨p, 0, none⟩)]] w (AfterIs w0 w l a) := by
  obtain ⟨⟨pa, cap, rfl, hc1, hc2, hin⟩, hfew⟩ := hv
  replace hin := hide hin; replace h0 := hide h0; replace h1 := hide h1; replace hE := hide hE
  go_enter Tryz.func112, Tryz.ntmps112
  go_wp2_with fail
  go_loopw [11] (fun i wr => ∃ j : Nat, j ≤ l.length ∧ i = .int .i64 j ∧ Hid (∀ i y, i < j → l[i]? = some y → hitK y.id a = false) ∧ Hid (Ext (w.alloc (.cells #[.string ⟨#[]⟩, .string ⟨#[]⟩, .slice none 0 0, .slice none 0 0] 37)) wr)) (fun i _ => l.length - (intOf i).toNat)
  case atStart => exact ⟨0, Nat.zero_le _, rfl, fun _ _ h => absurd h (by omega), Ext.refl _⟩
  case round =>
    obtain ⟨j, hj, rfl, hno, hx⟩ := hrel
    have X0 := hide (((Ext.refl w).alloc _).trans hx.out)
    have hO := newRes_cells w _ _ _ _ hx.out rfl
    by_cases hlt : j < l.length
    · obtain ⟨x, hxj⟩ := some_of_lt hlt
      rcases hin.out with h | ⟨b, off, rfl, h⟩
      · rw [h] at hlt; simp at hlt
      obtain ⟨k0, k1, c2, c3, k2, k3, hR⟩ := h j x hxj
      replace k0 := (hE.out.trans X0.out).cells k0
      replace k1 := (hE.out.trans X0.out).cells k1
      replace k2 := (hE.out.trans X0.out).cells k2
      replace k3 := (hE.out.trans X0.out).cells k3
      obtain ⟨a2, p2, rfl⟩ := hR.attrs.form
      obtain ⟨a3, p3, rfl⟩ := hR.after.form
      have j2 : (j : Int) < (l.length : Int) := by omega
      have j4 : (0 : Int) ≤ (j : Int) := by omega
      replace h := hide h; replace hxj := hide hxj; replace hR := hide hR; replace hO := hide hO
      go_wp2_with fail
      refine (hitA a x.id _ _ _ _ _ _ p _ (X0.out.alloc _ |>.cells h0.out) (X0.out.alloc _ |>.cells h1.out)).mono ?_
      rintro e w1 ⟨rfl, he1⟩
      have X1 := hide ((X0.out.alloc _).trans he1)
      have hx1 := hide ((hx.out.alloc _).trans he1)
      have hE := ext_heap he1 (heap_alloc_new _ _)
      replace he1 := hide he1
      cases hb : hitK x.id a
      · replace hE := hide hE
        go_wp2_with fail
        go_roundw
        case rel =>
          refine ⟨j + 1, by omega, by go_num, fun i y hi hy => ?_, hx1.out⟩
          by_cases hij : i = j
          · subst hij
            obtain rfl : x = y := by simpa [hxj.out] using hy
            exact hb
          · exact hno.out i y (by omega) hy
        case measure => simp [intOf]; omega
      · have hO1 := newRes_cells w _ _ _ _ hx1.out rfl
        obtain ⟨q0, q1, q2, q3⟩ := four_cells hE
        obtain ⟨o0, o1, o2, o3⟩ := four_cells hO1
        have fO := row_frozen hO1
        have hA := hide (after_some hno.out hxj.out hb)
        replace hE := hide hE; replace hO1 := hide hO1
        go_wp2
        refine bodyPost_ret (v := .tuple #[.agg #[.string x.id.kind, .string x.id.name, .slice a2 x.attrs.length p2, .slice a3 x.after.length p3], .bool true]) (by simp [results, Tryz.results112, go_sem, o0, o1, o2, o3]) rfl ⟨_, _, _, a3, p3, true, by rw [hA.out], ⟨_, _, _, rfl⟩, by rw [hA.out]; exact hR.out.after, ?_⟩
        exact (((X1.out.setCell (p := ⟨w.heap.size, 0, none⟩) (Nat.le_refl _) _).setCell (p := ⟨w.heap.size, 1, none⟩) (Nat.le_refl _) _).setCell (p := ⟨w.heap.size, 2, none⟩) (Nat.le_refl _) _).setCell (p := ⟨w.heap.size, 3, none⟩) (Nat.le_refl _) _
    · have hA := hide (after_none (l := l) (a := a) fun i y hy => hno.out i y (by have := (List.getElem?_eq_some_iff.1 hy).1; omega) hy)
      have hO2 := ext_heap ((Ext.refl wr).alloc (.cells #[.string ⟨#[]⟩, .string ⟨#[]⟩, .slice none 0 0, .slice none 0 0] 37)) hO
      have fO := row_frozen hO2
      obtain ⟨o0, o1, o2, o3⟩ := four_cells hO2
      replace hO := hide hO; replace hO2 := hide hO2
      go_wp2
      refine bodyPost_ret (v := .tuple #[.agg #[.string ⟨#[]⟩, .string ⟨#[]⟩, .slice none 0 0, .slice none 0 0], .bool false]) (by simp [results, Tryz.results112, go_sem, o0, o1, o2, o3]) rfl ⟨_, _, _, none, 0, false, by rw [hA.out]; rfl, ⟨_, _, _, rfl⟩, by rw [hA.out]; exact IDsV.zero w0, ?_⟩
      exact ((((X0.out.alloc _).setCell (p := ⟨w.heap.size, 0, none⟩) (Nat.le_refl _) _).setCell (p := ⟨w.heap.size, 1, none⟩) (Nat.le_refl _) _).setCell (p := ⟨w.heap.size, 2, none⟩) (Nat.le_refl _) _).setCell (p := ⟨w.heap.size, 3, none⟩) (Nat.le_refl _) _

set_option maxRecDepth 100000 in
set_option maxHeartbeats 1600000 in
theorem afterOf (v : Value) (l : List Resd) (a : IDd) (w0 w : World) (hv : RessV w0 v l) (hE : Ext w0 w) :
    Calls Tryz.prog 96 #[v, .agg #[.string a.kind, .string a.name]] w fun e w' => ∃ pa cap, e = .returned (.slice pa (afterL l a).length cap) ∧ Hid (IDsV w0 (.slice pa (afterL l a).length cap) (afterL l a)) ∧ Hid (Ext w w') := by
  obtain ⟨va, vc, rfl, -, -, -⟩ := hv.shape
  replace hv := hide hv; replace hE := hide hE
  have c0 : (w.alloc (.cells #[.string a.kind, .string a.name] 33)).cell? ⟨w.heap.size, 0, none⟩ = some (.string a.kind) := by simp [go_sem]
  have c1 : (w.alloc (.cells #[.string a.kind, .string a.name] 33)).cell? ⟨w.heap.size, 1, none⟩ = some (.string a.name) := by simp [go_sem]
  go_enter Tryz.func96, Tryz.ntmps96
  go_wp2_with fail
  refine (findA _ l a w.heap.size w0 _ hv.out (hE.out.alloc _) c0 c1).mono ?_
  rintro e w1 ⟨k, n, c2, pa, cap, b, rfl, ⟨pa2, n2, cap2, rfl⟩, hI, hX⟩
  clear c0 c1
  generalize hgl : (afterL l a).length = gl at *
  replace hgl := hide hgl
  go_wp2_with fail
  go_ret
  obtain rfl := hgl.out
  exact ⟨pa, cap, rfl, hI, ((Ext.refl w).alloc _).trans (hX.out.alloc _)⟩
end Go.Proofs.YtfnbbohbicffpaaGreatDoor
