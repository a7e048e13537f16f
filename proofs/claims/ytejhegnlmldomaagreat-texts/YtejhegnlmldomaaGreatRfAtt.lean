/-
  The reference: an attribute among others.
-/
import Derived.Test.YtejhegnlmldomaaGreatRfApp
import Derived.Test.YtejhegnlmldomaaGreatJ18
import Derived.Test.YtejhegnlmldomaaGreatJ6
namespace Go.Proofs.YtejhegnlmldomaaGreat
open Go.RowKit

theorem Wrote.keeps_low {B : Nat} {T : TypeId → Prop} {w w' : World} (h : Wrote B T w w') {k : Nat} {o : Obj} (hk : w.heap[k]? = some o) (hb : k < B) : w'.heap[k]? = some o := by
  rw [h.heap k (Array.getElem?_eq_some_iff.1 hk).1 (.inl hb)]; exact hk
theorem showsNew (w : World) (t : TypeId) (cs : List Value) {n : Nat} (hn : cs.length = n) : Shows (w.alloc (.cells cs.toArray t)) (some ⟨w.heap.size, 0, none⟩) 1 n cs := by
  refine ⟨by omega, fun h => (by cases h), ?_⟩
  rintro ad hh j u hu
  cases hh
  rw [add_eq]
  refine Eq.trans (cell_of (heap_alloc_new w (.cells cs.toArray t)) (0 + j)) ?_
  simpa using hu
theorem shows0 {w : World} (a : Option Addr) (size : Nat) {m : Nat} {news : List Value} (hm : m = 0) (hn : news = []) : Shows w a m size news := by
  subst hm; subst hn
  exact ⟨by simp, fun _ => rfl, fun _ _ j u hu => by simp at hu⟩
theorem attrs_cell {w : World} {b off : Nat} {l : List Attrd} (h : AttrsIn w b off l) {j : Nat} {u : Value} (hu : (cellsA l)[j]? = some u) : w.cell? ⟨b, off + j, none⟩ = some u := by
  have hlt := (List.getElem?_eq_some_iff.1 hu).1
  rw [cellsA_len] at hlt
  obtain ⟨x, hx⟩ := some_of_lt (l := l) (k := j / 4) (by omega)
  have h1 : (cellsA l)[j / 4 * 4 + j % 4]? = (cA x)[j % 4]? := flat_get cA_len hx (by omega)
  rw [show j / 4 * 4 + j % 4 = j by omega, hu] at h1
  obtain ⟨k0, k1, k2, k3⟩ := h _ x hx
  have h4 : j % 4 < 4 := by omega
  have hj : off + j = off + j / 4 * 4 + j % 4 := by omega
  rw [hj]
  generalize j % 4 = r at h1 h4
  match r, h4 with
  | 0, _ => simp [cA] at h1; rw [h1]; exact k0
  | 1, _ => simp [cA] at h1; rw [h1]; exact k1
  | 2, _ => simp [cA] at h1; rw [h1]; exact k2
  | 3, _ => simp [cA] at h1; rw [h1]; exact k3
theorem cellsA_cut (l : List Attrd) (k : Nat) : cellsA l = cellsA (l.take k) ++ cellsA (l.drop k) := by
  unfold cellsA
  rw [← List.flatMap_append, List.take_append_drop]
theorem showsA {w : World} {b off k : Nat} {l : List Attrd} (h : AttrsIn w b off l) (hk : k ≤ l.length) : Shows w (some ⟨b, off, none⟩) k 4 (cellsA (l.take k)) := by
  refine ⟨by rw [cellsA_len, List.length_take, Nat.min_eq_left hk], fun h => (by cases h), ?_⟩
  rintro ad hh j u hu
  cases hh
  rw [add_eq]
  refine attrs_cell h ?_
  rw [cellsA_cut l k, List.getElem?_append_left (List.getElem?_eq_some_iff.1 hu).1]
  exact hu
theorem showsD {w : World} {b off k : Nat} {l : List Attrd} (h : AttrsIn w b off l) (hk : k ≤ l.length) : Shows w (some ⟨b, off + k * 4, none⟩) (l.length - k) 4 (cellsA (l.drop k)) := by
  refine ⟨by rw [cellsA_len, List.length_drop], fun h => (by cases h), ?_⟩
  rintro ad hh j u hu
  cases hh
  rw [add_eq, Nat.add_assoc]
  refine attrs_cell h ?_
  have hl : (cellsA (l.take k)).length = k * 4 := by rw [cellsA_len, List.length_take, Nat.min_eq_left hk]
  rw [cellsA_cut l k, List.getElem?_append_right (by omega), hl, show k * 4 + j - k * 4 = j by omega]
  exact hu
theorem baEq {a b : ByteArray} (h : a.data.toList = b.data.toList) : a = b := by
  cases a with | mk x => cases b with | mk y => simp only at h; rw [Array.toList_inj.1 h]
/-- What is answered of an attribute among others. -/
def AttrIs (w : World) (v : Value) (l : List Attrd) (a : Attrd) (e : Ending) (w' : World) : Prop :=
  ((∃ y ∈ l, y.name = a.name) ∧ e = .returned (.tuple #[v, .bool false]) ∧ Ext w w') ∨ (¬ (∃ y ∈ l, y.name = a.name) ∧ ∃ u, e = .returned (.tuple #[u, .bool true]) ∧ w'.ownsRow w.heap.size 129 4 u (l.length + 1) (cellsA (l.takeWhile (fun y => decide (cmpS y.name a.name < 0)) ++ a :: l.dropWhile (fun y => decide (cmpS y.name a.name < 0)))) ∧ Ext w w')
set_option maxRecDepth 100000 in
set_option maxHeartbeats 1600000 in
theorem refAttr (v : Value) (l : List Attrd) (a : Attrd) (w : World) (hv : AttrsV w v l) (hf : l.length ≤ 100) (hup : UpG cmpS Attrd.name l) :
    Calls Tryz.prog 56 #[v, .agg #[.string a.name, .bool a.isText, .string a.text, .int .i64 a.number]] w (AttrIs w v l a) := by
  obtain ⟨⟨pa, cap, rfl, hc1, hc2, hin⟩, hfew⟩ := hv
  replace hin := hide hin; replace hup := hide hup
  go_enter Tryz.func56, Tryz.ntmps56
  go_wp2_with fail
  have XA := (Ext.refl w).alloc (.cells #[.string a.name, .bool a.isText, .string a.text, .int .i64 a.number] 129)
  have A0 := heap_alloc_new w (.cells #[.string a.name, .bool a.isText, .string a.text, .int .i64 a.number] 129)
  replace XA := hide XA; replace A0 := hide A0
  obtain ⟨i0, hi, hz0, hz1, hz2⟩ := info_of infoAttr
  replace hi := hide hi
  generalize w.alloc (.cells #[.string a.name, .bool a.isText, .string a.text, .int .i64 a.number] 129) = wx at *
  go_loopw [6] (fun i wr => ∃ k : Nat, k ≤ l.length ∧ i = .int .i64 k ∧ Hid (∀ (j : Nat) y, j < k → l[j]? = some y → cmpS y.name a.name < 0) ∧ Hid (Ext wx wr)) (fun i _ => l.length - (intOf i).toNat)
  case atStart => exact ⟨0, Nat.zero_le _, rfl, fun _ _ h => absurd h (by omega), Ext.refl _⟩
  case round =>
    obtain ⟨k, hk, rfl, hah, hx⟩ := hrel
    obtain ⟨a0, a1, a2, a3⟩ := four_cells (ext_heap hx.out A0.out)
    by_cases hlt : k < l.length
    · obtain ⟨x, hxk⟩ := some_of_lt hlt
      rcases hin.out with h | ⟨b, off, rfl, h⟩
      · rw [h] at hlt; simp at hlt
      obtain ⟨k0, k1, k2, k3⟩ := h k x hxk
      replace k0 := (XA.out.trans hx.out).cells k0
      clear k1 k2 k3
      have j2 : (k : Int) < (l.length : Int) := by omega
      have j4 : (0 : Int) ≤ (k : Int) := by omega
      replace h := hide h; replace hxk := hide hxk
      by_cases hc : cmpS x.name a.name < 0
      · have hcl : Op.bytesLess x.name.toList a.name.toList = true := by rw [lessS]; simpa using hc
        go_wp2_with fail
        go_quiet (fail)
        go_wp2_with fail
        go_roundw
        case rel =>
          refine ⟨k + 1, by omega, by go_num, fun j y hj hy => ?_, hx.out.drewN _⟩
          by_cases hjk : j = k
          · subst hjk
            obtain rfl : x = y := by simpa [hxk.out] using hy
            exact hc
          · exact hah.out j y (by omega) hy
        case measure => simp [intOf]; omega
      · have hcl : Op.bytesLess x.name.toList a.name.toList = false := by rw [lessS]; simpa using hc
        by_cases he : x.name = a.name
        · have heb : x.name.toList = a.name.toList := by rw [he]
          have heb2 : (x.name.toList == a.name.toList) = true := by rw [heb]; simp
          replace hc := hide hc; replace he := hide he; replace heb := hide heb; replace heb2 := hide heb2
          go_wp2_with fail
          go_quiet (fail)
          have heb3 := heb2.out
          go_wp2_with fail
          go_quiet (fail)
          go_wp2_with fail
          go_ret2
          exact .inl ⟨⟨x, List.mem_of_getElem? hxk.out, he.out⟩, rfl, (XA.out.trans (hx.out.drewN _)).drewN _⟩
        · have heb : ¬ x.name.toList = a.name.toList := fun h => he (by rw [ByteArray.toList_eq, ByteArray.toList_eq] at h; exact baEq h)
          have heb2 : (x.name.toList == a.name.toList) = false := by simpa using heb
          replace hc := hide hc; replace he := hide he
          have hsh1 : Hid (∀ w', Ext w w' → Shows w' (some ⟨b, off, none⟩) k 4 (cellsA (l.take k))) := fun w' e => showsA (h.out.ext e) hk
          have hx0 := hide (XA.out.trans hx.out)
          have hsz0 := hide (Ext.size hx.out)
          have hsa : Hid (w.heap.size < wx.heap.size) := (Array.getElem?_eq_some_iff.1 A0.out).1
          go_wp2_with fail
          go_quiet (fail)
          go_wp2_with fail
          go_quiet (fail)
          go_wp2_with (first
            | (at_builtin; have hA2 := hown2; go_must (refine wpList_append_any _ rfl _ _ 71 rfl wx.heap.size 129 i0 (.agg #[.string ⟨#[]⟩, .bool false, .string ⟨#[]⟩, .int .i64 0]) 4 48 Tryz.underlying71 hi.out hz0 hz1 hz2 rfl (by omega) _ (k + 1) _ rfl hown2 (some ⟨b, off + k * 4, none⟩) (l.length - k) _ (cellsA (l.drop k)) rfl (showsD (h.out.ext (XA.out.trans hX2.out)) hk) (cellsA_one _) (by unfold maxLen; omega) (by omega) (Ext.size hX2.out) ?_; intro v3 w3 hown3 hW3; obtain ⟨q3, r3, rfl⟩ := ownsRow_form hown3; have hX3 : Hid (Ext wx w3) := ((Wrote.ext (B := wx.heap.size) (T := (· = 129)) hX2.out).trans hW3).toExt))
            | (at_builtin; have hA1 := hown1; go_must (refine wpList_append_any _ rfl _ _ 71 rfl wx.heap.size 129 i0 (.agg #[.string ⟨#[]⟩, .bool false, .string ⟨#[]⟩, .int .i64 0]) 4 48 Tryz.underlying71 hi.out hz0 hz1 hz2 rfl (by omega) _ k _ rfl (hown1.alloc _) (some ⟨w1.heap.size, 0, none⟩) 1 _ (cA a) rfl (showsNew w1 129 (cA a) (n := 4) rfl) (cA_one _) (by unfold maxLen; omega) (by omega) (by have := hs1.out; have := hsz0.out; simp at this ⊢; omega) ?_; intro v2 w2 hown2 hW2; obtain ⟨q2, r2, rfl⟩ := ownsRow_form hown2; have hX2 : Hid (Ext wx w2) := ((Wrote.ext (B := wx.heap.size) (T := (· = 129)) (hX1.out.alloc _)).trans hW2).toExt))
            | (at_builtin; go_must (refine wpList_append_any _ rfl _ _ 71 rfl wx.heap.size 129 i0 (.agg #[.string ⟨#[]⟩, .bool false, .string ⟨#[]⟩, .int .i64 0]) 4 48 Tryz.underlying71 hi.out hz0 hz1 hz2 rfl (by omega) _ 0 [] rfl (World.ownsRow_nil _ _ _ _) _ k _ (cellsA (l.take k)) rfl (hsh1.out _ (hx0.out.drewN _)) (cellsA_one _) (by unfold maxLen; omega) (by omega) hsz0.out ?_; intro v1 w1 hown1 hW1; rw [Nat.zero_add, List.nil_append] at hown1; obtain ⟨q1, r1, rfl⟩ := ownsRow_form hown1; have hs1 : Hid (wr.heap.size ≤ w1.heap.size) := hW1.size; have hX1 : Hid (Ext wx w1) := ((Wrote.ext (B := wx.heap.size) (T := (· = 129)) (hx.out.drewN _)).trans hW1).toExt; have A1 := ext_heap hX1.out A0.out; obtain ⟨b0, b1, b2, b3⟩ := four_cells A1; replace A1 := hide A1)))
          have hst : StandsG cmpS Attrd.name l a.name k := ⟨hk, hah.out, fun j y hj hy => Int.not_lt.2 (UpG.stands' ordS hup.out hxk.out (Int.not_lt.2 hc.out) j y hj hy)⟩
          have hno := hst.gone ordS hup.out (fun y hy h0 => by rw [hxk.out] at hy; cases hy; exact he.out (cmpS_zero.1 h0))
          obtain ⟨u1, u2⟩ := cut_while (fun y : Attrd => decide (cmpS y.name a.name < 0)) l k hk (fun j y hj hy => by simpa using hst.ahead j y hj hy) (fun j y hj hy => by simpa using hst.behind j y hj hy)
          go_ret2
          refine .inr ⟨fun ⟨y, hy, he⟩ => hno ⟨y, hy, he⟩, _, rfl, ?_, XA.out.trans hX3.out⟩
          rw [u1, u2, show l.length + 1 = k + 1 + (l.length - k) by omega, show cellsA (l.take k ++ a :: l.drop k) = cellsA (l.take k) ++ cA a ++ cellsA (l.drop k) by simp [cellsA]]
          exact ownsRow_low' hown3 (Ext.size XA.out)
    · obtain rfl : k = l.length := by omega
      have hsh1 : Hid (∀ w', Ext w w' → Shows w' pa l.length 4 (cellsA (l.take l.length))) := by
        show ∀ w', _
        intro w' e
        rcases hin.out with h0 | ⟨b, off, rfl, h⟩
        · subst h0; exact shows0 _ _ rfl (by simp [cellsA])
        · exact showsA (h.ext e) (Nat.le_refl _)
      have hx0 := hide (XA.out.trans hx.out)
      have hsz0 := hide (Ext.size hx.out)
      go_wp2_with fail
      go_quiet (fail)
      go_wp2_with fail
      go_quiet (fail)
      go_wp2_with (first
        | (at_builtin; have hA2 := hown2; go_must (refine wpList_append_any _ rfl _ _ 71 rfl wx.heap.size 129 i0 (.agg #[.string ⟨#[]⟩, .bool false, .string ⟨#[]⟩, .int .i64 0]) 4 48 Tryz.underlying71 hi.out hz0 hz1 hz2 rfl (by omega) _ (l.length + 1) _ rfl hown2 _ 0 _ [] rfl (shows0 _ _ rfl rfl) (fun u hu => by cases hu) (by unfold maxLen; omega) (by omega) (Ext.size hX2.out) ?_; intro v3 w3 hown3 hW3; obtain ⟨q3, r3, rfl⟩ := ownsRow_form hown3; have hX3 : Hid (Ext wx w3) := ((Wrote.ext (B := wx.heap.size) (T := (· = 129)) hX2.out).trans hW3).toExt))
        | (at_builtin; have hA1 := hown1; go_must (refine wpList_append_any _ rfl _ _ 71 rfl wx.heap.size 129 i0 (.agg #[.string ⟨#[]⟩, .bool false, .string ⟨#[]⟩, .int .i64 0]) 4 48 Tryz.underlying71 hi.out hz0 hz1 hz2 rfl (by omega) _ l.length _ rfl (hown1.alloc _) (some ⟨w1.heap.size, 0, none⟩) 1 _ (cA a) rfl (showsNew w1 129 (cA a) (n := 4) rfl) (cA_one _) (by unfold maxLen; omega) (by omega) (by have := hs1.out; have := hsz0.out; simp at this ⊢; omega) ?_; intro v2 w2 hown2 hW2; obtain ⟨q2, r2, rfl⟩ := ownsRow_form hown2; have hX2 : Hid (Ext wx w2) := ((Wrote.ext (B := wx.heap.size) (T := (· = 129)) (hX1.out.alloc _)).trans hW2).toExt))
        | (at_builtin; go_must (refine wpList_append_any _ rfl _ _ 71 rfl wx.heap.size 129 i0 (.agg #[.string ⟨#[]⟩, .bool false, .string ⟨#[]⟩, .int .i64 0]) 4 48 Tryz.underlying71 hi.out hz0 hz1 hz2 rfl (by omega) _ 0 [] rfl (World.ownsRow_nil _ _ _ _) _ l.length _ (cellsA (l.take l.length)) rfl (hsh1.out _ (hx0.out.drewN _)) (cellsA_one _) (by unfold maxLen; omega) (by omega) hsz0.out ?_; intro v1 w1 hown1 hW1; rw [Nat.zero_add, List.nil_append] at hown1; obtain ⟨q1, r1, rfl⟩ := ownsRow_form hown1; have hs1 : Hid (wr.heap.size ≤ w1.heap.size) := hW1.size; have hX1 : Hid (Ext wx w1) := ((Wrote.ext (B := wx.heap.size) (T := (· = 129)) (hx.out.drewN _)).trans hW1).toExt; have A1 := ext_heap hX1.out A0.out; obtain ⟨b0, b1, b2, b3⟩ := four_cells A1; replace A1 := hide A1)))
      all_goals
        have hst : StandsG cmpS Attrd.name l a.name l.length := ⟨Nat.le_refl _, hah.out, fun j y hj hy => absurd (List.getElem?_eq_some_iff.1 hy).1 (by omega)⟩
        have hno := hst.gone ordS hup.out (fun y hy _ => absurd (List.getElem?_eq_some_iff.1 hy).1 (by omega))
        obtain ⟨u1, u2⟩ := cut_while (fun y : Attrd => decide (cmpS y.name a.name < 0)) l l.length (Nat.le_refl _) (fun j y hj hy => by simpa using hst.ahead j y hj hy) (fun j y hj hy => by simpa using hst.behind j y hj hy)
        go_ret2
        refine .inr ⟨fun ⟨y, hy, he⟩ => hno ⟨y, hy, he⟩, _, rfl, ?_, XA.out.trans hX3.out⟩
        rw [u1, u2, show cellsA (l.take l.length ++ a :: l.drop l.length) = cellsA (l.take l.length) ++ cA a ++ [] by simp [cellsA]]
        exact ownsRow_low' hown3 (Ext.size XA.out)
end Go.Proofs.YtejhegnlmldomaaGreat
