/-
  A file that is written beside, made to last and renamed: the old one or the new one, whole (plain).
-/
import Derived.Test.YtmgpjbhhlbjahaaDkS
namespace Go.Proofs.Ytmgpjbhhlbjahaa
open Go.RowKit

abbrev nFile : ByteArray := ⟨#[102, 105, 108, 101]⟩
abbrev nOther : ByteArray := ⟨#[111, 116, 104, 101, 114]⟩
/-- However many of the changes stay: the file is there, whole, with bytes of a list. -/
def Good (X : List (List UInt8)) (d : DskS) : Prop := ∀ m, d.last ≤ m → m ≤ d.chs.length → ∃ i x, lookN nFile (playN (d.chs.take m)) = some i ∧ d.files[i]? = some (x, x.length) ∧ x ∈ X
theorem cut_whole (keep : Int) (x : List UInt8) : cutF keep (x, x.length) = (x, x.length) := by
  have h : atMostS keep 0 = 0 := by unfold atMostS; omega
  unfold cutF
  simp only [Nat.sub_self, h, Nat.add_zero, List.take_length]
theorem Good.crash {X : List (List UInt8)} {d : DskS} (h : Good X d) (hl : d.last ≤ d.chs.length) (keep names : Int) : Good X (d.crash keep names) := by
  intro m h1 h2
  have h3 := atMostS_le names (d.chs.length - d.last)
  have e1 : (d.crash keep names).last = d.last + atMostS names (d.chs.length - d.last) := rfl
  have e2 : (d.crash keep names).chs = d.chs.take (d.last + atMostS names (d.chs.length - d.last)) := rfl
  rw [e1] at h1
  rw [e2, List.length_take] at h2
  have hm : m = d.last + atMostS names (d.chs.length - d.last) := by omega
  obtain ⟨i, x, g1, g2, g3⟩ := h m (by omega) (by omega)
  refine ⟨i, x, ?_, ?_, g3⟩
  · rw [e2, ← hm, List.take_take, Nat.min_self]; exact g1
  · show (crashF keep _ d.files)[i]? = _
    rw [crashF_get, g2]
    simp only [Option.map_some]
    split
    · rw [cut_whole]
    · rfl
theorem Good.read {X : List (List UInt8)} {d : DskS} (h : Good X d) (hl : d.last ≤ d.chs.length) : ∃ x ∈ X, d.read nFile = (x, 0) := by
  obtain ⟨i, x, g1, g2, g3⟩ := h d.chs.length hl (Nat.le_refl _)
  rw [List.take_length] at g1
  refine ⟨x, g3, ?_⟩
  unfold DskS.read DskS.find DskS.names
  rw [if_pos (by decide), g1]
  simp [g2]
theorem Good.same {X : List (List UInt8)} {d e : DskS} (h : Good X d) (h1 : e.files = d.files) (h2 : e.chs = d.chs) (h3 : e.last = d.last) : Good X e := by
  intro m a b
  rw [h3] at a
  rw [h2] at b ⊢
  rw [h1]
  exact h m a b

/-- The states, one behind the other. -/
def sw0 (o : List UInt8) (due : Nat) (kp st : Int) : DskS := ⟨20000, [(o, o.length)], [.wr nFile 0], 1, due, kp, st⟩
def sw1 (o a : List UInt8) (due : Nat) (kp st : Int) : DskS := ⟨20000, [(o, o.length), (a, 0)], [.wr nFile 0, .wr nOther 1], 1, due, kp, st⟩
def sw2 (o a : List UInt8) (due : Nat) (kp st : Int) : DskS := ⟨20000, [(o, o.length), (a, a.length)], [.wr nFile 0, .wr nOther 1], 1, due, kp, st⟩
def sw3 (o a : List UInt8) (due : Nat) (kp st : Int) : DskS := ⟨20000, [(o, o.length), (a, a.length)], [.wr nFile 0, .wr nOther 1, .rn nOther nFile 1], 1, due, kp, st⟩
def sw4 (o a : List UInt8) (due : Nat) (kp st : Int) : DskS := ⟨20000, [(o, o.length), (a, a.length)], [.wr nFile 0, .wr nOther 1, .rn nOther nFile 1], 3, due, kp, st⟩
theorem ne_names : nFile ≠ nOther := by decide
theorem play1 : playN [.wr nFile 0] = [(nFile, 0)] := by simp [playN, stepN, dropN, dropK]
theorem play2 : playN [.wr nFile 0, .wr nOther 1] = [(nFile, 0), (nOther, 1)] := by
  rw [show [ChgS.wr nFile 0, .wr nOther 1] = [.wr nFile 0] ++ [.wr nOther 1] from rfl, play_snoc, play1]
  simp only [stepN]
  rw [show dropN nOther [(nFile, 0)] = [(nFile, 0)] from dropK_self (by rintro ⟨x, hx, e⟩; simp at hx; subst hx; exact ne_names e)]
  rfl
theorem play3 : playN [.wr nFile 0, .wr nOther 1, .rn nOther nFile 1] = [(nFile, 1)] := by
  rw [show [ChgS.wr nFile 0, .wr nOther 1, .rn nOther nFile 1] = [.wr nFile 0, .wr nOther 1] ++ [.rn nOther nFile 1] from rfl, play_snoc, play2]
  simp only [stepN]
  have e : dropN nFile (dropN nOther [(nFile, 0), (nOther, 1)]) = [] := by
    apply List.eq_nil_iff_forall_not_mem.2
    intro x hx
    have h1 := dropK_mem.1 hx
    have h2 := dropK_mem.1 h1.1
    have h3 : x = (nFile, 0) ∨ x = (nOther, 1) := by simpa using h2.1
    rcases h3 with rfl | rfl
    · exact h1.2 rfl
    · exact h2.2 rfl
  rw [e]; rfl
theorem look_first (a : ByteArray) (i : Nat) (l : List NmS) : lookN a ((a, i) :: l) = some i := by simp [lookN, lookK]
theorem look_second {a b : ByteArray} (h : a ≠ b) (i j : Nat) (l : List NmS) : lookN b ((a, i) :: (b, j) :: l) = some j := by simp [lookN, lookK, h]
theorem good1 (o a : List UInt8) (due : Nat) (kp st : Int) : Good [o, a] (sw1 o a due kp st) := by
  intro m h1 h2
  have : m = 1 ∨ m = 2 := by simp [sw1] at h1 h2; omega
  rcases this with rfl | rfl
  · exact ⟨0, o, by show lookN nFile (playN [.wr nFile 0]) = _; rw [play1]; exact look_first _ _ _, rfl, by simp⟩
  · exact ⟨0, o, by show lookN nFile (playN [.wr nFile 0, .wr nOther 1]) = _; rw [play2]; exact look_first _ _ _, rfl, by simp⟩
theorem good3 (o a : List UInt8) (due : Nat) (kp st : Int) : Good [o, a] (sw3 o a due kp st) := by
  intro m h1 h2
  have : m = 1 ∨ m = 2 ∨ m = 3 := by simp [sw3] at h1 h2; omega
  rcases this with rfl | rfl | rfl
  · exact ⟨0, o, by show lookN nFile (playN [.wr nFile 0]) = _; rw [play1]; exact look_first _ _ _, rfl, by simp⟩
  · exact ⟨0, o, by show lookN nFile (playN [.wr nFile 0, .wr nOther 1]) = _; rw [play2]; exact look_first _ _ _, rfl, by simp⟩
  · exact ⟨1, a, by show lookN nFile (playN [.wr nFile 0, .wr nOther 1, .rn nOther nFile 1]) = _; rw [play3]; exact look_first _ _ _, rfl, by simp⟩
theorem good4 (o a : List UInt8) (due : Nat) (kp st : Int) : Good [a] (sw4 o a due kp st) := by
  intro m h1 h2
  obtain rfl : m = 3 := by simp [sw4] at h1 h2; omega
  exact ⟨1, a, by show lookN nFile (playN [.wr nFile 0, .wr nOther 1, .rn nOther nFile 1]) = _; rw [play3]; exact look_first _ _ _, rfl, by simp⟩
theorem find_of {d : DskS} {name : ByteArray} {i : Nat} (hw : wordB name.data.toList = true) (hl : lookN name d.names = some i) : d.find name = .inl i := by
  unfold DskS.find
  rw [if_pos hw, hl]
theorem ba_length (s : ByteArray) : s.data.toList.length = s.size := Array.length_toList
/-- The first three acts. -/
theorem swWrite (o : ByteArray) (h : o.size ≤ 2000) : (DskS.new 20000).write nFile o = (⟨20000, [(o.data.toList, 0)], [.wr nFile 0], 0, 0, 0, 0⟩, 0) := by
  unfold DskS.write DskS.act DskS.write1
  rw [if_neg (by decide), if_pos (by decide), if_neg (by simp [DskS.new, DskS.begin, DskS.names, playN, dropN, dropK, usedN]; omega)]
  rfl
theorem swSync (o : List UInt8) : (⟨20000, [(o, 0)], [.wr nFile 0], 0, 0, 0, 0⟩ : DskS).sync nFile = (⟨20000, [(o, o.length)], [.wr nFile 0], 0, 0, 0, 0⟩, 0) := by
  unfold DskS.sync DskS.syncAct DskS.sync1
  rw [if_neg (show ¬ 0 = 1 by decide)]
  have e : DskS.find (DskS.begin ⟨20000, [(o, 0)], [.wr nFile 0], 0, 0, 0, 0⟩) nFile = .inl 0 := find_of (by decide) (by show lookN nFile (playN [.wr nFile 0]) = _; rw [play1]; exact look_first _ _ _)
  rw [e]; rfl
theorem swNames (o : List UInt8) : (⟨20000, [(o, o.length)], [.wr nFile 0], 0, 0, 0, 0⟩ : DskS).syncN = (sw0 o 0 0 0, 0) := by
  unfold DskS.syncN DskS.syncAct
  rw [if_neg (show ¬ 0 = 1 by decide)]; rfl
theorem swBreak (o : List UInt8) (n : Nat) (kp st : Int) : (sw0 o 0 0 0).break (n : Int) kp st = (sw0 o n kp st, 0) := by
  unfold DskS.break
  rw [if_neg (by omega), Int.toNat_natCast]; rfl
/-- The four acts, where one breaks off and where none does. -/
theorem step1 (o : List UInt8) (a : ByteArray) (ho : o.length ≤ 2000) (ha : a.size ≤ 2000) (due : Nat) (kp st : Int) : (sw0 o due kp st).write nOther a = if due = 1 then ((sw1 o a.data.toList 0 kp st).crash kp st, 14) else (sw1 o a.data.toList (due - 1) kp st, 0) := by
  have e : ∀ due, DskS.write1 nOther a (sw0 o due kp st) = (sw1 o a.data.toList due kp st, 0) := fun due => by
    unfold DskS.write1 DskS.names
    rw [if_pos (by decide), if_neg ?_]
    · rfl
    · show ¬ 20000 < usedN [(o, o.length)] (dropN nOther (playN [.wr nFile 0])) + a.size
      rw [play1, show dropN nOther [(nFile, 0)] = [(nFile, 0)] from dropK_self (by rintro ⟨x, hx, e⟩; simp at hx; subst hx; exact ne_names e)]
      simp [usedN, sizeF]
      omega
  unfold DskS.write DskS.act
  have eb : (sw0 o due kp st).begin = sw0 o (due - 1) kp st := rfl
  rw [eb, e]
  show (if due = 1 then _ else _) = _
  by_cases hd : due = 1
  · subst hd; rw [if_pos rfl, if_pos rfl]; rfl
  · rw [if_neg hd, if_neg hd]
theorem step2 (o a : List UInt8) (due : Nat) (kp st : Int) : (sw1 o a due kp st).sync nOther = if due = 1 then ((sw1 o a 0 kp st).crash kp st, 14) else (sw2 o a (due - 1) kp st, 0) := by
  have e : ∀ due, DskS.sync1 nOther (sw1 o a due kp st) = (sw2 o a due kp st, 0) := fun due => by
    unfold DskS.sync1
    have ef : DskS.find (sw1 o a due kp st) nOther = .inl 1 := find_of (by decide) (by show lookN nOther (playN [.wr nFile 0, .wr nOther 1]) = _; rw [play2]; exact look_second ne_names _ _ _)
    rw [ef]; rfl
  unfold DskS.sync DskS.syncAct
  have eb : (sw1 o a due kp st).begin = sw1 o a (due - 1) kp st := rfl
  rw [eb, e]
  show (if due = 1 then _ else _) = _
  by_cases hd : due = 1
  · subst hd; rw [if_pos rfl, if_pos rfl]; rfl
  · rw [if_neg hd, if_neg hd]
theorem step3 (o a : List UInt8) (due : Nat) (kp st : Int) : (sw2 o a due kp st).rename nOther nFile = if due = 1 then ((sw3 o a 0 kp st).crash kp st, 14) else (sw3 o a (due - 1) kp st, 0) := by
  have e : ∀ due, DskS.rename1 nOther nFile (sw2 o a due kp st) = (sw3 o a due kp st, 0) := fun due => by
    unfold DskS.rename1
    have ef : DskS.find (sw2 o a due kp st) nOther = .inl 1 := find_of (by decide) (by show lookN nOther (playN [.wr nFile 0, .wr nOther 1]) = _; rw [play2]; exact look_second ne_names _ _ _)
    rw [if_pos (by decide), ef]; rfl
  unfold DskS.rename DskS.act
  have eb : (sw2 o a due kp st).begin = sw2 o a (due - 1) kp st := rfl
  rw [eb, e]
  show (if due = 1 then _ else _) = _
  by_cases hd : due = 1
  · subst hd; rw [if_pos rfl, if_pos rfl]; rfl
  · rw [if_neg hd, if_neg hd]
theorem step4 (o a : List UInt8) (due : Nat) (kp st : Int) : (sw3 o a due kp st).syncN = if due = 1 then ((sw3 o a 0 kp st).crash kp st, 14) else (sw4 o a (due - 1) kp st, 0) := by
  unfold DskS.syncN DskS.syncAct
  show (if due = 1 then _ else _) = _
  by_cases hd : due = 1
  · subst hd; rw [if_pos rfl, if_pos rfl]; rfl
  · rw [if_neg hd, if_neg hd]; rfl
end Go.Proofs.Ytmgpjbhhlbjahaa
