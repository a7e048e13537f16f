/-
  A file in memory: its bytes in a row of its own, and how many of them last.
-/
import Derived.Test.YtpkhmgonkbpjjaaCopyF
namespace Go.Proofs.Ytpkhmgonkbpjjaa
open Go.RowKit

attribute [local go_sem] Go.World.cell?_alloc_some
/-- A file lies in memory. -/
def FileAt (w : World) (b g : Nat) (f : FileS) : Prop := ∃ cap : Nat, w.heap[b]? = some (.cells #[.slice (some ⟨g, 0, none⟩) f.1.length cap, .int .i64 (f.2 : Int)] 113 (0, 0)) ∧ OwnX w 0 5 1 (.slice (some ⟨g, 0, none⟩) f.1.length cap) f.1.length (cellsB f.1)
theorem OwnX.kept {D : Nat → Prop} {w w' : World} {base : Nat} {e : TypeId} {size : Nat} {v : Value} {n : Nat} {xs : List Value} (h : OwnX w base e size v n xs) (k : Kept D w w') (hd : ∀ g, v.ownBlock = some g → ¬ D g) : OwnX w' base e size v n xs := by
  refine ⟨h.1, ?_⟩
  rcases h.2 with h | ⟨g, cap, cur, fz, rfl, h2, h3, h4⟩
  · exact .inl h
  · exact .inr ⟨g, cap, cur, fz, rfl, h2, k.heap h3 (hd g rfl), h4⟩
theorem FileAt.kept {D : Nat → Prop} {w w' : World} {b g : Nat} {f : FileS} (h : FileAt w b g f) (k : Kept D w w') (h1 : ¬ D b) (h2 : ¬ D g) : FileAt w' b g f := by
  obtain ⟨cap, h3, h4⟩ := h
  exact ⟨cap, k.heap h3 h1, h4.kept k fun g' hg => by obtain rfl : g = g' := by simpa [Value.ownBlock] using hg
                                                      exact h2⟩
theorem FileAt.ext {w w' : World} {b g : Nat} {f : FileS} (h : FileAt w b g f) (e : Ext w w') : FileAt w' b g f := h.kept (e.kept fun _ => False) id id
theorem FileAt.wrote {B : Nat} {T : TypeId → Prop} {w w' : World} {b g : Nat} {f : FileS} (h : FileAt w b g f) (k : Wrote B T w w') (h1 : ¬ T 113) (h2 : ¬ T 5) : FileAt w' b g f := by
  obtain ⟨cap, h3, h4⟩ := h
  exact ⟨cap, k.keeps h3 h1, h4.wrote k h2⟩
theorem FileAt.cells {w : World} {b g : Nat} {f : FileS} (h : FileAt w b g f) : ∃ (c : Array Value) (fz : Nat × Nat), w.heap[g]? = some (.cells c 5 fz) := by
  obtain ⟨cap, h3, h4⟩ := h
  rcases h4.2 with ⟨h, _⟩ | ⟨g', cap', cur, fz, h5, _, h6, _⟩
  · cases h
  · obtain rfl : g = g' := by simp at h5; exact h5.1
    exact ⟨cur, fz, h6⟩
theorem tells {w : World} {a b : Nat} {c c' : Array Value} {t t' : TypeId} {fz fz' : Nat × Nat} (ha : w.heap[a]? = some (.cells c t fz)) (hb : w.heap[b]? = some (.cells c' t' fz')) (h : t ≠ t') : a ≠ b := by
  rintro rfl
  rw [ha] at hb
  simp only [Option.some.injEq, Obj.cells.injEq] at hb
  exact h hb.2.1
theorem FileAt.lt {w : World} {b g : Nat} {f : FileS} (h : FileAt w b g f) : b < w.heap.size ∧ g < w.heap.size ∧ b ≠ g := by
  obtain ⟨c, fz, h6⟩ := h.cells
  obtain ⟨cap, h3, h4⟩ := h
  exact ⟨(Array.getElem?_eq_some_iff.1 h3).1, (Array.getElem?_eq_some_iff.1 h6).1, tells h3 h6 (by decide)⟩
theorem OwnX.cut {w : World} {g n cap m : Nat} {l : List UInt8} (h : OwnX w 0 5 1 (.slice (some ⟨g, 0, none⟩) n cap) n (cellsB l)) (hm : m ≤ n) : OwnX w 0 5 1 (.slice (some ⟨g, 0, none⟩) m cap) m (cellsB (l.take m)) := by
  have hl := h.1
  rw [cellsB_length, Nat.mul_one] at hl
  refine ⟨by rw [cellsB_length, List.length_take, Nat.mul_one]; omega, .inr ?_⟩
  rcases h.2 with ⟨h, _⟩ | ⟨g', cap', cur, fz, h5, h6, h7, h8, h9, h10, h11, h12⟩
  · cases h
  · simp at h5
    obtain ⟨rfl, rfl⟩ := h5
    refine ⟨g, cap, cur, fz, rfl, h6, h7, h8, by omega, h10, h11, ?_⟩
    rw [show cellsB (l.take m) = (cellsB l).take m by simp [cellsB], ← h12, List.take_take]
    congr 1
    omega
theorem OwnX.cap {w : World} {g n cap : Nat} {xs : List Value} (h : OwnX w 0 5 1 (.slice (some ⟨g, 0, none⟩) n cap) n xs) : n ≤ cap ∧ cap ≤ 9223372036854775807 := by
  rcases h.2 with ⟨h, _⟩ | ⟨g', cap', cur, fz, h5, h6, h7, h8, h9, h10, _⟩
  · cases h
  · simp at h5
    obtain ⟨rfl, rfl⟩ := h5
    unfold maxLen at h10
    exact ⟨h9, by omega⟩

theorem two_sets {w : World} {k : Nat} {a b : Value} {t : TypeId} {fz : Nat × Nat} (hk : w.heap[k]? = some (.cells #[a, b] t fz)) (u v : Value) : ((w.setCell ⟨k, 0, none⟩ u).setCell ⟨k, 1, none⟩ v).heap[k]? = some (.cells #[u, v] t fz) := by
  simp [World.setCell, Array.getElem?_modify, hk]
theorem maxMin (k : Int) (n : Nat) : min (max k 0) (n : Int) = (atMostS k n : Int) := by unfold atMostS; omega
set_option maxRecDepth 100000 in
theorem atMostP (k : Int) (n : Nat) (w : World) : Calls Try.prog 62 #[.int .i64 k, .int .i64 (n : Int)] w fun e w' => e = .returned (.int .i64 (atMostS k n : Int)) ∧ w' = w := by
  have h := maxMin k n
  go_enter Try.func62, Try.ntmps62
  go_wp2_with fail
  go_ret
  exact ⟨rfl, rfl⟩

set_option maxRecDepth 100000 in
theorem sizeNil (w : World) : Calls Try.prog 74 #[.pointer none] w fun e w' => e = .returned (.int .i64 0) ∧ w' = w := by
  go_enter Try.func74, Try.ntmps74
  go_wp2_with fail
  go_ret
  exact ⟨rfl, rfl⟩
set_option maxRecDepth 100000 in
theorem sizeP (b g : Nat) (f : FileS) (w : World) (h : FileAt w b g f) : Calls Try.prog 74 #[.pointer (some ⟨b, 0, none⟩)] w fun e w' => e = .returned (.int .i64 (f.1.length : Int)) ∧ w' = w := by
  obtain ⟨cap, h3, h4⟩ := h
  have c0 := tabF_c0 h3
  replace h3 := hide h3; replace h4 := hide h4
  go_enter Try.func74, Try.ntmps74
  go_wp2_with fail
  go_ret
  exact ⟨rfl, rfl⟩
set_option maxRecDepth 100000 in
theorem newFileP (s : ByteArray) (w : World) (hs : s.size ≤ maxLen) : Calls Try.prog 76 #[.string s] w fun e w' => ∃ b g, e = .returned (.pointer (some ⟨b, 0, none⟩)) ∧ Hid (FileAt w' b g (s.data.toList, 0)) ∧ Hid (w.heap.size ≤ b ∧ w.heap.size ≤ g) ∧ Hid (Ext w w') := by
  have hcv := Lib.run_convert_string_bytes (P := Try.prog) w 9 111 5 s Try.underlying9 Try.underlying111 Try.underlying5
  have hx := hide (ownX_bytes w 5 s hs)
  have X7 := Ext.bytes w 5 s
  have hl : s.data.toList.length = s.size := Array.length_toList
  generalize Lib.bytesWorld w 5 s = w7 at *
  generalize grownCap w s.size 0 5 = cb at *
  replace X7 := hide X7; replace hl := hide hl
  go_enter Try.func76, Try.ntmps76
  go_wp2_with fail
  go_ret
  have E8 := (Ext.refl w7).alloc (.cells #[.slice (some ⟨w.heap.size, 0, none⟩) s.size cb, .int .i64 0] 113)
  refine ⟨w7.heap.size, w.heap.size, rfl, ⟨cb, ?_, ?_⟩, ⟨Ext.size X7.out, Nat.le_refl _⟩, X7.out.trans E8⟩
  · rw [hl.out]; exact heap_alloc_new w7 _
  · rw [hl.out]
    have := hx.out.ext E8
    refine ⟨this.1, this.2.imp id ?_⟩
    rintro ⟨g, cap, cur, fz, h1, h2, h3⟩
    exact ⟨g, cap, cur, fz, h1, Nat.zero_le _, h3⟩
set_option maxRecDepth 100000 in
theorem settleP (b g : Nat) (f : FileS) (m : Nat) (w : World) (h : FileAt w b g f) (hm : m ≤ f.1.length) : Calls Try.prog 80 #[.pointer (some ⟨b, 0, none⟩), .int .i64 (m : Int)] w fun e w' => e = .returned (.tuple #[]) ∧ Hid (FileAt w' b g (f.1.take m, m)) ∧ Hid (Kept (· = b) w w') := by
  have hlt := h.lt
  obtain ⟨cap, h3, h4⟩ := h
  obtain ⟨k1, k2⟩ := h4.cap
  have c0 := tabF_c0 h3
  have c1 := tabF_c1 h3
  have f1 := row_frozen h3
  have m1 : (m : Int) ≤ (cap : Int) := by omega
  have m2 : (0 : Int) ≤ (m : Int) := by omega
  have m3 : ((m : Int)).toNat = m := by omega
  replace h3 := hide h3; replace h4 := hide h4; replace hm := hide hm; replace hlt := hide hlt
  go_enter Try.func80, Try.ntmps80
  go_wp2_with fail
  refine ⟨rfl, .tuple #[], by simp [results, Try.results80], rfl, ⟨cap, ?_, ?_⟩, (kept_setCell w ⟨b, 0, none⟩ _).trans (kept_setCell _ ⟨b, 1, none⟩ _) (fun _ _ h => h)⟩
  · rw [show (f.1.take m).length = m by rw [List.length_take]; have := hm.out; omega]
    exact two_sets h3.out _ _
  · rw [show (f.1.take m).length = m by rw [List.length_take]; have := hm.out; omega]
    exact (h4.out.cut hm.out).kept ((kept_setCell w ⟨b, 0, none⟩ _).trans (kept_setCell _ ⟨b, 1, none⟩ _) (fun _ _ h => h)) fun g' hg => by
      obtain rfl : g = g' := by simpa [Value.ownBlock] using hg
      exact fun e => hlt.out.2.2 e.symm
theorem cutF_is (keep : Int) (f : FileS) : cutF keep f = (f.1.take (f.2 + atMostS keep (f.1.length - f.2)), f.2 + atMostS keep (f.1.length - f.2)) := rfl
set_option maxRecDepth 100000 in
set_option maxHeartbeats 800000 in
theorem fileCrash (b g : Nat) (f : FileS) (keep : Int) (w : World) (h : FileAt w b g f) (hl : f.2 ≤ f.1.length) (hm : f.1.length ≤ 2000000000000) : Calls Try.prog 64 #[.pointer (some ⟨b, 0, none⟩), .int .i64 keep] w fun e w' => e = .returned (.tuple #[]) ∧ Hid (FileAt w' b g (cutF keep f)) ∧ Hid (Kept (· = b) w w') := by
  obtain ⟨n, hn⟩ : ∃ n, n = f.1.length - f.2 := ⟨_, rfl⟩
  have hat := atMostS_le keep n
  have e1 : IntKind.i64.wrap ((f.1.length : Int) - (f.2 : Int)) = (n : Int) := by rw [IntKind.wrap_i64]; omega
  obtain ⟨m, hm2⟩ : ∃ m, m = f.2 + atMostS keep n := ⟨_, rfl⟩
  have e2 : IntKind.i64.wrap ((f.2 : Int) + (atMostS keep n : Int)) = (m : Int) := by rw [IntKind.wrap_i64]; omega
  have hmf : m ≤ f.1.length := by omega
  have c1 := tabF_c1 h.choose_spec.1
  replace h := hide h; replace hn := hide hn; replace hat := hide hat; replace hm2 := hide hm2; replace hmf := hide hmf; replace hl := hide hl
  go_enter Try.func64, Try.ntmps64
  go_wp2_with fail
  go_region_with ((first
      | (go_at_call 74; refine (sizeP b g f _ (h.out.ext (Ext.refl w).drew)).mono ?_; rintro e w1 ⟨rfl, rfl⟩)
      | (go_at_call 62; refine (atMostP keep n _).mono ?_; rintro e w1 ⟨rfl, rfl⟩)
      | (go_at_call 80; refine (settleP b g f m _ (h.out.ext (Ext.refl w).drew) hmf.out).mono ?_; rintro e w1 ⟨rfl, hf1, hk1⟩)))
  all_goals
    refine ⟨rfl, .tuple #[], by simp [results, Try.results64], rfl, ?_, ((Ext.refl w).drew.kept _).trans hk1.out (fun _ _ h => h)⟩
    show FileAt _ _ _ _
    rw [cutF_is, ← hn.out, ← hm2.out]; exact hf1.out
end Go.Proofs.Ytpkhmgonkbpjjaa
