/-
  A row is taken out of a table of files.
-/
import Derived.Test.YtmgpjbhhlbjahaaPutF
import Derived.Test.YtmgpjbhhlbjahaaDelG
namespace Go.Proofs.Ytmgpjbhhlbjahaa
open Go.RowKit

/-- What is left when a row was taken out. -/
def ShrunkF (w : World) (g n c i : Nat) (xs : List Value) (e : Ending) (w' : World) : Prop :=
  ∃ row : Array Value, e = .returned (.slice (some ⟨g, 0, none⟩) n c) ∧ w'.heap[g]? = some (.cells row 74 (0, 0)) ∧ row.size = c * 2 ∧ row.toList.take (n * 2) = xs.take (i * 2) ++ xs.drop ((i + 1) * 2) ∧ Kept (· = g) w w'

set_option maxRecDepth 100000 in
set_option maxHeartbeats 3200000 in
theorem delF (g n c i : Nat) (cur : Array Value) (xs : List Value) (w : World) (hi : i < n + 1) (hnc : n + 1 ≤ c) (hc : c ≤ 9223372036854775807)
    (hg : w.heap[g]? = some (.cells cur 74 (0, 0))) (hcs : cur.size = c * 2) (hxs : cur.toList.take ((n + 1) * 2) = xs) (h1 : ∀ v ∈ xs, v.oneCell' = true) :
    Calls Try.prog 56 #[.slice (some ⟨g, 0, none⟩) (n + 1) c, .int .i64 i, .int .i64 ((i : Int) + 1)] w (ShrunkF w g n c i xs) := by
  obtain ⟨i0, hi0, hz0, hz1, hz2⟩ := info_of infoRowF
  have hlx : xs.length = (n + 1) * 2 := by rw [← hxs]; simp; omega
  obtain ⟨news, hnews⟩ : ∃ news, news = xs.drop ((i + 1) * 2) := ⟨_, rfl⟩
  have hnl : news.length = (n - i) * 2 := by rw [hnews, List.length_drop, hlx]; omega
  obtain ⟨W1, hW1⟩ : ∃ W1, W1 = w.drew.setCells g (i * 2) news := ⟨_, rfl⟩
  have hg' : w.drew.heap[g]? = some (.cells cur 74 (0, 0)) := hg
  have hr1 := setCells_row g 74 (0, 0) news (i * 2) cur w.drew hg' (by rw [hcs, hnl]; omega)
  rw [← hW1] at hr1
  obtain ⟨r1, hr1e⟩ : ∃ r1 : Array Value, r1 = (cur.toList.take (i * 2) ++ news ++ cur.toList.drop (i * 2 + news.length)).toArray := ⟨_, rfl⟩
  rw [← hr1e] at hr1
  have hs1 : r1.size = c * 2 := by rw [hr1e]; simp; omega
  have hK1 : Kept (· = g) w W1 := by rw [hW1]; exact ((Ext.refl w).drew.kept _).trans (setCells_kept g news _ w.drew) (fun _ _ h => h)
  have hcell : ∀ j v, xs[j]? = some v → w.drew.cell? ⟨g, j, none⟩ = some v := fun j v hj => by
    rw [← hxs, List.getElem?_take] at hj
    split at hj
    · simp only [World.cell?, hg']; simpa using hj
    · cases hj
  have happ : ∀ ty (ad : Addr) m k, m = n - i → (m ≠ 0 → ad = ⟨g, (i + 1) * 2, none⟩) → (Builtin.append_ #[70, 70] ty #[.slice (some ⟨g, 0, none⟩) i c, .slice (some ad) m k]).run Try.prog w.drew = .ok (.slice (some ⟨g, 0, none⟩) n c) W1 := by
    rintro ty ad m k rfl hm
    by_cases h0 : n - i = 0
    · have hn0 : news = [] := List.eq_nil_of_length_eq_zero (by rw [hnl, h0])
      have hin : i = n := by omega
      rw [h0, hW1, hn0]
      subst hin
      exact run_append_nothing w.drew 70 70 ty 74 i0 Try.underlying70 hi0 _ i c (by omega) _ (Src.ofSlice w.drew Try.underlying70 ad 0 k [] (by simp) (fun j u hu => by simp at hu) (fun u hu => by cases hu))
    · rw [hm h0]
      have := run_append_room_cells (P := Try.prog) w.drew 70 ty 74 i0 Try.underlying70 hi0 g 0 i c ⟨g, (i + 1) * 2, none⟩ (n - i) k news (by rw [hz1]; exact hnl) (fun j u hu => by
        rw [add_eq]
        rw [hnews, List.getElem?_drop] at hu
        exact hcell _ _ hu) (fun u hu => h1 u (by rw [hnews] at hu; exact List.mem_of_mem_drop hu)) (by omega) (fun j hj => by
        rw [hz1]
        simp only [World.cell?, hg']
        simp
        rw [hnl] at hj
        omega) (fun j hj => row_frozen hg' _)
      rw [this, hz1, hW1, Nat.zero_add]
      congr 2
      omega
  obtain ⟨zc, hzc⟩ : ∃ zc : List Value, zc = [.string ⟨#[]⟩, .pointer none] := ⟨_, rfl⟩
  have hclr : ∀ W : World, W.heap = W1.heap → ∀ ty k, (Builtin.clear_ #[70] ty #[.slice (some ⟨g, n * 2, none⟩) 1 k]).run Try.prog W = .ok (.tuple #[]) (W.setCells g (n * 2) zc) := fun W hW ty k => by
    have hgW : W.heap[g]? = some (.cells r1 74 (0, 0)) := by rw [hW]; exact hr1
    rw [hzc]
    exact run_clear_one (P := Try.prog) W 70 74 ty (.agg #[.string ⟨#[]⟩, .pointer none]) Try.underlying70 (fun w => by simp [zeroValue, typeInfo, hi0, hz0]) (by simp [Value.cells]; decide) g (n * 2) k (fun j hj => by
      simp only [World.cell?, hgW]
      simp [Value.cells] at hj ⊢
      omega) (fun j hj => row_frozen hgW _)
  have hfin : ∀ W : World, W.heap = W1.heap → W.os = W1.os → W.tape = W1.tape → W.output = W1.output → ShrunkF w g n c i xs (.returned (.slice (some ⟨g, 0, none⟩) n c)) (W.setCells g (n * 2) zc) := fun W e1 e2 e3 e4 => by
    have hgW : W.heap[g]? = some (.cells r1 74 (0, 0)) := by rw [e1]; exact hr1
    have hzl : zc.length = 2 := by rw [hzc]; rfl
    have h2 := setCells_row g 74 (0, 0) zc (n * 2) r1 W hgW (by rw [hs1, hzl]; omega)
    have hKW : Kept (· = g) w W := ⟨e2.trans hK1.os, e3.trans hK1.tape, e4.trans hK1.output, by rw [e1]; exact hK1.size, fun k hk hn => by rw [e1]; exact hK1.block k hk hn⟩
    refine ⟨_, rfl, h2, by simp [hzl, hs1]; omega, ?_, hKW.trans (setCells_kept g zc _ W) (fun _ _ h => h)⟩
    have e5 : (r1.toList.take (n * 2)) = xs.take (i * 2) ++ news := by
      rw [hr1e]
      simp only
      have e6 : cur.toList.take (i * 2) = xs.take (i * 2) := by
        rw [← hxs, List.take_take]; congr 1; omega
      rw [e6]
      exact List.take_left' (by rw [List.length_append, List.length_take, hlx, hnl]; omega)
    simp only
    rw [List.append_assoc, List.take_left' (by rw [List.length_take, Array.length_toList, hs1]; omega), e5, hnews]
  have i2 : (i : Int) ≤ (i : Int) + 1 := by omega
  have i3 : (i : Int) + 1 ≤ (n : Int) + 1 := by omega
  have i4 : ((i : Int) == (i : Int) + 1) = false := by simp; omega
  have i5 : (0 : Int) ≤ (i : Int) := by omega
  have i6 : (n : Int) + 1 ≤ (c : Int) := by omega
  have i7 : (i : Int) ≤ (c : Int) := by omega
  have i8 : (0 : Int) ≤ (i : Int) + 1 := by omega
  have i9 : ((i : Int) + 1).toNat = i + 1 := by omega
  have mixed : Try.prog.follows Departure.mixedOrders = true := by kernel_rfl
  have hcn : ¬ (c = n) := by omega
  clear hr1 hW1 hs1 hK1 hcell hz0 hz1 hz2 hi0 hlx hnl hnews hr1e hzc
  replace hg := hide hg; replace hcs := hide hcs; replace hxs := hide hxs; replace hg' := hide hg'
  go_enter Try.func56, Try.ntmps56
  go_wp2_with fail
  by_cases hb2 : c = i + 1
  · obtain rfl : n = i := by omega
    subst hb2
    go_region_law_o (refine step_append_run rfl _ _ 70 70 rfl (.slice (some ⟨g, 0, none⟩) n (n + 1)) (.slice (some ⟨g, 0, none⟩) 0 0) (by simp [Act.eval, Act.put]) (by simp [Act.eval, Act.put]) _ _ (happ _ ⟨g, 0, none⟩ 0 0 (by omega) (fun h => absurd rfl h)) ?_)
    go_wp2_with (at_builtin; refine wpList_clear_run _ rfl _ 70 rfl (.slice (some ⟨g, n * 2, none⟩) 1 _) rfl _ _ (hclr _ rfl _ _) ?_)
    go_ret
    exact hfin _ rfl rfl rfl rfl
  · go_region_law_o (refine step_append_run rfl _ _ 70 70 rfl (.slice (some ⟨g, 0, none⟩) i c) (.slice (some ⟨g, (i + 1) * 2, none⟩) (n - i) (c - (i + 1))) (by simp [Act.eval, Act.put]) (by simp [Act.eval, Act.put]) _ _ (happ _ _ _ _ rfl (fun _ => rfl)) ?_)
    go_wp2_with (at_builtin; refine wpList_clear_run _ rfl _ 70 rfl (.slice (some ⟨g, n * 2, none⟩) 1 _) rfl _ _ (hclr _ rfl _ _) ?_)
    go_ret
    exact hfin _ rfl rfl rfl rfl
end Go.Proofs.Ytmgpjbhhlbjahaa
