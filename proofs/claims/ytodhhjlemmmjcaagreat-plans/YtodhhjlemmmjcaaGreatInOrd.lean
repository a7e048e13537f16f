/-
  inOrder: again and again the step of the least ID that may be next.
-/
import Derived.Test.YtodhhjlemmmjcaaGreatOrdP
namespace Go.Proofs.YtodhhjlemmmjcaaGreat
open Go.RowKit

attribute [local go_sem] Go.World.cell?_alloc_some
theorem ApartC.symm {p q : ResC} (h : ApartC p q) : ApartC q p := ⟨fun g h1 h2 => h.1 g h2 h1, fun g h1 h2 => h.2 g h2 h1⟩
theorem ApartC.far {B w0 : Nat} {w w' : World} {p q : ResC} (hp : OwnR B w p.c2 p.c3 p.x) (hq : OwnR w0 w' q.c2 q.c3 q.x) (hw : w.heap.size ≤ w0) : ApartC p q := by
  constructor
  · intro g hg hg'
    have k1 := (hp.attrs.lt g hg).2
    have k2 := (hq.attrs.lt g hg').1
    omega
  · intro g hg hg'
    have k1 := (hp.after.lt g hg).2
    have k2 := (hq.after.lt g hg').1
    omega
theorem apart_move {dn td : List StepC} {i : Nat} {s : StepC} (hs : td[i]? = some s) (h : (dn ++ td).Pairwise fun p q => ApartC p.r q.r) : ((dn ++ [s]) ++ td.eraseIdx i).Pairwise fun p q => ApartC p.r q.r := by
  obtain ⟨hi, rfl⟩ := List.getElem?_eq_some_iff.1 hs
  refine (List.Perm.pairwise_iff (fun h => h.symm) ?_).1 h
  rw [List.append_assoc]
  refine List.Perm.append_left dn ?_
  rw [eraseIdx_td]
  have h1 : td = td.take i ++ td[i] :: td.drop (i + 1) := by rw [List.getElem_cons_drop, List.take_append_drop]
  have h2 : (td.take i ++ td[i] :: td.drop (i + 1)).Perm (td[i] :: (td.take i ++ td.drop (i + 1))) := List.perm_middle
  rw [← h1] at h2
  exact h2
theorem ids_of (ss : List StepC) : (ss.map rowS).map RowSt.key = ss.map fun s => s.r.x.id := by simp [rowS, Function.comp_def]
theorem ord_step {may : List StepD → StepD → Prop} {ss dn td : List StepC} {i : Nat} {s : StepC} (hs : td[i]? = some s) (hm : may (td.map StepC.d) s.d) (hn : ∀ (j : Nat) c, j < i → td[j]? = some c → ¬ may (td.map StepC.d) c.d)
    (h : dn.map StepC.d ++ ordF may td.length (td.map StepC.d) = ordF may ss.length (ss.map StepC.d)) : (dn ++ [s]).map StepC.d ++ ordF may (td.eraseIdx i).length ((td.eraseIdx i).map StepC.d) = ordF may ss.length (ss.map StepC.d) := by
  have hi := (List.getElem?_eq_some_iff.1 hs).1
  have hp := pick_at (p := may (td.map StepC.d)) (l := td.map StepC.d) (i := i) (x := s.d) (by rw [List.getElem?_map, hs]; rfl) hm (fun j y hj hy => by
    rw [List.getElem?_map] at hy
    obtain ⟨c, hc, rfl⟩ := Option.map_eq_some_iff.1 hy
    exact hn j c hj hc)
  rw [← h, List.length_eraseIdx, if_pos hi]
  obtain ⟨n, hnn⟩ : ∃ n, td.length = n + 1 := ⟨td.length - 1, by omega⟩
  rw [hnn]
  simp only [ordF]
  rw [hp, eraseIdx_td, eraseIdx_td, List.map_append, List.map_append, List.map_take, List.map_drop]
  simp
theorem ord_end {may : List StepD → StepD → Prop} {ss dn td : List StepC} (hn : ∀ c ∈ td, ¬ may (td.map StepC.d) c.d)
    (h : dn.map StepC.d ++ ordF may td.length (td.map StepC.d) = ordF may ss.length (ss.map StepC.d)) : dn.map StepC.d = ordF may ss.length (ss.map StepC.d) := by
  rw [← h]
  have : ordF may td.length (td.map StepC.d) = [] := by
    cases td.length with
    | zero => rfl
    | succ n =>
      simp only [ordF]
      rw [pick_none (fun a ha => by
        obtain ⟨c, hc, rfl⟩ := List.mem_map.1 ha
        exact hn c hc)]
  rw [this, List.append_nil]
/-- What inOrder leaves. -/
def InOrdIs (B C : Nat) (ss : List StepC) (w : World) (res : List StepD) (e : Ending) (w' : World) : Prop :=
  ∃ (pa : Option Addr) (cap : Nat) (dn : List StepC), e = .returned (.slice pa dn.length cap) ∧ Hid (dn.map StepC.d = res) ∧ Hid (w'.ownsRow w.heap.size 60 5 (.slice pa dn.length cap) dn.length (cellsV dn)) ∧ Hid (∀ s ∈ dn, OwnR B w' s.r.c2 s.r.c3 s.r.x ∧ okS s.r.x) ∧ Hid (dn.Pairwise fun p q => ApartC p.r q.r) ∧ Hid (WroteTSt B w w') ∧ Hid (Upper C w w') ∧ Hid (∀ s ∈ dn, s ∈ ss)
theorem MidO.start {B C : Nat} {may : List StepD → StepD → Prop} {ss : List StepC} {w : World} {t : Nat} (h : TodoAt B w t ss) (hC : TabLow C w t) : MidO B C may ss w t w (.slice none 0 0) [] ss :=
  ⟨World.ownsRow_nil _ _ _ _, fun s hs => (by cases hs), h, h.apart, rfl, by simp, Wrote.refl _ _ _, hC, Upper.refl _ _, fun _ h => h⟩

set_option maxRecDepth 100000 in
set_option maxHeartbeats 3200000 in
theorem inOrderM (pw pm : Nat) (v : Value) (l : List Resd) (B C t : Nat) (ss : List StepC) (w0 w : World) (hB0 : w0.heap.size ≤ B) (hv : RessV w0 v l) (hE0 : Ext w0 w) (hT : TodoAt B w t ss) (hC : TabLow C w t) (hpw : w.heap[pw]? = some (.cells #[v] 22 (0, 0))) (hpm : w.heap[pm]? = some (.cells #[.pointer (some ⟨t, 0, none⟩)] 64 (0, 0))) (hU : (allAfter l).length ≤ 1000) (hn : ss.length ≤ 1000) :
    Calls Tryz.prog 20 #[.pointer (some ⟨t, 0, none⟩), .func (.func 21) #[] #[.pointer (some ⟨pw, 0, none⟩), .pointer (some ⟨pm, 0, none⟩)]] w (InOrdIs B C ss w (ordF (mayMake l) ss.length (ss.map StepC.d))) := by
  obtain ⟨i0, hi0, hz0, hz1, hz2⟩ := info_of infoStep
  have hM0 := hide (MidO.start (may := mayMake l) hT hC)
  replace hT := hide hT; replace hC := hide hC; replace hi0 := hide hi0; replace hv := hide hv; replace hE0 := hide hE0; replace hpw := hide hpw; replace hpm := hide hpm
  go_enter Tryz.func20, Tryz.ntmps20
  go_wp2_with fail
  go_loopw [5] (fun ov wr => ∃ (dn td : List StepC) (pa : Option Addr) (cap : Nat), ov = .slice pa dn.length cap ∧ Hid (MidO B C (mayMake l) ss w t wr (.slice pa dn.length cap) dn td)) (fun ov _ => ss.length - lenV ov)
  case atStart => exact ⟨[], ss, none, 0, rfl, hM0⟩
  case round =>
    clear hM0
    obtain ⟨dn, td, pa, cap, rfl, hM⟩ := hrel
    have hsum := hM.out.sum
    obtain ⟨vT, hTb⟩ := hM.out.todo.tab
    have hkeys := hide (keysSt B t vT (td.map rowS) wr hTb (by rw [List.length_map]; omega))
    rw [ids_of, List.length_map] at hkeys
    obtain ⟨wo, rfl⟩ : ∃ wo : World, wo = wr := ⟨_, rfl⟩
    replace hTb := hide hTb
    go_wp2_with fail
    refine hkeys.out.mono ?_
    rintro e1 w1 ⟨pa1, cap1, rfl, hK1, he1⟩
    have hK1 : Hid (w1.ownsRow wo.heap.size 52 2 (.slice pa1 td.length cap1) (td.map fun s => s.r.x.id).length (cellsI (td.map fun s => s.r.x.id))) := by
      show World.ownsRow _ _ _ _ _ _ _
      rw [List.length_map]; exact hK1.out
    have hfind := hide (findM _ pa1 _ cap1 (td.map fun s => s.r.x.id) pw pm v l B t td w0 w1 hK1.out hv.out ((hE0.out.wrote hM.out.frame hB0).trans he1.out) (hM.out.todo.ext he1.out) (ext_at he1.out (hM.out.frame.keeps hpw.out (by decide))) (ext_at he1.out (hM.out.frame.keeps hpm.out (by decide))) hU)
    clear hkeys
    go_wp2_with fail
    refine hfind.out.mono ?_
    rintro e2 w2 ⟨hcase, he2⟩
    clear hfind
    have E2 := hide (he1.out.trans he2.out)
    rcases hcase with ⟨i, a, hia, hPa, hno, rfl⟩ | ⟨hall, rfl⟩
    · obtain ⟨s, hs, rfl⟩ : ∃ s, td[i]? = some s ∧ s.r.x.id = a := by
        rw [List.getElem?_map] at hia
        obtain ⟨s, h1, h2⟩ := Option.map_eq_some_iff.1 hia
        exact ⟨s, h1, h2⟩
      have hlt : i < td.length := (List.getElem?_eq_some_iff.1 hs).1
      have hmay : Hid (mayMake l (td.map StepC.d) s.d) := (make_iff l td s).2 hPa
      have hnom : Hid (∀ (j : Nat) c, j < i → td[j]? = some c → ¬ mayMake l (td.map StepC.d) c.d) := fun j c hj hc hm => hno j c.r.x.id hj (by rw [List.getElem?_map, hc]; rfl) ((make_iff l td c).1 hm)
      clear hno hPa hia
      have Bk := hide (heap_alloc_new w2 (.cells #[.string s.r.x.id.kind, .string s.r.x.id.name] 52))
      have htake := hide (takeSt B C td i s t (w2.alloc (.cells #[.string s.r.x.id.kind, .string s.r.x.id.name] 52)) (hM.out.todo.ext (E2.out.alloc _)) hs (hM.out.low.ext (E2.out.alloc _)))
      replace hs := hide hs
      go_wp2_with fail
      refine htake.out.mono ?_
      rintro e3 w3 ⟨rfl, hT3, hO3, hW3, hL3, hU3⟩
      clear htake
      have W3 := hide ((Wrote.ext (B := B) (T := fun t => t = 140 ∨ t = 143) (E2.out.alloc (.cells #[.string s.r.x.id.kind, .string s.r.x.id.name] 52))).trans hW3.out)
      have R3 : Hid (w3.ownsRow w.heap.size 60 5 (.slice pa dn.length cap) dn.length (cellsV dn)) := ownsRow_wrote hM.out.row W3.out (by decide) rfl
      have hsz : Hid (w.heap.size ≤ w3.heap.size) := Nat.le_trans hM.out.frame.size W3.out.size
      go_wp2_with (at_builtin; go_must (refine wpList_append_lies _ rfl _ _ 23 rfl w.heap.size 60 i0 (.agg #[.int .i64 0, .string ⟨#[]⟩, .string ⟨#[]⟩, .slice none 0 0, .slice none 0 0]) 5 88 Tryz.underlying23 hi0.out hz0 hz1 hz2 rfl (by omega) _ dn.length (cellsV dn) rfl ((R3.out.alloc _).alloc _) ⟨w3.heap.size + 1, 0, none⟩ 1 1 (cV s) rfl rfl ?_ (cV_one s) (by omega) (by unfold maxLen; omega) (by omega) (by have := hsz.out; simp; omega) (w3.heap.size + 2) (by simp) ?_; (intro r u hu; rw [add_eq]; (match r, hu with | 0, hu => (simp [cV] at hu; subst hu; simp [go_sem]) | 1, hu => (simp [cV] at hu; subst hu; simp [go_sem]) | 2, hu => (simp [cV] at hu; subst hu; simp [go_sem]) | 3, hu => (simp [cV] at hu; subst hu; simp [go_sem]) | 4, hu => (simp [cV] at hu; subst hu; simp [go_sem]) | _ + 5, hu => (simp [cV] at hu))); intro g4 cap4 w4 hown4 hgrow4 hat4 hlt4))
      replace hgrow4 : ((w3.alloc (.cells #[.int .i64 s.op, .string s.r.x.id.kind, .string s.r.x.id.name, .slice s.r.a2 s.r.n2 s.r.p2, .slice s.r.a3 s.r.n3 s.r.p3] 60)).alloc (.cells #[.int .i64 s.op, .string s.r.x.id.kind, .string s.r.x.id.name, .slice s.r.a2 s.r.n2 s.r.p2, .slice s.r.a3 s.r.n3 s.r.p3] 60)).grownBy w4 (Value.slice pa dn.length cap).ownBlock := hgrow4
      go_roundw
      case rel =>
        have hl : (dn ++ [s]).length = dn.length + 1 := by simp
        have W4 : Wrote w.heap.size (· = 60) w3 w4 := ((Wrote.refl w.heap.size (· = 60) w3).alloc _).grownAt (R3.out.alloc _) rfl hgrow4
        refine ⟨dn ++ [s], td.eraseIdx i, some ⟨g4, 0, none⟩, cap4, by rw [hl], ⟨?_, ?_, hT3.out.wrote W4 (by decide), apart_move hs.out hM.out.apart, ord_step hs.out hmay.out hnom.out hM.out.out, ?_, ?_, hL3.out.wrote W4 (by decide), ?_, ?_⟩⟩
        · rw [hl]
          have : cellsV (dn ++ [s]) = cellsV dn ++ cV s := by simp [cellsV]
          rw [this]; exact hown4
        · intro c hc
          rcases List.mem_append.1 hc with hc | hc
          · exact ⟨((hM.out.each c hc).1.put W3.out (by decide) (by decide)).put W4 (by decide) (by decide), (hM.out.each c hc).2⟩
          · obtain rfl : c = s := by simpa using hc
            exact ⟨hO3.out.put W4 (by decide) (by decide), (hM.out.todo.each c (List.mem_of_getElem? hs.out)).2⟩
        · rw [hl, List.length_eraseIdx, if_pos hlt]; omega
        · exact ((hM.out.frame.trans W3.out).then ((Ext.refl w3).alloc _)).grownNew (R3.out.alloc _) hgrow4
        · have hU := hM.out.upper.trans ((Upper.ext (E2.out.alloc (.cells #[.string s.r.x.id.kind, .string s.r.x.id.name] 52))).trans hU3.out)
          exact ⟨Nat.le_trans hU.1 W4.size, fun k h1 h2 => (W4.heap k (Nat.lt_of_lt_of_le h2 hU.1) (.inl h2)).trans (hU.2 k h1 h2)⟩
        · intro c hc
          rcases List.mem_append.1 hc with hc | hc
          · rcases List.mem_append.1 hc with hc | hc
            · exact hM.out.sub c (List.mem_append.2 (.inl hc))
            · obtain rfl : c = s := by simpa using hc
              exact hM.out.sub c (List.mem_append.2 (.inr (List.mem_of_getElem? hs.out)))
          · exact hM.out.sub c (List.mem_append.2 (.inr ((List.eraseIdx_sublist _ _).subset hc)))
      case measure => simp [lenV]; omega
    · have hend : Hid (dn.map StepC.d = ordF (mayMake l) ss.length (ss.map StepC.d)) := ord_end (fun c hc hm => hall c.r.x.id (List.mem_map.2 ⟨c, hc, rfl⟩) ((make_iff l td c).1 hm)) hM.out.out
      clear hall
      go_wp2_with fail
      go_ret
      have E3 := E2.out.alloc (.cells #[.string ⟨#[]⟩, .string ⟨#[]⟩] 52)
      exact ⟨pa, cap, dn, rfl, hend, ownsRow_wrote hM.out.row (Wrote.ext (B := 0) (T := fun _ => False) E3) id rfl, fun s hs => ⟨(hM.out.each s hs).1.ext E3, (hM.out.each s hs).2⟩, List.Pairwise.sublist (List.sublist_append_left _ _) hM.out.apart, hM.out.frame.then E3, hM.out.upper.trans (Upper.ext E3), fun c hc => hM.out.sub c (List.mem_append.2 (.inl hc))⟩

set_option maxRecDepth 100000 in
set_option maxHeartbeats 3200000 in
theorem inOrderD (pm : Nat) (B C t : Nat) (ss : List StepC) (w : World) (hT : TodoAt B w t ss) (hC : TabLow C w t) (hpm : w.heap[pm]? = some (.cells #[.pointer (some ⟨t, 0, none⟩)] 64 (0, 0))) (hn : ss.length ≤ 1000) :
    Calls Tryz.prog 20 #[.pointer (some ⟨t, 0, none⟩), .func (.func 24) #[] #[.pointer (some ⟨pm, 0, none⟩)]] w (InOrdIs B C ss w (ordF (mayDel) ss.length (ss.map StepC.d))) := by
  obtain ⟨i0, hi0, hz0, hz1, hz2⟩ := info_of infoStep
  have hM0 := hide (MidO.start (may := mayDel) hT hC)
  replace hT := hide hT; replace hC := hide hC; replace hi0 := hide hi0; replace hpm := hide hpm
  go_enter Tryz.func20, Tryz.ntmps20
  go_wp2_with fail
  go_loopw [5] (fun ov wr => ∃ (dn td : List StepC) (pa : Option Addr) (cap : Nat), ov = .slice pa dn.length cap ∧ Hid (MidO B C (mayDel) ss w t wr (.slice pa dn.length cap) dn td)) (fun ov _ => ss.length - lenV ov)
  case atStart => exact ⟨[], ss, none, 0, rfl, hM0⟩
  case round =>
    clear hM0
    obtain ⟨dn, td, pa, cap, rfl, hM⟩ := hrel
    have hsum := hM.out.sum
    obtain ⟨vT, hTb⟩ := hM.out.todo.tab
    have hkeys := hide (keysSt B t vT (td.map rowS) wr hTb (by rw [List.length_map]; omega))
    rw [ids_of, List.length_map] at hkeys
    obtain ⟨wo, rfl⟩ : ∃ wo : World, wo = wr := ⟨_, rfl⟩
    replace hTb := hide hTb
    go_wp2_with fail
    refine hkeys.out.mono ?_
    rintro e1 w1 ⟨pa1, cap1, rfl, hK1, he1⟩
    have hK1 : Hid (w1.ownsRow wo.heap.size 52 2 (.slice pa1 td.length cap1) (td.map fun s => s.r.x.id).length (cellsI (td.map fun s => s.r.x.id))) := by
      show World.ownsRow _ _ _ _ _ _ _
      rw [List.length_map]; exact hK1.out
    have hfind := hide (findD _ pa1 _ cap1 (td.map fun s => s.r.x.id) pm B t td w1 hK1.out (hM.out.todo.ext he1.out) (ext_at he1.out (hM.out.frame.keeps hpm.out (by decide))) (by omega))
    clear hkeys
    go_wp2_with fail
    refine hfind.out.mono ?_
    rintro e2 w2 ⟨hcase, he2⟩
    clear hfind
    have E2 := hide (he1.out.trans he2.out)
    rcases hcase with ⟨i, a, hia, hPa, hno, rfl⟩ | ⟨hall, rfl⟩
    · obtain ⟨s, hs, rfl⟩ : ∃ s, td[i]? = some s ∧ s.r.x.id = a := by
        rw [List.getElem?_map] at hia
        obtain ⟨s, h1, h2⟩ := Option.map_eq_some_iff.1 hia
        exact ⟨s, h1, h2⟩
      have hlt : i < td.length := (List.getElem?_eq_some_iff.1 hs).1
      have hmay : Hid (mayDel (td.map StepC.d) s.d) := (del_iff td s).2 hPa
      have hnom : Hid (∀ (j : Nat) c, j < i → td[j]? = some c → ¬ mayDel (td.map StepC.d) c.d) := fun j c hj hc hm => hno j c.r.x.id hj (by rw [List.getElem?_map, hc]; rfl) ((del_iff td c).1 hm)
      clear hno hPa hia
      have Bk := hide (heap_alloc_new w2 (.cells #[.string s.r.x.id.kind, .string s.r.x.id.name] 52))
      have htake := hide (takeSt B C td i s t (w2.alloc (.cells #[.string s.r.x.id.kind, .string s.r.x.id.name] 52)) (hM.out.todo.ext (E2.out.alloc _)) hs (hM.out.low.ext (E2.out.alloc _)))
      replace hs := hide hs
      go_wp2_with fail
      refine htake.out.mono ?_
      rintro e3 w3 ⟨rfl, hT3, hO3, hW3, hL3, hU3⟩
      clear htake
      have W3 := hide ((Wrote.ext (B := B) (T := fun t => t = 140 ∨ t = 143) (E2.out.alloc (.cells #[.string s.r.x.id.kind, .string s.r.x.id.name] 52))).trans hW3.out)
      have R3 : Hid (w3.ownsRow w.heap.size 60 5 (.slice pa dn.length cap) dn.length (cellsV dn)) := ownsRow_wrote hM.out.row W3.out (by decide) rfl
      have hsz : Hid (w.heap.size ≤ w3.heap.size) := Nat.le_trans hM.out.frame.size W3.out.size
      go_wp2_with (at_builtin; go_must (refine wpList_append_lies _ rfl _ _ 23 rfl w.heap.size 60 i0 (.agg #[.int .i64 0, .string ⟨#[]⟩, .string ⟨#[]⟩, .slice none 0 0, .slice none 0 0]) 5 88 Tryz.underlying23 hi0.out hz0 hz1 hz2 rfl (by omega) _ dn.length (cellsV dn) rfl ((R3.out.alloc _).alloc _) ⟨w3.heap.size + 1, 0, none⟩ 1 1 (cV s) rfl rfl ?_ (cV_one s) (by omega) (by unfold maxLen; omega) (by omega) (by have := hsz.out; simp; omega) (w3.heap.size + 2) (by simp) ?_; (intro r u hu; rw [add_eq]; (match r, hu with | 0, hu => (simp [cV] at hu; subst hu; simp [go_sem]) | 1, hu => (simp [cV] at hu; subst hu; simp [go_sem]) | 2, hu => (simp [cV] at hu; subst hu; simp [go_sem]) | 3, hu => (simp [cV] at hu; subst hu; simp [go_sem]) | 4, hu => (simp [cV] at hu; subst hu; simp [go_sem]) | _ + 5, hu => (simp [cV] at hu))); intro g4 cap4 w4 hown4 hgrow4 hat4 hlt4))
      replace hgrow4 : ((w3.alloc (.cells #[.int .i64 s.op, .string s.r.x.id.kind, .string s.r.x.id.name, .slice s.r.a2 s.r.n2 s.r.p2, .slice s.r.a3 s.r.n3 s.r.p3] 60)).alloc (.cells #[.int .i64 s.op, .string s.r.x.id.kind, .string s.r.x.id.name, .slice s.r.a2 s.r.n2 s.r.p2, .slice s.r.a3 s.r.n3 s.r.p3] 60)).grownBy w4 (Value.slice pa dn.length cap).ownBlock := hgrow4
      go_roundw
      case rel =>
        have hl : (dn ++ [s]).length = dn.length + 1 := by simp
        have W4 : Wrote w.heap.size (· = 60) w3 w4 := ((Wrote.refl w.heap.size (· = 60) w3).alloc _).grownAt (R3.out.alloc _) rfl hgrow4
        refine ⟨dn ++ [s], td.eraseIdx i, some ⟨g4, 0, none⟩, cap4, by rw [hl], ⟨?_, ?_, hT3.out.wrote W4 (by decide), apart_move hs.out hM.out.apart, ord_step hs.out hmay.out hnom.out hM.out.out, ?_, ?_, hL3.out.wrote W4 (by decide), ?_, ?_⟩⟩
        · rw [hl]
          have : cellsV (dn ++ [s]) = cellsV dn ++ cV s := by simp [cellsV]
          rw [this]; exact hown4
        · intro c hc
          rcases List.mem_append.1 hc with hc | hc
          · exact ⟨((hM.out.each c hc).1.put W3.out (by decide) (by decide)).put W4 (by decide) (by decide), (hM.out.each c hc).2⟩
          · obtain rfl : c = s := by simpa using hc
            exact ⟨hO3.out.put W4 (by decide) (by decide), (hM.out.todo.each c (List.mem_of_getElem? hs.out)).2⟩
        · rw [hl, List.length_eraseIdx, if_pos hlt]; omega
        · exact ((hM.out.frame.trans W3.out).then ((Ext.refl w3).alloc _)).grownNew (R3.out.alloc _) hgrow4
        · have hU := hM.out.upper.trans ((Upper.ext (E2.out.alloc (.cells #[.string s.r.x.id.kind, .string s.r.x.id.name] 52))).trans hU3.out)
          exact ⟨Nat.le_trans hU.1 W4.size, fun k h1 h2 => (W4.heap k (Nat.lt_of_lt_of_le h2 hU.1) (.inl h2)).trans (hU.2 k h1 h2)⟩
        · intro c hc
          rcases List.mem_append.1 hc with hc | hc
          · rcases List.mem_append.1 hc with hc | hc
            · exact hM.out.sub c (List.mem_append.2 (.inl hc))
            · obtain rfl : c = s := by simpa using hc
              exact hM.out.sub c (List.mem_append.2 (.inr (List.mem_of_getElem? hs.out)))
          · exact hM.out.sub c (List.mem_append.2 (.inr ((List.eraseIdx_sublist _ _).subset hc)))
      case measure => simp [lenV]; omega
    · have hend : Hid (dn.map StepC.d = ordF (mayDel) ss.length (ss.map StepC.d)) := ord_end (fun c hc hm => hall c.r.x.id (List.mem_map.2 ⟨c, hc, rfl⟩) ((del_iff td c).1 hm)) hM.out.out
      clear hall
      go_wp2_with fail
      go_ret
      have E3 := E2.out.alloc (.cells #[.string ⟨#[]⟩, .string ⟨#[]⟩] 52)
      exact ⟨pa, cap, dn, rfl, hend, ownsRow_wrote hM.out.row (Wrote.ext (B := 0) (T := fun _ => False) E3) id rfl, fun s hs => ⟨(hM.out.each s hs).1.ext E3, (hM.out.each s hs).2⟩, List.Pairwise.sublist (List.sublist_append_left _ _) hM.out.apart, hM.out.frame.then E3, hM.out.upper.trans (Upper.ext E3), fun c hc => hM.out.sub c (List.mem_append.2 (.inl hc))⟩
end Go.Proofs.YtodhhjlemmmjcaaGreat
