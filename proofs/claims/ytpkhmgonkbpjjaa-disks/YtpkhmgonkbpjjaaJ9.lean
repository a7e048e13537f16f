/-
  Rows that are put into their places: what is the same for all tables.
-/
/-
  The reference's disk: names, by what was done to them.
-/
import Derived.Test.YtpkhmgonkbpjjaaJ7
import Derived.Test.YtpkhmgonkbpjjaaJ6
import Derived.Shelf.Spec.SlicesInsertGrow
import Derived.Test.YtpkhmgonkbpjjaaJ3
import Derived.Deep.AppendLies
namespace Go.Proofs.Ytpkhmgonkbpjjaa
open Go.RowKit

/-- copy into a row of our own, from a place on. -/
theorem run_copy_into {P : Program} (w : World) (dT sT ty elem : TypeId) (g o dLen dCap : Nat) (a : Addr) (sLen sCap sz : Nat) (cur : Array Value) (t : TypeId) (cs : List Value)
    (hu : P.underlying dT = some (.slice elem)) (hs : (P.info? elem).map (·.size) = some sz)
    (hg : w.heap[g]? = some (.cells cur t (0, 0))) (hn : cs.length = Nat.min sLen dLen * sz)
    (hsrc : ∀ j v, cs[j]? = some v → w.cell? (a.add j) = some v) (hfit : o + cs.length ≤ cur.size) (h1 : ∀ v ∈ cs, v.oneCell' = true) :
    (Builtin.copy_ #[dT, sT] ty #[.slice (some ⟨g, o, none⟩) dLen dCap, .slice (some a) sLen sCap]).run P w =
      .ok (goInt (Nat.min sLen dLen)) (w.setRow g (cur.toList.take o ++ cs ++ cur.toList.drop (o + cs.length)).toArray) := by
  have hl := run_loadCells_list (P := P) w a cs hsrc
  have hst := run_storeCells_at P g o t cs 0 cur w hg (by simpa using hfit) h1
  simp only [Nat.add_zero] at hst
  cases hq : P.info? elem with
  | none => simp [hq] at hs
  | some i =>
    have hi : i.size = sz := by simpa [hq] using hs
    simp [Builtin.copy_, run_underlying hu, Builtin.lenOf, Builtin.firstCells, sizeOf, typeInfo, hq, hi, ← hn, hl, hst]

theorem ins_rowsG {α : Type} (C vs : List α) (k m z : Nat) (hk : k ≤ m) (hm : m + z ≤ C.length) (hv : vs.length = z) :
    (((C.take (k + z) ++ (C.take m).drop k ++ C.drop (k + z + ((C.take m).drop k).length)).take k ++ vs ++ (C.take (k + z) ++ (C.take m).drop k ++ C.drop (k + z + ((C.take m).drop k).length)).drop (k + z)).take (m + z)) = (C.take m).take k ++ vs ++ (C.take m).drop k := by
  have e1 : (C.take (k + z) ++ (C.take m).drop k ++ C.drop (k + z + ((C.take m).drop k).length)).take k = (C.take m).take k := by
    rw [List.append_assoc, List.take_append_of_le_length (by simp; omega), List.take_take, List.take_take]
    congr 1; omega
  have e2 : (C.take (k + z) ++ (C.take m).drop k ++ C.drop (k + z + ((C.take m).drop k).length)).drop (k + z) = (C.take m).drop k ++ C.drop (k + z + ((C.take m).drop k).length) := by
    rw [List.append_assoc, List.drop_left' (by simp; omega)]
  rw [e1, e2, ← List.append_assoc]
  rw [List.take_left' (by simp; omega)]
theorem arr_appG (l : List Value) (A B : Array Value) : l.toArray ++ A ++ B = (l ++ (A ++ B).toList).toArray := by apply Array.toList_inj.1; simp
theorem grow_rowsG {α : Type} (xs vs Z : List α) (k m z : Nat) (hk : k ≤ m) (hx : xs.length = m) (hv : vs.length = z) :
    ((((xs.take k ++ Z).take k ++ vs ++ (xs.take k ++ Z).drop (k + z)).take (k + z) ++ xs.drop k ++ ((xs.take k ++ Z).take k ++ vs ++ (xs.take k ++ Z).drop (k + z)).drop (k + z + (xs.drop k).length)).take (m + z)) = xs.take k ++ vs ++ xs.drop k := by
  have e1 : (xs.take k ++ Z).take k = xs.take k := List.take_left' (by simp; omega)
  rw [e1]
  have e2 : (xs.take k ++ vs ++ (xs.take k ++ Z).drop (k + z)).take (k + z) = xs.take k ++ vs := List.take_left' (by simp; omega)
  rw [e2]
  exact List.take_left' (by simp; omega)
theorem Wrote.keptG {g B : Nat} {T : TypeId → Prop} {w w' : World} {c : Array Value} {t : TypeId} {fz : Nat × Nat} (h : Kept (· = g) w w') (hg : w.heap[g]? = some (.cells c t fz)) (ht : T t) (hb : B ≤ g) : Wrote B T w w' :=
  ⟨h.os, h.tape, h.output, h.size, fun k hk hd => h.block k hk (fun e => by
    subst e
    rcases hd with hd | hd
    · omega
    · exact hd _ _ _ hg ht)⟩
end Go.Proofs.Ytpkhmgonkbpjjaa

namespace Go.Proofs.Ytpkhmgonkbpjjaa
open Go.RowKit

attribute [local go_sem] Go.World.cell?_alloc_some
theorem infoNm : (Try.prog.info? 117).map (fun i => (i.zero, i.size, i.bytes)) = some (some (.agg #[.string ⟨#[]⟩, .int .i64 0]), 2, 24) := by kernel_rfl
/-- A row read at a place. -/
theorem rowG_at {ρ : Type} {c : ρ → List Value} {n : Nat} (hc : ∀ x, (c x).length = n) {w : World} {base : Nat} {e : TypeId} {pa : Option Addr} {m cap : Nat} {rs : List ρ} (h : w.ownsRow base e n (.slice pa m cap) rs.length (cellsG c rs)) : m = rs.length ∧ m ≤ cap ∧ cap ≤ 9223372036854775807 ∧ ∀ (i : Nat) x, rs[i]? = some x → ∃ g, pa = some ⟨g, 0, none⟩ ∧ ∀ r, r < n → w.cell? ⟨g, i * n + r, none⟩ = (c x)[r]? := by
  rcases h.2 with ⟨h1, h2⟩ | ⟨g, cp, cur, h1, _, hg, hcc, hm, hs, ht⟩
  · simp at h1
    obtain ⟨rfl, rfl, rfl⟩ := h1
    refine ⟨h2.symm, Nat.le_refl _, by omega, fun i x hx => ?_⟩
    have := (List.getElem?_eq_some_iff.1 hx).1
    omega
  · simp at h1
    obtain ⟨rfl, rfl, rfl⟩ := h1
    unfold maxLen at hm
    refine ⟨rfl, hcc, by omega, fun i x hx => ⟨g, rfl, fun r hr => ?_⟩⟩
    have hlt := (List.getElem?_eq_some_iff.1 hx).1
    have h3 : (cellsG c rs)[i * n + r]? = (c x)[r]? := flat_get hc hx hr
    have h4 : i * n + r < rs.length * n := by
      have : (i + 1) * n ≤ rs.length * n := Nat.mul_le_mul_right _ hlt
      rw [Nat.add_mul, Nat.one_mul] at this
      omega
    rw [← h3, ← ht, List.getElem?_take, if_pos h4]
    simp [World.cell?, hg]

theorem rows_keptP {D : Nat → Prop} {w w' : World} {base : Nat} {e : TypeId} {size : Nat} {v : Value} {n : Nat} {xs : List Value} (h : w.ownsRow base e size v n xs) (k : Kept D w w') (hd : ∀ g, v.ownBlock = some g → ¬ D g) : w'.ownsRow base e size v n xs := by
  refine ⟨h.1, ?_⟩
  rcases h.2 with h | ⟨g, cap, cur, rfl, h2, h3, h4⟩
  · exact .inl h
  · exact .inr ⟨g, cap, cur, rfl, h2, k.heap h3 (hd g rfl), h4⟩
theorem drop_gone1 {a b : ByteArray} {x : NmS} (h : x.1 = a) : dropN b (dropN a [x]) = [] := by
  apply List.eq_nil_iff_forall_not_mem.2
  intro y hy
  have h1 := dropK_mem.1 (dropK_mem.1 hy).1
  obtain rfl : y = x := by simpa using h1.1
  exact h1.2 h
theorem drop_gone2 {a b : ByteArray} {x : NmS} (h : x.1 = b) : dropN b (dropN a [x]) = [] := by
  apply List.eq_nil_iff_forall_not_mem.2
  intro y hy
  have h0 := dropK_mem.1 hy
  have h1 := dropK_mem.1 h0.1
  obtain rfl : y = x := by simpa using h1.1
  exact h0.2 h
theorem drop_stays {a b : ByteArray} {x : NmS} (ha : ¬ x.1 = a) (hb : ¬ x.1 = b) : dropN b (dropN a [x]) = [x] := by
  have h1 : ∀ c : ByteArray, ¬ x.1 = c → dropN c [x] = [x] := fun c hc => dropK_self fun ⟨y, hy, e⟩ => hc (by
    have hyx : y = x := by simpa using hy
    rw [← hyx]; exact e)
  rw [h1 a ha, h1 b hb]

set_option maxRecDepth 100000 in
set_option maxHeartbeats 3200000 in
theorem playedP (w : World) (v : Value) (chs : List ChgS) (n : Nat) (hv : w.ownsRow 0 107 3 v chs.length (cellsG cRC chs)) (hok : ∀ c ∈ chs, c.okC n) (hfew : chs.length ≤ 2000000000000) :
    Calls Try.prog 59 #[v] w fun e w' => ∃ pa cap, e = .returned (.slice pa (playN chs).length cap) ∧ Hid (w'.ownsRow w.heap.size 117 2 (.slice pa (playN chs).length cap) (playN chs).length (cellsG cNm (playN chs))) ∧ Hid (Ext w w') := by
  obtain ⟨pc, cc, rfl⟩ := ownsRow_form hv
  obtain ⟨-, hc1, hc2, hin⟩ := rowG_at cRC_len hv
  obtain ⟨i0, hi0, hz0, hz1, hz2⟩ := info_of infoNm
  replace hin := hide hin; replace hv := hide hv; replace hok := hide hok; replace hi0 := hide hi0
  go_enter Try.func59, Try.ntmps59
  go_wp2_with fail
  go_loopw [3, 4] (fun ov iv wr => ∃ (i : Nat) (po : Option Addr) (co m : Nat), i ≤ chs.length ∧ iv = .int .i64 i ∧ ov = .slice po m co ∧ Hid (m = (playN (chs.take i)).length) ∧ Hid (wr.ownsRow w.heap.size 117 2 (.slice po m co) (playN (chs.take i)).length (cellsG cNm (playN (chs.take i)))) ∧ Hid (Ext w wr)) (fun _ i _ => chs.length - (intOf i).toNat)
  case atStart => exact ⟨0, none, 0, 0, Nat.zero_le _, rfl, rfl, rfl, World.ownsRow_nil _ _ _ _, Ext.refl w⟩
  case round =>
    obtain ⟨i, po, co, m, hi, rfl, rfl, hm, hrow, hX⟩ := hrel
    by_cases hlt : i < chs.length
    · obtain ⟨c, hcc⟩ : ∃ c, chs[i]? = some c := ⟨_, List.getElem?_eq_getElem hlt⟩
      obtain ⟨g, rfl, hg⟩ := hin.out i c hcc
      obtain ⟨wo, rfl⟩ : ∃ wo : World, wo = wr := ⟨_, rfl⟩
      have i1 : (i : Int) < (chs.length : Int) := by omega
      have i2 : (0 : Int) ≤ (i : Int) := by omega
      obtain ⟨a, b, f, hab⟩ : ∃ a b f, refC c = (a, b, f) := ⟨_, _, _, rfl⟩
      obtain ⟨L, hL⟩ : ∃ L, L = playN (chs.take i) := ⟨_, rfl⟩
      rw [← hL] at hm hrow
      have hg0 : w.cell? ⟨g, i * 3, none⟩ = some (.string a) := by have := hg 0 (by omega); rw [Nat.add_zero] at this; rw [this]; simp [cRC, hab]
      have hg1 : w.cell? ⟨g, i * 3 + 1, none⟩ = some (.string b) := by rw [hg 1 (by omega)]; simp [cRC, hab]
      have hg2 : w.cell? ⟨g, i * 3 + 2, none⟩ = some (.int .i64 (f : Int)) := by rw [hg 2 (by omega)]; simp [cRC, hab]
      obtain ⟨-, hm1, hm2, hout⟩ := rowG_at cNm_len hrow.out
      have hmL := hm.out
      have hL1 : L.length ≤ 2000000000000 := by rw [hL]; have := play_len (chs.take i); rw [List.length_take] at this; omega
      replace hg := hide hg; replace hg0 := hide hg0; replace hg1 := hide hg1; replace hg2 := hide hg2; replace hL := hide hL; replace hab := hide hab; replace hcc := hide hcc; replace hout := hide hout
      have holt : Hid (∀ q, (Value.slice po m co).ownBlock = some q → q < wo.heap.size) := fun q hq => (hrow.out.lt q hq).2
      subst hmL
      go_wp2_with fail
      go_loopw [5, 6] (fun lv kv wr => ∃ (k : Nat) (pl : Option Addr) (cl ml : Nat), k ≤ L.length ∧ kv = .int .i64 k ∧ lv = .slice pl ml cl ∧ Hid (ml = (dropN b (dropN a (L.take k))).length) ∧ Hid (wr.ownsRow w.heap.size 117 2 (.slice pl ml cl) (dropN b (dropN a (L.take k))).length (cellsG cNm (dropN b (dropN a (L.take k))))) ∧ Hid (wr.ownsRow w.heap.size 117 2 (.slice po L.length co) L.length (cellsG cNm L)) ∧ Hid (∀ q, (Value.slice pl ml cl).ownBlock = some q → wo.heap.size ≤ q) ∧ Hid (Ext w wr ∧ wo.heap.size ≤ wr.heap.size)) (fun _ k _ => L.length - (intOf k).toNat)
      case atStart => exact ⟨0, none, 0, 0, Nat.zero_le _, rfl, rfl, by show 0 = _; simp [dropN, dropK], by show World.ownsRow _ _ _ _ _ _ _; simp [dropN, dropK, cellsG]; exact World.ownsRow_nil _ _ _ _, hrow, fun q hq => by simp [Value.ownBlock] at hq, hX.out, Nat.le_refl _⟩
      case round =>
        obtain ⟨k, pl, cl, ml, hk, rfl, rfl, hml, hleft, hrow2, hlq, hX2⟩ := hrel
        by_cases hkl : k < L.length
        · obtain ⟨x, hx⟩ : ∃ x, L[k]? = some x := ⟨_, List.getElem?_eq_getElem hkl⟩
          obtain ⟨-, -, -, hout2⟩ := rowG_at cNm_len hrow2.out
          obtain ⟨go, hpo, hco⟩ := hout2 k x hx
          subst hpo
          have x0 := hco 0 (by omega)
          have x1 := hco 1 (by omega)
          rw [Nat.add_zero] at x0
          simp only [cNm, List.getElem?_cons_zero, List.getElem?_cons_succ] at x0 x1
          have y0 := hX2.out.1.cells hg0.out
          have y1 := hX2.out.1.cells hg1.out
          have k1 : (k : Int) < (L.length : Int) := by omega
          have k2 : (0 : Int) ≤ (k : Int) := by omega
          replace hx := hide hx; replace hout2 := hide hout2; replace hco := hide hco
          by_cases hxa : x.1 = a
          · have z1 : x.1.toList = a.toList := by rw [hxa]
            replace hxa := hide hxa
            go_wp2_with fail
            go_quiet (fail)
            go_wp2_with fail
            go_roundw
            case rel =>
              have ht : dropN b (dropN a (L.take (k + 1))) = dropN b (dropN a (L.take k)) := by
                rw [List.take_add_one, hx.out, Option.toList_some, drop_two, drop_gone1 hxa.out, List.append_nil]
              refine ⟨k + 1, pl, cl, ml, by omega, by go_num, rfl, ?_, ?_, ownsRow_wrote hrow2.out (Wrote.ext (B := 0) (T := fun _ => False) ((Ext.refl wr).drewN _)) id rfl, hlq, hX2.out.1.trans ((Ext.refl wr).drewN _), Nat.le_trans hX2.out.2 (Ext.size ((Ext.refl wr).drewN _))⟩
              · show _ = _
                rw [ht]; exact hml.out
              · show World.ownsRow _ _ _ _ _ _ _
                rw [ht]; exact ownsRow_wrote hleft.out (Wrote.ext (B := 0) (T := fun _ => False) ((Ext.refl wr).drewN _)) id rfl
            case measure => simp [intOf]; omega
          · by_cases hxb : x.1 = b
            · have z1 : ¬ x.1.toList = a.toList := fun e => hxa (by simpa [ByteArray.toList_eq, ByteArray.ext_iff] using e)
              have z2 : x.1.toList = b.toList := by rw [hxb]
              have z3 : ¬ b.toList = a.toList := fun e => z1 (z2.trans e)
              replace hxa := hide hxa; replace hxb := hide hxb
              go_wp2_with fail
              go_quiet (fail)
              go_wp2_with fail
              go_roundw
              case rel =>
                have ht : dropN b (dropN a (L.take (k + 1))) = dropN b (dropN a (L.take k)) := by
                  rw [List.take_add_one, hx.out, Option.toList_some, drop_two, drop_gone2 hxb.out, List.append_nil]
                refine ⟨k + 1, pl, cl, ml, by omega, by go_num, rfl, ?_, ?_, ownsRow_wrote hrow2.out (Wrote.ext (B := 0) (T := fun _ => False) ((Ext.refl wr).drewN _)) id rfl, hlq, hX2.out.1.trans ((Ext.refl wr).drewN _), Nat.le_trans hX2.out.2 (Ext.size ((Ext.refl wr).drewN _))⟩
                · show _ = _
                  rw [ht]; exact hml.out
                · show World.ownsRow _ _ _ _ _ _ _
                  rw [ht]; exact ownsRow_wrote hleft.out (Wrote.ext (B := 0) (T := fun _ => False) ((Ext.refl wr).drewN _)) id rfl
              case measure => simp [intOf]; omega
            · have z1 : ¬ x.1.toList = a.toList := fun e => hxa (by simpa [ByteArray.toList_eq, ByteArray.ext_iff] using e)
              have z2 : ¬ x.1.toList = b.toList := fun e => hxb (by simpa [ByteArray.toList_eq, ByteArray.ext_iff] using e)
              have z4 : (x.1.toList == b.toList) = false := by simpa using z2
              have z5 : (x.1.toList == a.toList) = false := by simpa using z1
              have ht : dropN b (dropN a (L.take (k + 1))) = dropN b (dropN a (L.take k)) ++ [x] := by
                rw [List.take_add_one, hx.out, Option.toList_some, drop_two, drop_stays hxa hxb]
              have hkk : (dropN b (dropN a (L.take k))).length ≤ k := by
                have h1 := (dropK_sub (key := Prod.fst) b (dropN a (L.take k))).length_le
                have h2 := (dropK_sub (key := Prod.fst) a (L.take k)).length_le
                have h3 : (L.take k).length ≤ k := by rw [List.length_take]; omega
                exact Nat.le_trans h1 (Nat.le_trans h2 h3)
              replace hxa := hide hxa; replace hxb := hide hxb; replace ht := hide ht; replace hkk := hide hkk
              go_wp2_with fail
              go_quiet (fail)
              have Xq := (Ext.refl wr).drewN nq
              generalize wr.drewN nq = wq at *
              have p0 := Xq.cells x0
              have p1 := Xq.cells x1
              have E1 := (Ext.refl wq).alloc (.cells #[.string x.1, .int .i64 (x.2 : Int)] 117)
              have hlf := hide (ownsRow_wrote hleft.out (Wrote.ext (B := 0) (T := fun _ => False) (Xq.trans E1)) id rfl)
              have hnew : ∀ j u, (cNm x)[j]? = some u → (wq.alloc (.cells #[.string x.1, .int .i64 (x.2 : Int)] 117)).cell? ((⟨wq.heap.size, 0, none⟩ : Addr).add j) = some u := fun j u hu => by
                rw [add_eq, Nat.zero_add]
                simp only [World.cell?, heap_alloc_new wq (.cells #[.string x.1, .int .i64 (x.2 : Int)] 117)]
                simpa [cNm] using hu
              have hbs : w.heap.size ≤ (wq.alloc (.cells #[.string x.1, .int .i64 (x.2 : Int)] 117)).heap.size := Ext.size ((hX2.out.1.trans Xq).trans E1)
              have hmlq := hml.out
              subst hmlq
              replace hnew := hide hnew; replace Xq := hide Xq; replace E1 := hide E1; replace hbs := hide hbs
              clear x0 x1 y0 y1
              go_wp2_with (at_builtin; go_must (refine wpList_append_lies _ rfl _ _ 114 rfl w.heap.size 117 i0 (.agg #[.string ⟨#[]⟩, .int .i64 0]) 2 24 Try.underlying114 hi0.out hz0 hz1 hz2 rfl (by omega) _ (dropN b (dropN a (L.take k))).length (cellsG cNm (dropN b (dropN a (L.take k)))) rfl hlf.out ⟨wq.heap.size, 0, none⟩ 1 1 (cNm x) rfl rfl hnew.out (cNm_one x) (by omega) (by have := hkk.out; unfold maxLen; omega) (by have := hkk.out; omega) hbs.out _ rfl ?_; intro g1 cap1 w1 hown1 hgrow1 hat1 hlt1))
              go_roundw
              case rel =>
                have K1 : Kept (fun q => (Value.slice pl (dropN b (dropN a (L.take k))).length cl).ownBlock = some q) (wq.alloc (.cells #[.string x.1, .int .i64 (x.2 : Int)] 117)) w1 := ⟨hgrow1.os, hgrow1.tape, hgrow1.output, hgrow1.size, fun q hq hn => hgrow1.block q hq fun e => hn e.symm⟩
                have sw : wo.heap.size ≤ (wq.alloc (.cells #[.string x.1, .int .i64 (x.2 : Int)] 117)).heap.size := Nat.le_trans hX2.out.2 (Ext.size (Xq.out.trans E1.out))
                have w0o := Ext.size hX.out
                refine ⟨k + 1, some ⟨g1, 0, none⟩, cap1, _, by omega, by go_num, rfl, by show _ = _; rw [ht.out]; simp, ?_, ?_, ?_, ?_⟩
                · show World.ownsRow _ _ _ _ _ _ _
                  rw [ht.out]
                  have := hown1
                  simpa [cellsG] using this
                · refine rows_keptP (ownsRow_wrote hrow2.out (Wrote.ext (B := 0) (T := fun _ => False) (Xq.out.trans E1.out)) id rfl) K1 fun q hq he => ?_
                  have h1 := holt.out q hq
                  have h2 := hlq.out q he
                  omega
                · intro q hq
                  obtain rfl : g1 = q := by simpa [Value.ownBlock] using hq
                  rcases hat1 with h | h
                  · exact hlq.out g1 h
                  · omega
                · exact ⟨((hX2.out.1.trans Xq.out).trans E1.out).since K1 fun j hj => Nat.le_trans w0o (hlq.out j hj), Nat.le_trans sw hgrow1.size⟩
              case measure => simp [intOf]; omega
        · obtain rfl : k = L.length := by omega
          have y1 := hX2.out.1.cells hg1.out
          have y2 := hX2.out.1.cells hg2.out
          have hst : refStep L c = stepN L c := refStep_is (n := n) (by rw [hL.out]; exact play_ok fun c' h' => hok.out c' (List.mem_of_mem_take h')) (hok.out c (List.mem_of_getElem? hcc.out))
          have htk : playN (chs.take (i + 1)) = stepN L c := by rw [List.take_add_one, hcc.out, Option.toList_some, play_snoc, hL.out]
          have hlf := hleft.out
          have hmlq := hml.out
          rw [List.take_length] at hlf hmlq
          subst hmlq
          have hle := play_len (chs.take (i + 1))
          have hl9 : (chs.take (i + 1)).length ≤ 2000000000000 := by rw [List.length_take]; omega
          by_cases hb : b = noName
          · have hF : stepN L c = dropN b (dropN a L) := by rw [← hst]; unfold refStep; rw [hab.out]; simp only; rw [if_pos hb]
            have z1 : b.toList = [] := by rw [hb]; simp [ByteArray.toList_eq]
            replace hst := hide hst; replace htk := hide htk; replace hlf := hide hlf; replace hb := hide hb; replace hF := hide hF; replace hle := hide hle
            go_wp2_with fail
            go_roundw
            case rel => exact ⟨i + 1, pl, cl, _, by omega, by go_num, rfl, by show _ = _; rw [htk.out, hF.out], by show World.ownsRow _ _ _ _ _ _ _; rw [htk.out, hF.out]; exact hlf.out, hX2.out.1⟩
            case measure => simp [intOf]; omega
          · have hF : stepN L c = dropN b (dropN a L) ++ [(b, f)] := by rw [← hst]; unfold refStep; rw [hab.out]; simp only; rw [if_neg hb]
            have z1 : ¬ b.toList = [] := fun e => hb (by
              apply ByteArray.ext
              apply Array.toList_inj.1
              simpa [ByteArray.toList_eq] using e)
            have z2 : (b.toList == []) = false := by simpa using z1
            have E1 := (Ext.refl wr).drew.alloc (.cells #[.string b, .int .i64 (f : Int)] 117)
            have hlg := hide (ownsRow_wrote hlf (Wrote.ext (B := 0) (T := fun _ => False) E1) id rfl)
            have hnew : ∀ j u, (cNm (b, f))[j]? = some u → (wr.drew.alloc (.cells #[.string b, .int .i64 (f : Int)] 117)).cell? ((⟨wr.heap.size, 0, none⟩ : Addr).add j) = some u := fun j u hu => by
              rw [add_eq, Nat.zero_add]
              simp only [World.cell?, heap_alloc_new wr.drew (.cells #[.string b, .int .i64 (f : Int)] 117), show wr.heap.size = wr.drew.heap.size from rfl]
              simpa [cNm] using hu
            have hbs : w.heap.size ≤ (wr.drew.alloc (.cells #[.string b, .int .i64 (f : Int)] 117)).heap.size := Ext.size (hX2.out.1.trans E1)
            have hkk : (dropN b (dropN a L)).length ≤ 2000000000000 := by
              have h1 := (dropK_sub (key := Prod.fst) b (dropN a L)).length_le
              have h2 := (dropK_sub (key := Prod.fst) a L).length_le
              exact Nat.le_trans h1 (Nat.le_trans h2 hL1)
            replace hst := hide hst; replace htk := hide htk; replace hlf := hide hlf; replace hb := hide hb; replace hF := hide hF; replace hle := hide hle; replace hnew := hide hnew; replace E1 := hide E1; replace hbs := hide hbs; replace hkk := hide hkk
            go_wp2_with fail
            go_region_law (refine step_append_lies _ rfl (.tmp 57) (.tmp 69) 114 rfl w.heap.size 117 i0 (.agg #[.string ⟨#[]⟩, .int .i64 0]) 2 24 Try.underlying114 hi0.out hz0 hz1 hz2 rfl (by omega) (.slice pl (dropN b (dropN a L)).length cl) (dropN b (dropN a L)).length (cellsG cNm (dropN b (dropN a L))) (by simp [Act.eval]) hlg.out ⟨wr.heap.size, 0, none⟩ 1 1 (cNm (b, f)) (by simp [Act.eval]) rfl hnew.out (cNm_one (b, f)) (by omega) (by have := hkk.out; unfold maxLen; omega) (by have := hkk.out; omega) hbs.out (wr.heap.size + 1) (by simp) ?_; intro g1 cap1 w1 hown1 hgrow1 hat1 hlt1; replace hown1 := hide hown1; replace hgrow1 := hide hgrow1; replace hat1 := hide hat1; replace hlt1 := hide hlt1)
            all_goals
              go_wp2_with fail
              go_roundw
              case rel =>
                have K1 : Kept (fun q => (Value.slice pl (dropN b (dropN a L)).length cl).ownBlock = some q) (wr.drew.alloc (.cells #[.string b, .int .i64 (f : Int)] 117)) w1 := ⟨hgrow1.out.os, hgrow1.out.tape, hgrow1.out.output, hgrow1.out.size, fun q hq hn => hgrow1.out.block q hq fun e => hn e.symm⟩
                have w0o := Ext.size hX.out
                refine ⟨i + 1, some ⟨g1, 0, none⟩, cap1, _, by omega, by go_num, rfl, by show _ = _; rw [htk.out, hF.out]; simp, ?_, ?_⟩
                · show World.ownsRow _ _ _ _ _ _ _
                  rw [htk.out, hF.out]
                  have := hown1.out
                  simpa [cellsG] using this
                · exact (hX2.out.1.trans E1.out).since K1 fun j hj => Nat.le_trans w0o (hlq.out j hj)
              case measure => simp [intOf]; omega
    · obtain rfl : i = chs.length := by omega
      go_wp2_with fail
      go_ret
      have e := hm.out
      have hr := hrow.out
      rw [List.take_length] at e hr
      subst e
      exact ⟨po, co, rfl, hr, hX⟩
end Go.Proofs.Ytpkhmgonkbpjjaa
