/-
  The reference's Print: what it answers.
-/
import Derived.Test.YtjebmabffocobaaDoorLens
import Derived.Test.YtjebmabffocobaaDoorRefMays
namespace Go.Proofs.YtjebmabffocobaaDoor
open Go.RowKit

theorem extract_one {tx : ByteArray} {j : Nat} (h : j < tx.size) : (tx.extract j (j + 1)).data.toList = [tx[j]] := by
  have h' : j < tx.data.size := h
  rw [ByteArray.data_extract]
  apply List.ext_getElem?
  intro i
  cases i with
  | zero => simp ; rw [Array.getElem?_eq_getElem h']; rfl
  | succ i => simp; omega
theorem refs_one {l : List IDd} {x : IDd} (h : l[0]? = some x) : refsL (l.take 1) = (refL x).data.toList := by
  match l, h with
  | y :: l, h => simp at h; subst h; simp [refsL, Lib.join_one]
theorem refs_snoc {l : List IDd} {k : Nat} {x : IDd} (h : l[k]? = some x) (hk : 0 < k) : refsL (l.take (k + 1)) = refsL (l.take k) ++ [44, 32] ++ (refL x).data.toList := by
  match l, k, h with
  | y :: l, k + 1, h =>
    have h' : l[k]? = some x := by simpa using h
    unfold refsL
    rw [List.take_succ_cons, List.take_succ_cons, List.map_cons, List.map_cons, Lib.join_cons, Lib.join_cons]
    have := Lib.joinTail_take_succ [44, 32] (l.map fun x => (refL x).data.toList) k (refL x).data.toList (by simp [h'])
    rw [← List.map_take, ← List.map_take] at this
    rw [this]; simp
/-- The beginning of an After. -/
def partL (l : List IDd) (q : Nat) : List UInt8 := if q = 0 then [] else [32, 32, 97, 102, 116, 101, 114, 32, 61, 32, 91] ++ refsL (l.take q)
theorem part_one {l : List IDd} {x : IDd} (h : l[0]? = some x) : partL l 1 = [32, 32, 97, 102, 116, 101, 114, 32, 61, 32, 91] ++ (refL x).data.toList := by
  unfold partL; rw [if_neg (by omega), refs_one h]
theorem part_snoc {l : List IDd} {q : Nat} {x : IDd} (h : l[q]? = some x) (hq : 0 < q) : partL l (q + 1) = partL l q ++ [44, 32] ++ (refL x).data.toList := by
  unfold partL; rw [if_neg (by omega), if_neg (by omega), refs_snoc h hq]; simp
theorem part_all {l : List IDd} (h : 0 < l.length) : partL l l.length ++ [93, 10] = afterP l := by
  unfold partL afterP
  have : l.isEmpty = false := by cases l with
    | nil => simp at h
    | cons _ _ => rfl
  rw [if_neg (by omega), List.take_of_length_le (Nat.le_refl _), this]; rfl

set_option maxRecDepth 100000 in
set_option maxHeartbeats 6400000 in
theorem refPrint (v : Value) (l : List Resd) (w : World) (hv : RessV w v l) :
    Calls Tryd.prog 6 #[v] w fun e w' => e = .returned (.tuple #[.string (printS l), .int .i64 (printE l)]) ∧ Ext w w' := by
  have hv0 := hide hv
  obtain ⟨⟨a, cap, rfl, hcap, hmax, hs⟩, hfew⟩ := hv
  cases hm : mayAllB l
  · have H1 : Hid (printS l = ⟨#[]⟩) := by unfold printS; rw [hm]; rfl
    have H2 : Hid (printE l = 11) := by unfold printE; rw [hm]; rfl
    clear hs
    go_enter Tryd.func6, Tryd.ntmps6
    go_wp2_with fail
    refine (refMays _ l _ hv0.out).mono ?_
    rintro e w1 ⟨rfl, he1⟩
    replace he1 := hide he1
    go_wp2
    go_ret2
    exact ⟨by rw [unhide H1, unhide H2]; rfl, he1.out⟩
  · obtain ⟨h12, hall⟩ := may_each hm
    have H1 : Hid (printS l = ⟨(printL l).toArray⟩) := by unfold printS; rw [hm]; rfl
    have H2 : Hid (printE l = 0) := by unfold printE; rw [hm]; rfl
    replace hall := hide hall
    have hc10 := fun w => conv_one w 10 (by omega) (by omega)
    go_enter Tryd.func6, Tryd.ntmps6
    go_wp2_with fail
    refine (refMays _ l _ hv0.out).mono ?_
    rintro e w1 ⟨rfl, he1⟩
    replace he1 := hide he1
    go_wp2_with fail
    go_loopw [5, 7] (fun v5 i wr => ∃ (k : Nat) (sb : ByteArray), k ≤ l.length ∧ i = .int .i64 k ∧ v5 = .string sb ∧ sb.size ≤ 1500 * k ∧ Hid (sb.data.toList = printL (l.take k)) ∧ Ext w wr) (fun _ i _ => l.length - (intOf i).toNat)
    case atStart => exact ⟨0, ⟨#[]⟩, Nat.zero_le _, rfl, rfl, by simp [go_sem], rfl, he1.out.alloc _⟩
    case round =>
      obtain ⟨k, sb, hk, rfl, rfl, hsz, hsb, he⟩ := hrel
      by_cases hlt : k < l.length
      · rcases hs with rfl | ⟨b, off, rfl, hin⟩
        · simp at hlt
        obtain ⟨x, hx⟩ := some_of_lt hlt
        obtain ⟨g0, g1, c2, c3, g2, g3, hres⟩ := hin k x hx
        obtain ⟨a2, p2, rfl⟩ := hres.attrs.form
        obtain ⟨a3, p3, rfl⟩ := hres.after.form
        have hmx := hide (hall.out x (List.mem_of_getElem? hx))
        obtain ⟨⟨s1, s2⟩, ⟨n1, n2⟩, hsa, hsf⟩ := small_of_may hmx.out
        have hrl := hide (res_len (small_of_may hmx.out))
        have Hp := hide (print_take hx)
        have hA := hide hres.attrs; have hF := hide hres.after
        have G2 := hide g2; have G3 := hide g3
        replace g0 := he.cells g0; replace g1 := he.cells g1; clear g2 g3
        clear hres
        have i2 : (k : Int) < (l.length : Int) := by omega
        have i4 : (0 : Int) ≤ (k : Int) := by omega
        have t1 : (9223372036854775807 < sb.size + 9) = False := eq_false (by omega)
        have t2 : (9223372036854775807 < sb.size + 9 + x.id.kind.size) = False := eq_false (by omega)
        have t3 : (9223372036854775807 < sb.size + 9 + x.id.kind.size + 1) = False := eq_false (by omega)
        have t4 : (9223372036854775807 < sb.size + 9 + x.id.kind.size + 1 + x.id.name.size) = False := eq_false (by omega)
        have t5 : (9223372036854775807 < sb.size + 9 + x.id.kind.size + 1 + x.id.name.size + 2) = False := eq_false (by omega)
        have t6 : (9223372036854775807 < sb.size + 9 + x.id.kind.size + 1 + x.id.name.size + 2 + 1) = False := eq_false (by omega)
        replace hin := hide hin; replace hx := hide hx; replace he := hide he; replace hsa := hide hsa
        go_wp2_with fail
        go_quiet (fail)
        go_wp2_with fail
        have hE0 : Hid (Ext w (wr.drewN nq)) := he.out.drewN _
        go_loopw [5, 8] (fun v5 i wr => ∃ (m : Nat) (sc : ByteArray), m ≤ x.attrs.length ∧ i = .int .i64 m ∧ v5 = .string sc ∧ sc.size ≤ 1500 * k + 40 + 100 * m ∧ Hid (sc.data.toList = printL (l.take k) ++ headL x.id ++ (x.attrs.take m).flatMap attrP) ∧ Ext w wr) (fun _ i _ => x.attrs.length - (intOf i).toNat)
        case atStart =>
          refine ⟨0, _, Nat.zero_le _, rfl, rfl, ?_, ?_, hE0.out⟩
          · simp [ByteArray.size_append, go_sem]; omega
          · show _ = _; simp only [ba_list]; rw [hsb.out]; simp [headL, resW]
        case round =>
          obtain ⟨m, sc, hml, rfl, rfl, hcz, hsc, he2⟩ := hrel
          have e2 := he2.cells G2.out; have e3 := he2.cells G3.out
          clear g0 g1 t1 t2 t3 t4 t5 t6 hE0
          by_cases hlt2 : m < x.attrs.length
          · obtain ⟨⟨aa, cap2, hav, hcap2, hmax2, hs2⟩, hfew2, hok2⟩ := hA.out
            obtain ⟨rfl, rfl⟩ : aa = a2 ∧ cap2 = p2 := by simpa using hav.symm
            clear hav
            rcases hs2 with hs2 | ⟨b2, off2, rfl, hin2⟩
            · rw [hs2] at hlt2; simp at hlt2
            obtain ⟨y, hy⟩ := some_of_lt hlt2
            obtain ⟨f0, f1, f2, f3⟩ := (hin2.ext he2) m y hy
            obtain ⟨l1, l2, l3⟩ := hsa.out y (List.mem_of_getElem? hy)
            have hat : attrB y = true := by
              have := hmx.out; simp only [mayB, Bool.and_eq_true] at this
              exact List.all_eq_true.1 this.1.1.1.2 y (List.mem_of_getElem? hy)
            have Ht := hide (flat_take hy)
            have j2 : (m : Int) < (x.attrs.length : Int) := by omega
            have j4 : (0 : Int) ≤ (m : Int) := by omega
            replace hin2 := hide hin2; replace hok2 := hide hok2; replace hy := hide hy; replace he2 := hide he2
            obtain ⟨nm, t, tx, num⟩ := y
            dsimp only at f0 f1 f2 f3 l2
            cases t
            · have hnum : -1000000000 ≤ num ∧ num ≤ 1000000000 := by simp [attrB] at hat; exact ⟨hat.2.2.1, hat.2.2.2⟩
              have hil := itoa_len hnum.1 hnum.2
              replace hat := hide hat
              go_wp2_with fail
              refine (refDecimal num _ hnum.1 hnum.2).mono ?_
              rintro e w2 ⟨rfl, he3⟩
              replace he3 := hide he3
              have HL : Hid (attrP ⟨nm, false, tx, num⟩ = [32, 32] ++ nm.data.toList ++ [32, 61, 32] ++ Lib.itoa num ++ [10]) := rfl
              replace l1 := hide l1; replace l3 := hide l3
              generalize hdl : Lib.itoa num = dl at *
              go_wp2_with fail
              go_roundw
              case rel =>
                refine ⟨m + 1, _, by omega, by go_num, rfl, ?_, ?_, (he2.out.alloc _).trans he3.out⟩
                · simp [ByteArray.size_append, go_sem]; omega
                · show _ = _; simp only [ba_list]; rw [unhide Ht, unhide HL, hsc.out]; simp
              case measure => simp [intOf]; omega
            · have htl : tx.data.toList.length ≤ 20 := by simp [attrB] at hat; exact string_len hat.2.1
              have htz : tx.size ≤ 20 := by rw [← size_toList]; exact htl
              replace hat := hide hat; replace l1 := hide l1; replace l3 := hide l3
              have hc34 := fun w => conv_one w 34 (by omega) (by omega)
              have hc34' := fun o => conv_at ((wr.alloc o).alloc (.cells #[.int .u8 34] 5)) (wr.heap.size + 1) 34 (by omega) (by omega) (by simp [go_sem])
              have HL : Hid (attrP ⟨nm, true, tx, num⟩ = [32, 32] ++ nm.data.toList ++ [32, 61, 32] ++ (34 :: (tx.data.toList.flatMap escL ++ [34])) ++ [10]) := rfl
              go_wp2_with fail
              have hE3 : Hid (Ext w ((wr.alloc (.cells #[.string nm, .bool true, .string tx, .int .i64 num] 40)).alloc (.cells #[.int .u8 34] 5))) := (he2.out.alloc _).alloc _
              have hV : Hid (((wr.alloc (.cells #[.string nm, .bool true, .string tx, .int .i64 num] 40)).alloc (.cells #[.int .u8 34] 5)).cell? ⟨wr.heap.size, 2, none⟩ = some (.string tx)) := by
                show _ = _; simp [go_sem, World.cell?_alloc_past]
              go_loopw [5, 10] (fun v5 i wr3 => ∃ (j : Nat) (sd : ByteArray), j ≤ tx.size ∧ i = .int .i64 j ∧ v5 = .string sd ∧ sd.size ≤ sc.size + 20 + 2 * j ∧ Hid (sd.data.toList = sc.data.toList ++ [32, 32] ++ nm.data.toList ++ [32, 61, 32] ++ (34 :: (tx.data.toList.take j).flatMap escL)) ∧ wr3.cell? ⟨wr.heap.size, 2, none⟩ = some (.string tx) ∧ Ext w wr3) (fun _ i _ => tx.size - (intOf i).toNat)
              case atStart =>
                refine ⟨0, _, Nat.zero_le _, rfl, rfl, ?_, ?_, hV.out, hE3.out⟩
                · simp [ByteArray.size_append, go_sem]; omega
                · show _ = _; simp only [ba_list]; simp
              case round =>
                obtain ⟨j, sd, hjl, rfl, rfl, hdz, hsd, hcell, he4⟩ := hrel
                by_cases hlt3 : j < tx.size
                · have hlt3' : j < tx.data.toList.length := by rw [size_toList]; exact hlt3
                  have hjx : tx.data.toList[j] = tx[j] := rfl
                  have Hfl := hide (take_flat hlt3')
                  have hby : (0 : Int) ≤ (tx[j].toNat : Int) ∧ (tx[j].toNat : Int) ≤ 255 := by have := tx[j].toNat_lt; omega
                  have hc2 := fun w => conv_two w 92 110 (by omega) (by omega) (by omega) (by omega)
                  have hc3 := fun w => conv_two w 92 34 (by omega) (by omega) (by omega) (by omega)
                  have hc4 := fun w => conv_two w 92 92 (by omega) (by omega) (by omega) (by omega)
                  replace he4 := hide he4
                  rw [hjx] at Hfl
                  clear hjx
                  by_cases h10 : tx[j] = 10
                  · have hb : (tx[j].toNat : Int) = 10 := by rw [h10]; rfl
                    have He : Hid (escL tx[j] = [92, 110]) := by rw [h10]; rfl
                    clear h10
                    go_wp2_with fail
                    go_roundw
                    case rel =>
                      refine ⟨j + 1, _, by omega, by go_num, rfl, ?_, ?_, ((Ext.refl _).alloc _).cells hcell, he4.out.alloc _⟩
                      · simp [ByteArray.size_append, go_sem]; omega
                      · show _ = _; simp only [ba_list]; rw [unhide Hfl, unhide He, hsd.out]; simp
                    case measure => simp [intOf]; omega
                  by_cases h34 : tx[j] = 34
                  · have hb : (tx[j].toNat : Int) = 34 := by rw [h34]; rfl
                    have He : Hid (escL tx[j] = [92, 34]) := by rw [h34]; rfl
                    clear h34 h10
                    go_wp2_with fail
                    go_roundw
                    case rel =>
                      refine ⟨j + 1, _, by omega, by go_num, rfl, ?_, ?_, ((Ext.refl _).alloc _).cells hcell, he4.out.alloc _⟩
                      · simp [ByteArray.size_append, go_sem]; omega
                      · show _ = _; simp only [ba_list]; rw [unhide Hfl, unhide He, hsd.out]; simp
                    case measure => simp [intOf]; omega
                  by_cases h92 : tx[j] = 92
                  · have hb : (tx[j].toNat : Int) = 92 := by rw [h92]; rfl
                    have He : Hid (escL tx[j] = [92, 92]) := by rw [h92]; rfl
                    clear h34 h10 h92
                    go_wp2_with fail
                    go_roundw
                    case rel =>
                      refine ⟨j + 1, _, by omega, by go_num, rfl, ?_, ?_, ((Ext.refl _).alloc _).cells hcell, he4.out.alloc _⟩
                      · simp [ByteArray.size_append, go_sem]; omega
                      · show _ = _; simp only [ba_list]; rw [unhide Hfl, unhide He, hsd.out]; simp
                    case measure => simp [intOf]; omega
                  have He : Hid (escL tx[j] = [tx[j]]) := by unfold escL; rw [if_neg (by simp [h34, h92]), if_neg h10]; rfl
                  have b1 : ((tx[j].toNat : Int) == 92) = false := byte_ne (d := 92) h92
                  have b2 : ((tx[j].toNat : Int) == 34) = false := byte_ne (d := 34) h34
                  have b3 : ((tx[j].toNat : Int) == 10) = false := byte_ne (d := 10) h10
                  clear h34 h10 h92
                  go_wp2_with fail
                  go_roundw
                  case rel =>
                    refine ⟨j + 1, _, by omega, by go_num, rfl, ?_, ?_, hcell, he4.out⟩
                    · rw [ByteArray.size_append, ← size_toList (tx.extract j (j + 1)), extract_one hlt3]; simp; omega
                    · show _ = _; rw [ba_list, extract_one hlt3, unhide Hfl, unhide He, hsd.out]; simp
                  case measure => simp [intOf]; omega
                · have Htk : Hid (tx.data.toList.take j = tx.data.toList) := List.take_of_length_le (by rw [size_toList]; omega)
                  replace he4 := hide he4
                  go_wp2_with fail
                  go_roundw
                  case rel =>
                    refine ⟨m + 1, _, by omega, by go_num, rfl, ?_, ?_, he4.out.alloc _⟩
                    · simp [ByteArray.size_append, go_sem]; omega
                    · show _ = _; simp only [ba_list]; rw [unhide Ht, unhide HL, hsd.out, hsc.out, unhide Htk]; simp
                  case measure => simp [intOf]; omega
          · obtain rfl : m = x.attrs.length := by omega
            have hsc2 : Hid (sc.data.toList = printL (l.take k) ++ headL x.id ++ x.attrs.flatMap attrP) := by
              have := hsc.out; rw [List.take_of_length_le (Nat.le_refl _)] at this; exact this
            have hall2 : Hid (∀ z ∈ x.after, idB z = true) := by
              have := hmx.out; simp only [mayB, Bool.and_eq_true] at this
              exact fun z hz => List.all_eq_true.1 this.1.2 z hz
            replace he2 := hide he2
            clear hsc
            go_wp2_with fail
            go_loopw [5, 11] (fun v5 i wr => ∃ (q : Nat) (se : ByteArray), q ≤ x.after.length ∧ i = .int .i64 q ∧ v5 = .string se ∧ se.size ≤ sc.size + 20 + 60 * q ∧ Hid (se.data.toList = sc.data.toList ++ partL x.after q) ∧ Ext w wr) (fun _ i _ => x.after.length - (intOf i).toNat)
            case atStart => exact ⟨0, sc, Nat.zero_le _, rfl, rfl, by omega, by simp [Hid, partL], he2.out⟩
            case round =>
              obtain ⟨q, se, hql, rfl, rfl, hez, hse, he4⟩ := hrel
              have e3 := he4.cells G3.out
              clear e2
              by_cases hlt3 : q < x.after.length
              · obtain ⟨⟨aa, cap3, hav, hcap3, hmax3, hs3⟩, hfew3, hok3⟩ := hF.out
                obtain ⟨rfl, rfl⟩ : aa = a3 ∧ cap3 = p3 := by simpa using hav.symm
                clear hav
                rcases hs3 with hs3 | ⟨b3, off3, rfl, hin3⟩
                · rw [hs3] at hlt3; simp at hlt3
                obtain ⟨z, hz⟩ := some_of_lt hlt3
                obtain ⟨f0, f1⟩ := (hin3.ext he4) q z hz
                have hzb := hall2.out z (List.mem_of_getElem? hz)
                have z1 : z.kind.size ≤ 12 := by simp only [idB, Bool.and_eq_true] at hzb; exact word_size hzb.1
                have z2 : z.name.size ≤ 12 := by simp only [idB, Bool.and_eq_true] at hzb; exact word_size hzb.2
                have j2 : (q : Int) < (x.after.length : Int) := by omega
                have j4 : (0 : Int) ≤ (q : Int) := by omega
                have HR : Hid ((refL z).data.toList = z.kind.data.toList ++ 46 :: z.name.data.toList) := rfl
                by_cases hq0 : q = 0
                · have e0 : ((q : Int) == 0) = true := by simpa using hq0
                  have Hp1 : Hid (partL x.after (q + 1) = partL x.after q ++ [32, 32, 97, 102, 116, 101, 114, 32, 61, 32, 91] ++ (refL z).data.toList) := by
                    subst hq0; show _ = _; rw [part_one hz]; simp [partL]
                  have t2 : (9223372036854775807 < se.size + 11 + z.kind.size) = False := eq_false (by omega)
                  have t3 : (9223372036854775807 < se.size + 11 + z.kind.size + 1) = False := eq_false (by omega)
                  have t4 : (9223372036854775807 < se.size + 11 + z.kind.size + 1 + z.name.size) = False := eq_false (by omega)
                  replace hin3 := hide hin3; replace hok3 := hide hok3; replace hz := hide hz; replace he4 := hide he4; replace hq0 := hide hq0; replace hzb := hide hzb
                  go_wp2_with fail
                  go_quiet (fail)
                  go_wp2_with fail
                  go_roundw
                  case rel =>
                    refine ⟨q + 1, _, by omega, by go_num, rfl, ?_, ?_, he4.out.drewN _⟩
                    · simp [ByteArray.size_append, go_sem]; omega
                    · show _ = _; simp only [ba_list]; rw [unhide Hp1, unhide HR, hse.out]; simp
                  case measure => simp [intOf]; omega
                · have e0 : ((q : Int) == 0) = false := by simpa using hq0
                  have Hp1 := hide (part_snoc hz (by omega))
                  have t2 : (9223372036854775807 < se.size + 2 + z.kind.size) = False := eq_false (by omega)
                  have t3 : (9223372036854775807 < se.size + 2 + z.kind.size + 1) = False := eq_false (by omega)
                  have t4 : (9223372036854775807 < se.size + 2 + z.kind.size + 1 + z.name.size) = False := eq_false (by omega)
                  replace hin3 := hide hin3; replace hok3 := hide hok3; replace hz := hide hz; replace he4 := hide he4; replace hq0 := hide hq0; replace hzb := hide hzb
                  go_wp2_with fail
                  go_quiet (fail)
                  go_wp2_with fail
                  go_roundw
                  case rel =>
                    refine ⟨q + 1, _, by omega, by go_num, rfl, ?_, ?_, he4.out.drewN _⟩
                    · simp [ByteArray.size_append, go_sem]; omega
                    · show _ = _; simp only [ba_list]; rw [unhide Hp1, unhide HR, hse.out]; simp
                  case measure => simp [intOf]; omega
              · obtain rfl : q = x.after.length := by omega
                replace he4 := hide he4
                by_cases h0 : x.after.length = 0
                · have hz : ¬ (0 : Int) < (x.after.length : Int) := by omega
                  have hz' : decide (0 < x.after.length) = false := decide_eq_false (by omega)
                  have hz'' : decide ((0 : Int) < (x.after.length : Int)) = false := decide_eq_false (by omega)
                  have Hf : Hid (partL x.after x.after.length = afterP x.after) := by
                    have := List.eq_nil_of_length_eq_zero h0; show _ = _; rw [this]; rfl
                  replace h0 := hide h0
                  go_wp2_with fail
                  go_roundw
                  case rel =>
                    have Heq : (se ++ ({ data := #[125] } : ByteArray) ++ { data := #[10] }).data.toList = printL (l.take k) ++ resL x := by
                      simp only [ba_list]; rw [hse.out, hsc2.out, unhide Hf]; simp [resL]
                    refine ⟨k + 1, _, by omega, by go_num, rfl, ?_, ?_, he4.out⟩
                    · rw [← size_toList, Heq, List.length_append]
                      have h1 : (printL (l.take k)).length ≤ 1500 * k := by rw [← hsb.out, size_toList]; exact hsz
                      have := hrl.out; omega
                    · show _ = _; rw [Heq, unhide Hp]
                  case measure => simp [intOf]; omega
                · have hz : (0 : Int) < (x.after.length : Int) := by omega
                  have hz' : 0 < x.after.length := by omega
                  have Hf := hide (part_all hz')
                  replace h0 := hide h0
                  go_wp2_with fail
                  go_roundw
                  case rel =>
                    have Heq : (se ++ ({ data := #[93] } : ByteArray) ++ { data := #[10] } ++ { data := #[125] } ++ { data := #[10] }).data.toList = printL (l.take k) ++ resL x := by
                      simp only [ba_list]; rw [hse.out, hsc2.out, resL, ← unhide Hf]; simp
                    refine ⟨k + 1, _, by omega, by go_num, rfl, ?_, ?_, he4.out⟩
                    · rw [← size_toList, Heq, List.length_append]
                      have h1 : (printL (l.take k)).length ≤ 1500 * k := by rw [← hsb.out, size_toList]; exact hsz
                      have := hrl.out; omega
                    · show _ = _; rw [Heq, unhide Hp]
                  case measure => simp [intOf]; omega
      · have Hl : Hid (sb = ⟨(printL l).toArray⟩) := by
          have := hsb.out; rw [List.take_of_length_le (by omega)] at this
          show _ = _
          cases sb with | mk d => cases d with | mk dl => simp at this; rw [this]
        replace he := hide he; replace hs := hide hs
        go_wp2
        go_ret2
        exact ⟨by rw [unhide H1, unhide H2, unhide Hl]; rfl, he.out⟩
end Go.Proofs.YtjebmabffocobaaDoor
