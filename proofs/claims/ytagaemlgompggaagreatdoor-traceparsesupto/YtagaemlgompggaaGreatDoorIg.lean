/- The plain ParseTrace. -/
import Derived.Test.YtagaemlgompggaaGreatDoorIfM
namespace Go.Proofs.YtagaemlgompggaaGreatDoor
open Go.RowKit
set_option maxRecDepth 100000

theorem cut10 (t : ByteArray) : (cutAll t 10).map bl = splitL 10 (bl t) := cut_split t 10
theorem cutAll_len (s : ByteArray) (c : Int) : (cutAll s c).length ≤ s.size + 1 := by
  have := cutN_len s c s.size
  unfold cutAll
  simp
  omega
/-- What the lines must be. -/
theorem plain_no1 {t : ByteArray} (h : (cutAll t 10).length < 2) : parseF t = none := by
  rw [parse_plain, ← cut10]
  match hc : cutAll t 10, h with
  | [], _ => rfl
  | [_], _ => rfl
theorem plain_no2 {t : ByteArray} {ls : List ByteArray} {z : ByteArray} (h : cutAll t 10 = ls ++ [z]) (hz : z.size ≠ 0) : parseF t = none := by
  rw [parse_plain, ← cut10, h]
  have hz' : bl z ≠ [] := fun e => hz (by rw [size_bl, e]; rfl)
  match ls with
  | [] => rfl
  | a :: q =>
    have key : ∀ P : List (List UInt8), P = (q ++ [z]).map bl → plainP (bl a :: P) = none := by
      intro P hP
      cases hc : P with
      | nil => rw [hc] at hP; simp at hP
      | cons y r =>
        unfold plainP
        dsimp only
        rw [if_neg]
        intro hh
        apply hz'
        have h1 : P.getLast (by rw [hc]; simp) = bl z := by simp [hP]
        have h2 : P.getLast (by rw [hc]; simp) = [] := by simpa [hc] using hh.1
        rw [← h1, h2]
    exact key _ rfl
theorem plain_all {t : ByteArray} {a : ByteArray} {r : List ByteArray} {z : ByteArray} (h : cutAll t 10 = a :: (r ++ [z])) (hz : z.size = 0) :
    parseF t = if headW a = startB ∧ (∀ x ∈ r, headW x = inB) then if fitL (rowW a) (r.map rowW) = 0 then some (rowW a, r.map rowW) else none else none := by
  have hz' : bl z = [] := by rw [size_bl] at hz; exact List.length_eq_zero_iff.1 hz
  rw [parse_plain, ← cut10, h]
  have key : ∀ P : List (List UInt8), P = (r ++ [z]).map bl → plainP (bl a :: P) = if headW a = startB ∧ (∀ x ∈ r, headW x = inB) then if fitL (rowW a) (r.map rowW) = 0 then some (rowW a, r.map rowW) else none else none := by
    intro P hP
    cases hc : P with
    | nil => rw [hc] at hP; simp at hP
    | cons y q =>
      have hP' : P = r.map bl ++ [[]] := by rw [hP, List.map_append]; simp [hz']
      have hd : (y :: q).dropLast = r.map bl := by rw [← hc, hP', List.dropLast_concat]
      have hg : (y :: q).getLast (by simp) = [] := by
        have : P.getLast (by rw [hc]; simp) = [] := by simp [hP']
        simpa [hc] using this
      have hm : (r.map bl).map rowP = r.map rowW := by
        rw [List.map_map]
        exact List.map_congr_left fun x _ => (rowW_row x).symm
      have e1 : ∀ (x f : ByteArray), headP (bl x) = bl f ↔ headW x = f := fun x f => by
        rw [← headW_head]
        exact ⟨fun e => ba_eq e, fun e => by rw [e]⟩
      have e2 : ((y :: q).getLast (by simp) = [] ∧ headP (bl a) = bl startB ∧ (∀ x ∈ (y :: q).dropLast, headP x = bl inB)) ↔ (headW a = startB ∧ ∀ x ∈ r, headW x = inB) := by
        rw [hd, e1]
        constructor
        · rintro ⟨_, h1, h2⟩
          exact ⟨h1, fun x hx => (e1 x inB).1 (h2 _ (List.mem_map.2 ⟨x, hx, rfl⟩))⟩
        · rintro ⟨h1, h2⟩
          refine ⟨hg, h1, fun x hx => ?_⟩
          obtain ⟨u, hu, rfl⟩ := List.mem_map.1 hx
          exact (e1 u inB).2 (h2 u hu)
      unfold plainP
      dsimp only
      by_cases hcnd : headW a = startB ∧ ∀ x ∈ r, headW x = inB
      · rw [if_pos (e2.2 hcnd), if_pos hcnd, hd, hm, rowW_row]
      · rw [if_neg (fun e => hcnd (e2.1 e)), if_neg hcnd]
  exact key _ rfl

theorem mem_le_sum {l : List (List UInt8)} {x : List UInt8} (h : x ∈ l) : x.length ≤ (l.map List.length).sum := by
  induction l with
  | nil => cases h
  | cons a l ih =>
    simp only [List.map_cons, List.sum_cons]
    rcases List.mem_cons.1 h with rfl | h
    · omega
    · have := ih h; omega
theorem piece_le {t x : ByteArray} (h : x ∈ cutAll t 10) : x.size ≤ t.size := by
  have h1 := splitL_len 10 (bl t)
  have h2 := mem_le_sum (l := splitL 10 (bl t)) (x := bl x) (by rw [← cut10]; exact List.mem_map.2 ⟨x, h, rfl⟩)
  have h3 : 0 < (splitL 10 (bl t)).length := List.length_pos_iff.2 (splitL_ne _ _)
  rw [size_bl, size_bl]
  omega
theorem ints_one (w : World) (x : Int) : IntsAt (w.alloc (.cells #[.int .i64 x] 3)) (some ⟨w.heap.size, 0, none⟩) [x] := fun _ => ⟨w.heap.size, 0, rfl, fun i hi => by
  match i, hi with
  | 0, _ => simp [go_sem]⟩

set_option maxHeartbeats 16000000 in
theorem parseTrace_any (t : ByteArray) (hs : t.size ≤ 100000000) (w : World) :
    Calls Tryz.prog 9 #[.string t] w fun e w' => ParseOut t e w' ∧ Below w.heap.size w w' := by
  have hbA : Below w.heap.size w (w.alloc (.cells #[.slice none 0 0, .slice none 0 0] 25)) := bal (Below.refl _ _) _
  have HCU := hide (cut_any t 10 (by omega) (w.alloc (.cells #[.slice none 0 0, .slice none 0 0] 25)))
  have hlen := cutAll_len t 10
  have HN1 := hide (@plain_no1 t)
  have HN2 := hide (fun (ls : List ByteArray) (z : ByteArray) (h : cutAll t 10 = ls ++ [z]) (hz : z.size ≠ 0) => plain_no2 h hz)
  have HPL := hide (fun (x : ByteArray) (h : x ∈ cutAll t 10) => piece_le h)
  have HAL := hide (fun (a : ByteArray) (r : List ByteArray) (z : ByteArray) (h : cutAll t 10 = a :: (r ++ [z])) (hz : z.size = 0) => plain_all h hz)
  generalize hls : cutAll t 10 = ls at *
  go_enter Tryz.func9, Tryz.ntmps9
  go_wp2_with fail
  refine HCU.out.mono ?_
  rintro e w1 ⟨v, rfl, hown, hb1⟩
  obtain ⟨lp, lc, rfl, hst⟩ := strs_of hown
  have hsz1 := hb1.size
  simp at hsz1
  have HB1 := hide (belowAl hbA hb1)
  have HST := hide hst
  have d0 := cell_later hb1 (a := ⟨w.heap.size, 0, none⟩) (v := .slice none 0 0) (by simp [go_sem])
  have d1 := cell_later hb1 (a := ⟨w.heap.size, 1, none⟩) (v := .slice none 0 0) (by simp [go_sem])
  have g0 : w1.heap[w.heap.size]? = some (.cells #[.slice none 0 0, .slice none 0 0] 25 (0, 0)) := (hb1.block _ (by simp)).trans (heap_alloc_new w _)
  have f0 : w1.frozen? ⟨w.heap.size, 0, none⟩ = false := Lib.frozen_of_heap g0 0
  have f1 : w1.frozen? ⟨w.heap.size, 1, none⟩ = false := Lib.frozen_of_heap g0 1
  have HG0 := hide g0
  clear hown hb1 hbA hst HCU g0
  by_cases h2 : ls.length < 2
  · have HP := hide (HN1.out h2)
    have hn : (ls.length : Int) - 1 < 1 := by omega
    have hw1 : wrap64 ((ls.length : Int) - 1) = (ls.length : Int) - 1 := by unfold wrap64; omega
    go_wp2
    exact bodyPost_ret (v := .tuple #[.agg #[.slice none 0 0, .slice none 0 0], .int .i64 1]) (by simp [results, Tryz.results9, go_sem, d0, d1]) rfl ⟨parseOut_no HP.out, (HB1.out.setCell (by simp) _).setCell (by simp) _⟩
  · obtain ⟨ks, z, rfl⟩ : ∃ ks z, ls = ks ++ [z] := ⟨ls.dropLast, ls.getLast (fun e => by rw [e] at h2; simp at h2), (List.dropLast_concat_getLast _).symm⟩
    have hkl : (ks ++ [z]).length = ks.length + 1 := by simp
    rw [hkl] at h2 hlen ⊢
    have hk1 : 1 ≤ ks.length := by omega
    obtain ⟨lb, lo, hlp, hcl⟩ := HST.out.cell (by simp)
    subst hlp
    have hz := hcl ks.length (by simp)
    rw [List.getElem_append_right (Nat.le_refl _)] at hz
    simp only [Nat.sub_self, List.getElem_cons_zero] at hz
    have hn : ¬ ((ks.length : Int) < 1) := by omega
    have hw1 : wrap64 (((ks.length + 1 : Nat) : Int) - 1) = (ks.length : Int) := by unfold wrap64; omega
    have hi0 : (0 : Int) ≤ (ks.length : Int) := by omega
    have hi1 : (ks.length : Int) < ((ks.length + 1 : Nat) : Int) := by omega
    clear hcl
    by_cases hz0 : z.size = 0
    · have hre : z = ⟨#[]⟩ := by
        apply ByteArray.ext
        exact Array.size_eq_zero_iff.1 hz0
      have HZ0 := hide hz0
      subst hre
      have HPU0 : Hid (Pu w1 (w1.alloc (.cells #[.slice none 0 0, .slice none 0 0] 25)) ⟨none, [], 0⟩ (.slice none 0 0) []) :=
        ⟨heap_alloc_new w1 _, World.ownsRow_nil _ _ _ _, .inl ⟨rfl, rfl, rfl⟩, fun r hr => (by cases hr), bal (Below.refl _ _) _⟩
      clear hz0 d0 d1 f0 f1
      go_wp2
      clear hz
      go_loopw [7] (fun i wr => ∃ (k : Nat) (s : Row) (iv : Value) (rws : List Row), k ≤ ks.length ∧ i = .int .i64 k ∧ Hid (Pu w1 wr s iv rws) ∧ Hid (DoneW ks k s.ns (rws.map Row.ns)) ∧ Hid (rws.length ≤ k) ∧ Hid (∀ r ∈ s :: rws, Wide r)) (fun i _ => ks.length - (intOf i).toNat)
      case atStart => exact ⟨0, ⟨none, [], 0⟩, _, [], Nat.zero_le _, rfl, HPU0, ⟨rfl, rfl⟩, Nat.le_refl 0, fun r hr => by simp at hr; subst hr; exact ⟨by simp, fun n hn => by cases hn⟩⟩
      case round =>
        clear HPU0
        obtain ⟨k, ⟨sa, sn, sc⟩, iv, rws, hk, rfl, HPU, HDO, HLN, HWI⟩ := hrel
        have hszr := HPU.out.size
        have HBW := hide (belowAl HB1.out HPU.out.bel)
        have g0 : wr.heap[w.heap.size]? = some (.cells #[.slice none 0 0, .slice none 0 0] 25 (0, 0)) := (HPU.out.bel.block _ (by omega)).trans HG0.out
        have d0 : wr.cell? ⟨w.heap.size, 0, none⟩ = some (.slice none 0 0) := by rw [Lib.cell_of_heap g0]; rfl
        have d1 : wr.cell? ⟨w.heap.size, 1, none⟩ = some (.slice none 0 0) := by rw [Lib.cell_of_heap g0]; rfl
        have HG := hide g0
        obtain ⟨ip, ic, hiv, hrowsat, hinil⟩ := owns_rows HPU.out.own
        subst hiv
        by_cases hlt : k < ks.length
        · have hki : (k : Int) < (ks.length : Int) := by omega
          obtain ⟨lb', lo', hlp, hcl⟩ := (strs_below HST.out HPU.out.bel).cell (by simp)
          injection hlp with hlp
          injection hlp with hlb hlo _
          subst hlb
          subst hlo
          have hck := hcl k (by simp; omega)
          rw [List.getElem_append_left hlt] at hck
          have hsz := HPL.out ks[k] (List.mem_append_left _ (List.getElem_mem hlt))
          have HCU := hide (cut_any ks[k] 32 (by omega) wr)
          have hwl := cutAll_len ks[k] 32
          have HRW : Hid (rowW ks[k] = wordsN (cutAll ks[k] 32) (cutAll ks[k] 32).length) := rfl
          have HHW : Hid (headW ks[k] = (cutAll ks[k] 32).headD ⟨#[]⟩) := rfl
          have HNE := hide (cut32_ne ks[k])
          have HD0 : Hid (∀ h0 : k = 0, headW ks[k] = startB → DoneW ks (k + 1) (rowW ks[k]) (rws.map Row.ns)) := fun h0 h => by subst h0; exact done_first HDO.out hlt h
          have HD1 : Hid (k ≠ 0 → headW ks[k] = inB → DoneW ks (k + 1) sn (rws.map Row.ns ++ [rowW ks[k]])) := fun h0 h => done_next HDO.out h0 hlt h
          have HBAD : Hid ((k = 0 → headW ks[k] ≠ startB) → (k ≠ 0 → headW ks[k] ≠ inB) → parseF t = none) := by
            intro h0 h1
            obtain ⟨a, r, hks⟩ : ∃ a r, ks = a :: r := by
              cases ks with
              | nil => simp at hlt
              | cons a r => exact ⟨a, r, rfl⟩
            have hp := HAL.out a r ⟨#[]⟩ (by rw [hks]; rfl) HZ0.out
            rw [hp, if_neg]
            intro hh
            subst hks
            cases k with
            | zero => exact h0 rfl hh.1
            | succ j => exact h1 (by omega) (hh.2 _ (by simp))
          clear hcl
          generalize ks[k] = line at *
          generalize rowW line = RW at *
          generalize headW line = HW at *
          generalize hws : cutAll line 32 = ws at *
          clear hws
          go_wp2_with fail
          refine HCU.out.mono ?_
          rintro e w5 ⟨v5, rfl, hown5, hb5⟩
          obtain ⟨wp, wc, rfl, hst5⟩ := strs_of hown5
          have HST5 := hide hst5
          have HPU5 := hide (HPU.out.call hb5)
          clear hown5 hst5 hb5 HCU HPU hck
          go_wp2
          go_loopw [9, 10] (fun v i2 wq => ∃ j : Nat, 1 ≤ j ∧ j ≤ ws.length ∧ i2 = .int .i64 j ∧ Hid (wq.ownsRow w5.heap.size 3 1 v (wordsN ws j).length ((wordsN ws j).map (Value.int .i64))) ∧ Hid (Below w5.heap.size w5 wq)) (fun _ i2 _ => ws.length - (intOf i2).toNat)
          case atStart => exact ⟨1, Nat.le_refl _, List.length_pos_iff.2 HNE.out, rfl, by rw [wordsN_one]; exact World.ownsRow_nil _ _ _ _, Below.refl _ _⟩
          case round =>
            obtain ⟨j, hj1, hj2, rfl, HOJ, HBJ⟩ := hrel
            by_cases hjl : j < ws.length
            · obtain ⟨sb, so, hsp, hsc⟩ := (strs_below HST5.out HBJ.out).cell (by omega)
              subst hsp
              have hcj := hsc j hjl
              have hji : (j : Int) < (ws.length : Int) := by omega
              have HSJ := hide (wordsN_succ hj1 hjl)
              have HLJ := hide (wordsN_len ws j)
              clear hsc
              generalize ws[j] = wd at *
              generalize hx : (tellsN wd).getD (-1) = x at *
              have HUD := hide (undigit_any wd wr)
              rw [hx] at HUD
              clear hx
              generalize hu : wordsN ws j = u at *
              clear hu
              go_wp2_with fail
              refine HUD.out.mono ?_
              rintro e w6 ⟨rfl, rfl⟩
              have hs6 := HBJ.out.size
              have hl6 := HLJ.out
              have HOA := hide (HOJ.out.alloc (.cells #[.int .i64 x] 3))
              have HIA := hide (ints_one w6 x)
              go_wp2_with (at_builtin; refine wpList_append_ints rfl _ _ rfl w5.heap.size _ u [x] rfl HOA.out (some ⟨w6.heap.size, 0, none⟩) 1 rfl HIA.out (fun h => by cases h) (by simp; omega) (by simp; omega) ?_)
              intro v' w7 hown7 hg7
              have HB7 := hide ((HBJ.out.alloc (by omega) (.cells #[.int .i64 x] 3)).grown hg7 (by simp; omega) (fun q hq => (HOJ.out.lt q hq).1))
              have HO7 := hide (show w7.ownsRow w5.heap.size 3 1 v' (wordsN ws (j + 1)).length ((wordsN ws (j + 1)).map (Value.int .i64)) by rw [HSJ.out]; simpa using hown7)
              clear hown7 hg7 HOJ HBJ HUD HOA HIA hcj
              go_wp2
              go_roundw
              case rel => exact ⟨j + 1, by omega, by omega, by go_num, HO7, HB7⟩
              case measure => simp [intOf]; omega
            · obtain rfl : j = ws.length := by omega
              have hji : ¬ (ws.length : Int) < (ws.length : Int) := by omega
              have hoj := HOJ.out
              rw [← HRW.out] at hoj
              obtain ⟨⟨qa, qn, qc⟩, hqv, hqn, hq3⟩ := ints3_of hoj
              subst hqv
              have hqn' : qn = RW := hqn
              subst hqn'
              have HWQ : Hid (Wide ⟨qa, qn, qc⟩) := ⟨by
                have h1 := wordsN_len ws ws.length
                rw [← HRW.out] at h1
                simp only
                omega, fun n hn => by
                have hn' : n ∈ qn := hn
                rw [HRW.out] at hn'
                obtain ⟨wd, _, rfl⟩ := List.mem_map.1 hn'
                have := tells_bd wd
                omega⟩
              have HQ3 := hide hq3
              have HPU6 := hide (HPU5.out.call HBJ.out)
              obtain ⟨sb, so, hsp, hsc⟩ := (strs_below HST5.out HBJ.out).cell (by omega)
              subst hsp
              have hc0 := hsc 0 (by omega)
              have hhd : ws[0]'(by omega) = HW := by
                rw [HHW.out]
                cases ws with
                | nil => exact absurd rfl HNE.out
                | cons a r => rfl
              rw [hhd, Nat.add_zero] at hc0
              clear hsc hoj hq3 hqn HOJ HBJ HST5 HPU5 hhd
              unfold Row.v
              simp only
              have hb6 := HPU6.out.bel
              have g6 : wr.heap[w.heap.size]? = some (.cells #[.slice none 0 0, .slice none 0 0] 25 (0, 0)) := (hb6.block _ (by omega)).trans HG0.out
              have e0 : wr.cell? ⟨w.heap.size, 0, none⟩ = some (.slice none 0 0) := by rw [Lib.cell_of_heap g6]; rfl
              have e1 : wr.cell? ⟨w.heap.size, 1, none⟩ = some (.slice none 0 0) := by rw [Lib.cell_of_heap g6]; rfl
              have z0 : wr.frozen? ⟨w.heap.size, 0, none⟩ = false := Lib.frozen_of_heap g6 0
              have z1 : wr.frozen? ⟨w.heap.size, 1, none⟩ = false := Lib.frozen_of_heap g6 1
              have t0 : wr.cell? ⟨w1.heap.size, 0, none⟩ = some (.slice sa sn.length sc) := by rw [Lib.cell_of_heap HPU6.out.tr]; rfl
              have t1 : wr.cell? ⟨w1.heap.size, 1, none⟩ = some (.slice ip rws.length ic) := by rw [Lib.cell_of_heap HPU6.out.tr]; rfl
              have y0 : wr.frozen? ⟨w1.heap.size, 0, none⟩ = false := Lib.frozen_of_heap HPU6.out.tr 0
              have y1 : wr.frozen? ⟨w1.heap.size, 1, none⟩ = false := Lib.frozen_of_heap HPU6.out.tr 1
              have HBX := hide (belowAl HB1.out hb6)
              clear hb6 g6
              by_cases hk0 : k = 0
              · subst hk0
                by_cases hst : HW = startB
                · have hqq : (HW.toList == [115, 116, 97, 114, 116]) = true := by rw [hst]; decide +kernel
                  have HD := hide (HD0.out rfl hst)
                  clear hst
                  go_wp2
                  go_roundw
                  case rel => exact ⟨1, ⟨qa, qn, qc⟩, _, rws, by omega, rfl, HPU6.out.start HQ3.out, HD, by have := HLN.out; show _ ≤ _; omega, fun r hr => by
                    rcases List.mem_cons.1 hr with h | h
                    · rw [h]; exact HWQ.out
                    · exact HWI.out r (List.mem_cons_of_mem _ h)⟩
                  case measure => simp [intOf]; omega
                · have hqq : (HW.toList == [115, 116, 97, 114, 116]) = false := by
                    cases hb : (HW.toList == [115, 116, 97, 114, 116])
                    · rfl
                    · exfalso
                      apply hst
                      have h := eq_of_beq hb
                      rw [ByteArray.toList_eq] at h
                      exact ba_eq (show bl HW = bl startB by rw [bl, h]; rfl)
                  have HX := hide (HBAD.out (fun _ => hst) (fun h => absurd rfl h))
                  clear hst
                  go_wp2
                  exact bodyPost_ret (v := .tuple #[.agg #[.slice none 0 0, .slice none 0 0], .int .i64 1]) (by simp [results, Tryz.results9, go_sem, e0, e1]) rfl ⟨parseOut_no HX.out, (HBX.out.setCell (by simp) _).setCell (by simp) _⟩
              · have hk0' : ¬ (k : Int) = 0 := by omega
                have hk0b : ((k : Int) == 0) = false := by simp; omega
                have hkp : (0 : Int) < (k : Int) := by omega
                by_cases hst : HW = inB
                · have hqq : (HW.toList == [105, 110]) = true := by rw [hst]; decide +kernel
                  have HD := hide (HD1.out hk0 hst)
                  have HOW : Hid ((wr.alloc (.cells #[.slice qa qn.length qc] 22)).ownsRow w1.heap.size 22 1 (.slice ip rws.length ic) rws.length (rws.map Row.v)) := (HPU6.out.call (bal (Below.refl _ _) _)).own
                  have HR1 : Hid (RowsAt (wr.alloc (.cells #[.slice qa qn.length qc] 22)) (some ⟨wr.heap.size, 0, none⟩) [(⟨qa, qn, qc⟩ : Row)]) := fun _ => ⟨wr.heap.size, 0, rfl, fun i hi => by
                    match i, hi with
                    | 0, _ => simp [go_sem, Row.v]⟩
                  have hln := HLN.out
                  have hsz5 := HPU6.out.size
                  clear hst hk0
                  go_wp2_with (at_builtin; refine wpList_append_rows rfl _ _ rfl w1.heap.size _ rws [(⟨qa, qn, qc⟩ : Row)] rfl HOW.out (some ⟨wr.heap.size, 0, none⟩) 1 rfl HR1.out (fun h => by cases h) (by simp; omega) (by simp; omega) ?_)
                  intro v' w8 hown8 hg8
                  have hput := HPU6.out.put HQ3.out (.cells #[.slice qa qn.length qc] 22) hg8 (by simpa using hown8)
                  have h1 := HPU6.out.call (bal (Below.refl _ _) (.cells #[.slice qa qn.length qc] 22))
                  have hne := Lib.ownBlock_ne h1.own h1.tr (by decide)
                  have t8 : w8.heap[w1.heap.size]? = some (.cells #[.slice sa sn.length sc, .slice ip rws.length ic] 25 (0, 0)) := (hg8.block _ (by simp; omega) (fun e => hne e.symm)).trans h1.tr
                  have e8 : w8.cell? ⟨w1.heap.size, 1, none⟩ = some (.slice ip rws.length ic) := by rw [Lib.cell_of_heap t8]; rfl
                  have f8 : w8.frozen? ⟨w1.heap.size, 1, none⟩ = false := Lib.frozen_of_heap t8 1
                  obtain ⟨jp, jc, rfl, _, _⟩ := owns_rows (l := rws ++ [⟨qa, qn, qc⟩]) (by simpa using hown8)
                  have HPT := hide hput
                  have HLT := hide (show (rws ++ [(⟨qa, qn, qc⟩ : Row)]).length = rws.length + 1 by simp)
                  have HMP : Hid ((rws ++ [(⟨qa, qn, qc⟩ : Row)]).map Row.ns = rws.map Row.ns ++ [qn]) := by show _ = _; simp
                  have HWA : Hid (∀ r ∈ (⟨sa, sn, sc⟩ : Row) :: (rws ++ [(⟨qa, qn, qc⟩ : Row)]), Wide r) := fun r hr => by
                    rcases List.mem_cons.1 hr with h | h
                    · rw [h]; exact HWI.out _ (List.mem_cons_self ..)
                    · rcases List.mem_append.1 h with h | h
                      · exact HWI.out r (List.mem_cons_of_mem _ h)
                      · rw [List.mem_singleton.1 h]; exact HWQ.out
                  rw [← HMP.out] at HD
                  clear hput h1 hne t8 hown8 hg8 HPU6 HQ3 HOW HR1 HMP t0 t1 y0 y1 e0 e1 z0 z1 hc0
                  generalize rws ++ [(⟨qa, qn, qc⟩ : Row)] = rws2 at *
                  generalize hnn : rws2.length = nn at *
                  have HNN := hide hnn
                  clear hnn
                  go_wp2
                  go_roundw
                  case rel => exact ⟨k + 1, ⟨sa, sn, sc⟩, _, rws2, by omega, by go_num, HPT, HD, by have h2 := HLT.out; have h3 := HNN.out; show _ ≤ _; omega, HWA⟩
                  case measure => simp [intOf]; omega
                · have hqq : (HW.toList == [105, 110]) = false := by
                    cases hb : (HW.toList == [105, 110])
                    · rfl
                    · exfalso
                      apply hst
                      have h := eq_of_beq hb
                      rw [ByteArray.toList_eq] at h
                      exact ba_eq (show bl HW = bl inB by rw [bl, h]; rfl)
                  have HX := hide (HBAD.out (fun h => absurd h hk0) (fun _ => hst))
                  clear hst hk0
                  go_wp2
                  exact bodyPost_ret (v := .tuple #[.agg #[.slice none 0 0, .slice none 0 0], .int .i64 1]) (by simp [results, Tryz.results9, go_sem, e0, e1]) rfl ⟨parseOut_no HX.out, (HBX.out.setCell (by simp) _).setCell (by simp) _⟩
        · obtain rfl : k = ks.length := by omega
          have hki : ¬ (ks.length : Int) < (ks.length : Int) := by omega
          have HPF : Hid (parseF t = if fitL sn (rws.map Row.ns) = 0 then some (sn, rws.map Row.ns) else none) := by
            obtain ⟨a, r, hks⟩ : ∃ a r, ks = a :: r := by
              cases ks with
              | nil => simp at hk1
              | cons a r => exact ⟨a, r, rfl⟩
            have hp := HAL.out a r ⟨#[]⟩ (by rw [hks]; rfl) HZ0.out
            have hd := HDO.out
            subst hks
            obtain ⟨a', h1, h2, h3, h4, h5⟩ := hd
            simp only [List.getElem?_cons_zero, Option.some.injEq, List.take_succ_cons, List.take_length, List.drop_succ_cons, List.drop_zero] at h1 h4 h5
            subst h1
            have h3' : sn = rowW a := h3
            rw [hp, if_pos ⟨h2, h5⟩, h3', h4]
            rfl
          have HFL := hide (fitL_rows ⟨sa, sn, sc⟩ rws)
          simp only at HFL
          rw [HFL.out] at HPF
          have hln := HLN.out
          have hin : InAt wr ((⟨sa, sn, sc⟩ : Row) :: rws) := (fun q hq => by
            rcases List.mem_cons.1 hq with h | h
            · rw [h]; exact HPU.out.st.ints
            · exact (HPU.out.ins q h).ints)
          have HPT := hide (printTrace_any ⟨sa, sn, sc⟩ ip ic rws wr (by omega) hrowsat hinil hin HWI.out)
          unfold tval Row.v at HPT
          simp only at HPT
          have t0 : wr.cell? ⟨w1.heap.size, 0, none⟩ = some (.slice sa sn.length sc) := by rw [Lib.cell_of_heap HPU.out.tr]; rfl
          have t1 : wr.cell? ⟨w1.heap.size, 1, none⟩ = some (.slice ip rws.length ic) := by rw [Lib.cell_of_heap HPU.out.tr]; rfl
          generalize fitE ⟨sa, sn, sc⟩ rws = fe at *
          clear hin hrowsat d0 d1
          go_wp2_with fail
          refine HPT.out.mono ?_
          rintro e w6 ⟨tx, rfl, _, _, hb6⟩
          have hp6 := HPU.out.call hb6
          have g6 : w6.heap[w.heap.size]? = some (.cells #[.slice none 0 0, .slice none 0 0] 25 (0, 0)) := (hb6.block _ (by omega)).trans HG.out
          have e0 : w6.cell? ⟨w.heap.size, 0, none⟩ = some (.slice none 0 0) := by rw [Lib.cell_of_heap g6]; rfl
          have e1 : w6.cell? ⟨w.heap.size, 1, none⟩ = some (.slice none 0 0) := by rw [Lib.cell_of_heap g6]; rfl
          have z0 : w6.frozen? ⟨w.heap.size, 0, none⟩ = false := Lib.frozen_of_heap g6 0
          have z1 : w6.frozen? ⟨w.heap.size, 1, none⟩ = false := Lib.frozen_of_heap g6 1
          have u0 : w6.cell? ⟨w1.heap.size, 0, none⟩ = some (.slice sa sn.length sc) := by rw [Lib.cell_of_heap hp6.tr]; rfl
          have u1 : w6.cell? ⟨w1.heap.size, 1, none⟩ = some (.slice ip rws.length ic) := by rw [Lib.cell_of_heap hp6.tr]; rfl
          have HP6 := hide hp6
          have HG6 := hide g6
          have HB6 := hide (belowAl HBW.out hb6)
          clear hb6 hp6 g6 HPT HPU t0 t1
          by_cases hfe : fe = 0
          · subst hfe
            have HX2 : Hid (parseF t = some (sn, rws.map Row.ns)) := by have h := HPF.out; rw [if_pos rfl] at h; exact h
            clear HPF HFL
            go_wp2
            refine bodyPost_ret (v := .tuple #[tval ⟨sa, sn, sc⟩ ip rws.length ic, .int .i64 0]) (by simp [results, Tryz.results9, go_sem, e0, e1, tval, Row.v]) rfl ⟨parseOut_yes (s := ⟨sa, sn, sc⟩) HX2.out ?_ ?_ hinil, (HB6.out.setCell (by simp) _).setCell (by simp) _⟩
            · exact rows_set2 HP6.out.own (Lib.ownBlock_ne HP6.out.own HG6.out (by decide)) _ _
            · exact in_set2 HG6.out (fun q hq => by
                rcases List.mem_cons.1 hq with h | h
                · rw [h]; exact HP6.out.st
                · exact HP6.out.ins q h) _ _
          · have hne : (fe != 0) = true := by simp [hfe]
            have HX2 : Hid (parseF t = none) := by have h := HPF.out; rw [if_neg hfe] at h; exact h
            clear HPF HFL hfe
            go_wp2
            exact bodyPost_ret (v := .tuple #[.agg #[.slice none 0 0, .slice none 0 0], .int .i64 1]) (by simp [results, Tryz.results9, go_sem, e0, e1]) rfl ⟨parseOut_no HX2.out, (HB6.out.setCell (by simp) _).setCell (by simp) _⟩
    · have HP := hide (HN2.out ks z rfl hz0)
      have hq : z.toList.isEmpty = false := by
        rw [ByteArray.toList_eq]
        cases hb : z.data.toList with
        | nil =>
          exfalso
          have h2 := congrArg List.length hb
          rw [Array.length_toList] at h2
          exact hz0 h2
        | cons a l => rfl
      clear hz0
      go_wp2
      exact bodyPost_ret (v := .tuple #[.agg #[.slice none 0 0, .slice none 0 0], .int .i64 1]) (by simp [results, Tryz.results9, go_sem, d0, d1]) rfl ⟨parseOut_no HP.out, (HB1.out.setCell (by simp) _).setCell (by simp) _⟩
end Go.Proofs.YtagaemlgompggaaGreatDoor
