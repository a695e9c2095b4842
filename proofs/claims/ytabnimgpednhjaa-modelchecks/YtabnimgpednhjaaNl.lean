/- Cone: its contract. -/
import Derived.Test.YtabnimgpednhjaaNk
namespace Go.Proofs.Ytabnimgpednhjaa
open Go.RowKit

/-- What Cone tells beside its list. -/
def coneE (ns : List Nd) (is xs : List (Int × Int)) (bs hs rs : List Int) : Int :=
  if checkE ns is xs bs hs ≠ 0 then checkE ns is xs bs hs else if rs.any (fun x => !isN ns.length x) then 5 else 0

/-- The list that Cone tells, beside its number. -/
def ConeIs (ns : List Nd) (is xs : List (Int × Int)) (rs : List Int) (co : Int) (l : List Int) : Prop := if co = 0 then ∃ S, l = sel S ns.length ∧ IsCone ns is xs rs S else l = []
theorem ConeIs.yes {ns : List Nd} {is xs : List (Int × Int)} {rs : List Int} {co : Int} {S : Nat → Bool} (h : co = 0) (hS : IsCone ns is xs rs S) : ConeIs ns is xs rs co (sel S ns.length) := by
  unfold ConeIs; rw [if_pos h]; exact ⟨S, rfl, hS⟩
theorem ConeIs.no {ns : List Nd} {is xs : List (Int × Int)} {rs : List Int} {co : Int} (h : co ≠ 0) : ConeIs ns is xs rs co [] := by
  unfold ConeIs; rw [if_neg h]

theorem firstE_zero {f : Int × Int → Int} {l : List (Int × Int)} (h : firstE f l = 0) : ∀ p ∈ l, f p = 0 := by
  induction l with
  | nil => intro p hp; cases hp
  | cons q t ih =>
    simp only [firstE] at h
    by_cases hq : f q = 0
    · rw [if_neg (by simp [hq])] at h
      intro p hp
      rcases List.mem_cons.1 hp with rfl | hp
      · exact hq
      · exact ih h p hp
    · rw [if_pos hq] at h
      exact absurd h hq

theorem pairs_zero {ns : List Nd} {is xs : List (Int × Int)} (h : pairsE ns is xs = 0) : (∀ p ∈ is, initE ns p = 0) ∧ (∀ p ∈ xs, pairE ns p.1 p.2 = 0) ∧ dup (fsts is) = false ∧ dup (fsts xs) = false := by
  unfold pairsE at h
  by_cases h1 : firstE (initE ns) is = 0
  · rw [if_neg (by simp [h1])] at h
    by_cases h2 : firstE (nextE ns) xs = 0
    · rw [if_neg (by simp [h2])] at h
      by_cases h3 : (dup (fsts is) || dup (fsts xs)) = true
      · rw [if_pos h3] at h; omega
      · simp only [Bool.or_eq_true, not_or, Bool.not_eq_true] at h3
        exact ⟨firstE_zero h1, firstE_zero h2, h3.1, h3.2⟩
    · rw [if_pos h2] at h; exact absurd h h2
  · rw [if_pos h1] at h; exact absurd h h1

theorem check_zero {ns : List Nd} {is xs : List (Int × Int)} {bs hs : List Int} (h : checkE ns is xs bs hs = 0) :
    (ns.length ≤ 80 ∧ bs.length ≤ 8 ∧ hs.length ≤ 8) ∧ firstN (nodeAtE ns) ns.length = 0 ∧ pairsE ns is xs = 0 ∧ marksE ns xs bs hs = 0 := by
  unfold checkE at h
  by_cases h1 : 80 < ns.length ∨ 8 < bs.length ∨ 8 < hs.length
  · rw [if_pos h1] at h; omega
  rw [if_neg h1] at h
  by_cases h2 : firstN (nodeAtE ns) ns.length = 0
  · rw [if_neg (by simp [h2])] at h
    by_cases h3 : 6 < sumW ns (sel (isK ns 2) ns.length) ∨ 10 < sumW ns (sel (isK ns 3) ns.length)
    · rw [if_pos h3] at h; omega
    rw [if_neg h3] at h
    by_cases h4 : pairsE ns is xs = 0
    · rw [if_neg (by simp [h4])] at h
      exact ⟨by omega, h2, h4, h⟩
    · rw [if_pos h4] at h; exact absurd h h4
  · rw [if_pos h2] at h; exact absurd h h2

theorem check_lok {ns : List Nd} {is xs : List (Int × Int)} {bs hs : List Int} (h : checkE ns is xs bs hs = 0) : ns.length ≤ 80 ∧ Lok ns is xs ∧ dup (fsts is) = false ∧ dup (fsts xs) = false := by
  obtain ⟨h1, h2, h3, _⟩ := check_zero h
  obtain ⟨p1, p2, p3, p4⟩ := pairs_zero h3
  exact ⟨h1.1, lok_of (nodes_ok h2).2 (fun p hp => init_zero (p1 p hp)) p2, p3, p4⟩

theorem owns_lenOf {w : World} {base : Nat} {e : TypeId} {size : Nat} {v : Value} {n : Nat} {xs : List Value} (h : w.ownsRow base e size v n xs) : lenOf v = n := by
  rcases h.2 with ⟨rfl, rfl⟩ | ⟨g, cap, cur, rfl, _⟩ <;> rfl

theorem Box.kept {w w' : World} {B : Nat} {m : Mv} {l0 : Nat} (h : Box w B m l0) (hk : ∀ a v, a.block = B → w.cell? a = some v → w'.cell? a = some v) : Box w' B m l0 := by
  obtain ⟨q0, q1, q2, q3, q4⟩ := h
  exact ⟨hk _ _ rfl q0, hk _ _ rfl q1, hk _ _ rfl q2, hk _ _ rfl q3, hk _ _ rfl q4⟩

set_option maxRecDepth 100000 in
set_option maxHeartbeats 4000000 in
theorem cone_any (a0 a1 a2 a3 a4 : Option Addr) (c0 c1 c2 c3 c4 : Nat) (ns : List Nd) (is xs : List (Int × Int)) (bs hs : List Int) (hln : ns.length ≤ maxLen) (hli : is.length ≤ 8796093022208) (hlx : xs.length ≤ 8796093022208) (hlb : bs.length ≤ maxLen) (hlh : hs.length ≤ maxLen)
    (rs : List Int) (pr : Option Addr) (cr : Nat) (hlr : rs.length ≤ 17592186044000) (w : World)
    (hN : NodesAt w a0 ns) (hI : PairsAt w a1 is) (hX : PairsAt w a2 xs) (hBs : IntsAt w a3 bs) (hHs : IntsAt w a4 hs) (hRs : IntsAt w pr rs) :
    Calls Try.prog 26 #[Mv.val ⟨a0, c0, a1, is.length, c1, a2, xs.length, c2, a3, bs.length, c3, a4, hs.length, c4⟩ ns.length, .slice pr rs.length cr] w fun e w' =>
      ∃ p cap l, e = .returned (.tuple #[.slice p l.length cap, .int .i64 (coneE ns is xs bs hs rs)]) ∧ ConeIs ns is xs rs (coneE ns is xs bs hs rs) l ∧ IntsAt w' p l ∧ Below w.heap.size w w' := by
  have hmf : ∀ (fn : Fn) (first cap : Array Value) (w : World), (Instr.makeFunc fn first cap).run Try.prog w = .ok (.func fn first cap) w := fun _ _ _ _ => rfl
  obtain ⟨i0, hi, hz0, hz1, hz2⟩ := info_parts info3
  obtain ⟨j0, hj, hy0, hy1, hy2⟩ := info_parts info4
  have HB0 : Hid (Below w.heap.size w (w.alloc (.cells (Mv.cells ⟨a0, c0, a1, is.length, c1, a2, xs.length, c2, a3, bs.length, c3, a4, hs.length, c4⟩ ns.length) 40))) := bal (Below.refl _ _) _
  have HBx := hide (Box.new w ⟨a0, c0, a1, is.length, c1, a2, xs.length, c2, a3, bs.length, c3, a4, hs.length, c4⟩ ns.length)
  have HK := hide (fun _ : Unit => check_any a0 a1 a2 a3 a4 c0 c1 c2 c3 c4 ns is xs bs hs hln hli hlx hlb hlh _ (hN.later HB0.out) (hI.later HB0.out) (hX.later HB0.out) (hBs.later HB0.out) (hHs.later HB0.out))
  have HF := hide (@check_lok ns is xs bs hs)
  have HCO : Hid (coneE ns is xs bs hs rs = if checkE ns is xs bs hs ≠ 0 then checkE ns is xs bs hs else if rs.any (fun x => !isN ns.length x) then 5 else 0) := rfl
  have HN := hide hN
  have HI := hide hI
  have HX := hide hX
  have HRs := hide hRs
  clear hN hI hX hBs hHs hRs
  generalize checkE ns is xs bs hs = ce at *
  generalize coneE ns is xs bs hs rs = co at *
  go_enter Try.func26, Try.ntmps26
  go_wp2_with fail
  refine (HK.out ()).mono ?_
  rintro e w1 ⟨rfl, hb1⟩
  have HB1 := hide (bthen HB0.out hb1)
  have HBB := hide (HBx.out.later hb1)
  clear hb1 HB0 HBx HK
  by_cases hce : ce = 0
  · subst hce
    obtain ⟨hl, hL, hdi, hdx⟩ := HF.out rfl
    have HL := hide hL
    have HLL := hide (fun i => leanL_len (ns := ns) hdi hdx i)
    clear HF hL hdi hdx
    go_wp2_with fail
    refine (coneRoots_any ⟨a0, c0, a1, is.length, c1, a2, xs.length, c2, a3, bs.length, c3, a4, hs.length, c4⟩ ns.length hl rs (by unfold maxLen; omega) pr cr w.heap.size w1 (HRs.out.later HB1.out) HBB.out).mono ?_
    rintro e w2 ⟨rfl, hb2⟩
    have HB2 := hide (bthen HB1.out hb2)
    have HBC := hide (HBB.out.later hb2)
    have hNlt : w.heap.size < w2.heap.size := World.block_lt_of_cell? _ _ HBC.out.1
    clear hb2 HB1 HBB
    cases hany : rs.any (fun x => !isN ns.length x)
    · have HC0 : Hid (co = 0) := by rw [HCO.out, hany]; simp [Hid]
      have HRG : Hid (∀ r ∈ rs, 0 ≤ r ∧ r < ns.length) := by
        intro r hr
        have := List.any_eq_false.1 hany r hr
        exact isN_true.1 (by simpa using this)
      clear hany HCO
      have hbox := HBC.out
      simp only [Box] at hbox
      obtain ⟨q0, q1, q2, q3, q4⟩ := hbox
      go_wp2_with (at_make; refine wpList_make_full _ rfl _ _ 82 rfl w2.heap.size 4 j0 (.bool false) 1 Try.underlying82 hj hy0 hy1 .i64 .i64 _ _ ns.length rfl rfl rfl rfl (by rw [hy2]; omega) (by unfold maxLen; omega) (Nat.le_refl _) ?_)
      intro w3 hownM hgrowM
      have hb3 : Below w2.heap.size w2 (w3.alloc (.cells #[.slice (some ⟨w2.heap.size, 0, none⟩) ns.length ns.length] 82)) := bal ((Below.refl _ _).grown hgrowM (Nat.le_refl _) (fun _ h => by cases h)) _
      have hR1 : BRow w3 w2.heap.size (List.replicate ns.length false) := by
        intro j hj
        have hj' : j < ns.length := by simpa using hj
        refine ⟨?_, hownM.frozenAt j⟩
        rw [hownM.cellAt j (by omega)]
        simp [toList_madeCells_one, hj']
      have hR5 : BRow (w3.alloc (.cells #[.slice (some ⟨w2.heap.size, 0, none⟩) ns.length ns.length] 82)) w2.heap.size (List.replicate ns.length false) := hR1.later (bal (Below.refl _ _) _)
      have h75 : (w3.alloc (.cells #[.slice (some ⟨w2.heap.size, 0, none⟩) ns.length ns.length] 82)).cell? ⟨w3.heap.size, 0, none⟩ = some (.slice (some ⟨w2.heap.size, 0, none⟩) ns.length ns.length) := by simp [go_sem]
      have hgw : w2.heap.size < w3.heap.size := (hownM.lt w2.heap.size rfl).2
      have hw5 : w3.heap.size < (w3.alloc (.cells #[.slice (some ⟨w2.heap.size, 0, none⟩) ns.length ns.length] 82)).heap.size := by simp
      clear hownM hgrowM hR1
      go_wp2_with fail
      generalize w3.alloc (.cells #[.slice (some ⟨w2.heap.size, 0, none⟩) ns.length ns.length] 82) = w5 at *
      generalize w3.heap.size = B7 at *
      have HBw5 := hide (bthen HB2.out hb3)
      have HBox5 := hide (HBC.out.later hb3)
      clear hb3 HB2 HBC q0 q1 q2 q3 q4
      generalize w2.heap.size = G at *
      refine (clone_any pr cr rs (by omega) w5 (HRs.out.later HBw5.out)).mono ?_
      rintro e w6 ⟨v6, rfl, hown6, hb6⟩
      have HA := hide (And.intro hown6 (And.intro (hR5.later hb6) (And.intro (cell_later hb6 h75) (And.intro (HBox5.out.later hb6) (And.intro (bthen HBw5.out hb6) hb6.size)))))
      clear hown6 hR5 h75 hb6 HBw5 HBox5
      generalize w5.heap.size = base at *
      go_wp2
      go_loopw [8] (fun v wr => ∃ (l : List Int) (b : List Bool), wr.ownsRow base 3 1 v l.length (l.map (Value.int .i64)) ∧ Hid (Work ns is xs rs b l) ∧ Hid (BRow wr G b) ∧ wr.cell? ⟨B7, 0, none⟩ = some (.slice (some ⟨G, 0, none⟩) ns.length ns.length) ∧ Hid (Box wr w.heap.size ⟨a0, c0, a1, is.length, c1, a2, xs.length, c2, a3, bs.length, c3, a4, hs.length, c4⟩ ns.length) ∧ Hid (Below w.heap.size w wr) ∧ base ≤ wr.heap.size ∧ Hid (l.length + 3 * b.count false ≤ rs.length + 240)) (fun v wr => 4 * cntW wr G ns.length + lenOf v)
      case atStart =>
        exact ⟨rs, List.replicate ns.length false, HA.out.1, Work.start HRG.out, HA.out.2.1, HA.out.2.2.1, HA.out.2.2.2.1, HA.out.2.2.2.2.1, HA.out.2.2.2.2.2, by simp [Hid]; omega⟩
      case round =>
        obtain ⟨l, b, hown, HW, HR, h7, HBr, HBw, hbs, HLen⟩ := hrel
        have hbox := HBr.out
        simp only [Box] at hbox
        obtain ⟨q0, q1, q2, q3, q4⟩ := hbox
        rcases List.eq_nil_or_concat l with rfl | ⟨l', x, rfl⟩
        · obtain ⟨p, cap, rfl, _⟩ := owns_ints hown
          have HD := hide (HW.out.done)
          have HNC := hide (fun _ : Unit => numbersC_any ⟨a0, c0, a1, is.length, c1, a2, xs.length, c2, a3, bs.length, c3, a4, hs.length, c4⟩ ns.length hl b HW.out.len B7 G wr h7 HR.out)
          clear hown HW HR HLen
          simp only [List.length_nil] at *
          go_wp2_with fail
          refine (HNC.out ()).mono ?_
          rintro e w8 ⟨p8, cap8, rfl, hJ, hb8⟩
          go_wp2
          go_ret2
          exact ⟨p8, cap8, sel (fun i => b.getD i false) ns.length, by rw [HC0.out]; rfl, ConeIs.yes HC0.out HD.out, hJ, bthen HBw.out hb8⟩
        · rw [List.concat_eq_append] at *
          obtain ⟨g, cap, rfl, hg, hcap1, hcap2, hcell, hown'⟩ := owns_last hown
          obtain ⟨hx0, hx1⟩ := HW.out.rng x (by simp)
          obtain ⟨j, rfl⟩ := Int.eq_ofNat_of_zero_le hx0
          have hjn : j < ns.length := by omega
          have hjb : j < b.length := by rw [HW.out.len]; exact hjn
          obtain ⟨hc1, hc2⟩ := HR.out j hjb
          have HE : Hid (b.getD j false = b[j]) := by simp [List.getD, List.getElem?_eq_getElem hjb, Hid]
          have HLen2 : Hid (l'.length + 1 + 3 * b.count false ≤ rs.length + 240) := by have := HLen.out; simp only [List.length_append, List.length_singleton] at this; exact this
          have HCt := hide (cntW_eq HR.out HW.out.len)
          have HOP := hide hown'
          have hng : ¬ w.heap.size = G := by omega
          clear hown hx0 HLen hown'
          unfold maxLen at hcap2
          generalize hk : l'.length = k at *
          have Hk := hide hk
          clear hk
          generalize hv : b[j] = bj at *
          have Hv := hide hv
          clear hv
          cases bj
          · have HWm : Hid (Work ns is xs rs (b.set j true) (l' ++ leanL ns is xs j)) := by have := HW.out.more HL.out; rw [Int.toNat_natCast] at this; exact this
            have HLn := hide (HLL.out j)
            have FIN : Hid (∀ (v9 : Value) (w9 : World), w9.ownsRow base 3 1 v9 (k + (leanL ns is xs j).length) (l'.map (Value.int .i64) ++ (leanL ns is xs j).map (Value.int .i64)) → BRow w9 G (b.set j true) →
                w9.cell? ⟨B7, 0, none⟩ = some (.slice (some ⟨G, 0, none⟩) ns.length ns.length) → Box w9 w.heap.size ⟨a0, c0, a1, is.length, c1, a2, xs.length, c2, a3, bs.length, c3, a4, hs.length, c4⟩ ns.length → Below w.heap.size w w9 → base ≤ w9.heap.size →
                (∃ (l : List Int) (b : List Bool), w9.ownsRow base 3 1 v9 l.length (l.map (Value.int .i64)) ∧ Hid (Work ns is xs rs b l) ∧ Hid (BRow w9 G b) ∧ w9.cell? ⟨B7, 0, none⟩ = some (.slice (some ⟨G, 0, none⟩) ns.length ns.length) ∧ Hid (Box w9 w.heap.size ⟨a0, c0, a1, is.length, c1, a2, xs.length, c2, a3, bs.length, c3, a4, hs.length, c4⟩ ns.length) ∧ Hid (Below w.heap.size w w9) ∧ base ≤ w9.heap.size ∧ Hid (l.length + 3 * b.count false ≤ rs.length + 240))
                ∧ 4 * cntW w9 G ns.length + lenOf v9 < 4 * cntW wr G ns.length + lenOf (.slice (some ⟨g, 0, none⟩) (k + 1) cap)) := by
              intro v9 w9 o9 r9 c9 x9 b9 z9
              have hct := count_set b j hjb HE.out
              have h3 := HLn.out
              have h4 := HLen2.out
              have h5 := Hk.out
              refine ⟨⟨l' ++ leanL ns is xs j, b.set j true, ?_, HWm, r9, c9, x9, b9, z9, ?_⟩, ?_⟩
              · rw [List.length_append, List.map_append, h5]; exact o9
              · simp only [Hid, List.length_append]; omega
              · rw [cntW_eq r9 (by simp only [List.length_set]; exact HW.out.len), HCt.out, owns_lenOf o9]
                simp only [lenOf]
                omega
            have HBs := hide ((HBw.out).setCell (p := ⟨G, j, none⟩) (show w.heap.size ≤ G from by omega) (.bool true))
            have hsS := ((Below.refl 0 wr).setCell (p := ⟨G, j, none⟩) (Nat.zero_le _) (.bool true)).size
            have r0 := keepOther (k := j) (u := .bool true) hng q0
            have r1 := keepOther (k := j) (u := .bool true) hng q1
            have r2 := keepOther (k := j) (u := .bool true) hng q2
            have r3 := keepOther (k := j) (u := .bool true) hng q3
            have r4 := keepOther (k := j) (u := .bool true) hng q4
            have HRs2 := hide (HR.out.set j true)
            have H7s := hide (keepOther (k := j) (u := .bool true) (show ¬ B7 = G from by omega) h7)
            have HOs := hide (owns_set HOP.out ⟨G, j, none⟩ (.bool true) (show G < base from by omega))
            have HXs : Hid (Box (wr.setCell ⟨G, j, none⟩ (.bool true)) w.heap.size ⟨a0, c0, a1, is.length, c1, a2, xs.length, c2, a3, bs.length, c3, a4, hs.length, c4⟩ ns.length) := ⟨r0, r1, r2, r3, r4⟩
            have hkb : k + 1 ≤ rs.length + 240 := by have h4 := HLen2.out; have h5 := Hk.out; omega
            clear HBr HBw HR HW HOP HCt HLen2
            go_wp2_with fail
            generalize wr.setCell ⟨G, j, none⟩ (.bool true) = ws at *
            refine (leansOn_any a0 a1 a2 a3 a4 c0 c1 c2 c3 c4 bs.length hs.length ns is xs hl hli hlx j hjn ws (HN.out.later HBs.out) (HI.out.later HBs.out) (HX.out.later HBs.out)).mono ?_
            rintro e w8 ⟨p8, cap8, rfl, hnil, hJ, hb8⟩
            have own8 := hide (owns_below HOs.out hb8)
            have R8 := hide (HRs2.out.later hb8)
            have C8 := hide (cell_later hb8 H7s.out)
            have X8 := hide (HXs.out.later hb8)
            have B8 := hide (bthen HBs.out hb8)
            have z8 : base ≤ w8.heap.size := by have := hb8.size; omega
            clear HBs HRs2 H7s HOs HXs hb8 r0 r1 r2 r3 r4 q0 q1 q2 q3 q4
            have h3 := HLn.out
            cases p8 with
            | none =>
              have h0 : leanL ns is xs j = [] := by
                cases hh : leanL ns is xs j with
                | nil => rfl
                | cons a t => obtain ⟨_, _, h, _⟩ := (hh ▸ hJ) (by simp); cases h
              obtain rfl := hnil rfl
              have F := hide (FIN.out (.slice (some ⟨g, 0, none⟩) k cap) w8 (by rw [h0]; simpa using own8.out) R8.out C8.out X8.out B8.out z8)
              clear FIN
              rw [h0]
              go_wp2_with (at_builtin; refine wpList_append_own_none rfl _ _ 31 rfl base 3 i0 1 Try.underlying31 hi _ _ _ rfl own8.out rfl ?_)
              go_wp2
              go_roundw
              case rel => exact F.out.1
              case measure => exact F.out.2
            | some ad =>
              have HC : Hid (∀ q u, ((leanL ns is xs j).map (Value.int .i64))[q]? = some u → w8.cell? (ad.add q) = some u) := by
                intro q u hq
                obtain ⟨hql, hqu⟩ := List.getElem?_eq_some_iff.1 hq
                have hql' : q < (leanL ns is xs j).length := by simpa using hql
                obtain ⟨b1, off1, h, hc⟩ := hJ (by omega)
                cases h
                rw [Addr.add_lit, hc q hql', ← hqu]
                simp
              clear hnil hJ
              go_wp2_with (at_builtin; refine wpList_append_own _ rfl _ _ 31 rfl base 3 i0 (.int .i64 0) 1 8 Try.underlying31 hi hz0 hz1 hz2 rfl (by decide) _ _ _ rfl own8.out ad (leanL ns is xs j).length cap8 ((leanL ns is xs j).map (Value.int .i64)) rfl ?qc1 ?qc2 ?qc3 ?qc4 ?qc5 ?qc6 ?_)
              case qc1 => simp
              case qc2 => exact HC.out
              case qc3 => intro u hu; obtain ⟨x, _, rfl⟩ := List.mem_map.1 hu; rfl
              case qc4 => unfold maxLen; omega
              case qc5 => omega
              case qc6 => exact z8
              intro v9 w9 hown9 hgrow9 _
              have F := hide (FIN.out v9 w9 hown9 (R8.out.grown hgrow9 (by simp [Value.ownBlock]; omega)) (hgrow9.cell C8.out (by simp [Value.ownBlock]; omega)) (X8.out.kept (fun a v ha hc => hgrow9.cell hc (by simp [Value.ownBlock, ha]; omega))) (B8.out.grown hgrow9 (by omega) (fun q hq => by simp [Value.ownBlock] at hq; omega)) (by have := hgrow9.size; omega))
              clear hown9 hgrow9 FIN HC
              go_wp2
              go_roundw
              case rel => exact F.out.1
              case measure => exact F.out.2
          · have HWm : Hid (Work ns is xs rs b l') := HW.out.met (by rw [Int.toNat_natCast, HE.out])
            go_wp2
            go_roundw
            case rel => exact ⟨l', b, by rw [Hk.out]; exact HOP.out, HWm, HR, h7, HBr, HBw, hbs, by have := HLen2.out; rw [← Hk.out] at this; simp only [Hid]; omega⟩
            case measure => simp [lenOf]
    · have HC0 : Hid (co = 5) := by rw [HCO.out, hany]; simp [Hid]
      clear hany HCO
      go_wp2
      go_ret2
      exact ⟨none, 0, [], by rw [HC0.out]; rfl, ConeIs.no (by rw [HC0.out]; omega), fun h => by simp at h, HB2.out⟩
  · have hne : (ce != 0) = true := by simp [hce]
    have HC0 : Hid (co = ce) := by rw [HCO.out, if_pos hce]; rfl
    have HE := hide hce
    clear hce HCO HF
    go_wp2
    go_ret2
    exact ⟨none, 0, [], by rw [HC0.out]; rfl, ConeIs.no (by rw [HC0.out]; exact HE.out), fun h => by simp at h, HB1.out⟩

end Go.Proofs.Ytabnimgpednhjaa
