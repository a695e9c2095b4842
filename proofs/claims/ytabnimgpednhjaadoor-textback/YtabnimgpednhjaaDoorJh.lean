/- text.Print. -/
import Derived.Test.YtabnimgpednhjaaDoorJgM
namespace Go.Proofs.YtabnimgpednhjaaDoor
open Go.RowKit
set_option maxRecDepth 100000

theorem fresh_builder (w : World) : Lib.IsBuilder 44 5 w.heap.size w.heap.size (Lib.byteCells []) (w.alloc (.cells #[.pointer none, .slice none 0 0] 44)) :=
  .inl ⟨Nat.le_refl _, .slice none 0 0, heap_alloc_new w _, World.ownsRow_nil _ _ _ _, by simp [Value.ownBlock]⟩
theorem arr_val (x : Ev.Nd) (h : 0 ≤ x.kind) : Value.agg (toD x).arr = .agg #[.int .i64 x.kind, .int .i64 x.width, .int .i64 x.a, .int .i64 x.b, .int .i64 x.c, .int .i64 x.n] := by
  unfold toD Nd6.arr
  simp only
  rw [Int.toNat_of_nonneg h]

set_option maxHeartbeats 16000000 in
theorem print_any (a0 a1 a2 a3 a4 : Option Addr) (c0 c1 c2 c3 c4 : Nat) (ns : List Ev.Nd) (is xs : List (Int × Int)) (bs hs : List Int) (hln : ns.length ≤ maxLen) (hli : is.length ≤ 8796093022208) (hlx : xs.length ≤ 8796093022208) (hlb : bs.length ≤ maxLen) (hlh : hs.length ≤ maxLen)
    (hok : Ev.checkE ns is xs bs hs = 0 → ∀ x ∈ ns, (toD x).ok) (hbb : Ev.checkE ns is xs bs hs = 0 → ∀ n ∈ bs, -9223372036854775808 ≤ n ∧ n ≤ 9223372036854775807) (hbh : Ev.checkE ns is xs bs hs = 0 → ∀ n ∈ hs, -9223372036854775808 ≤ n ∧ n ≤ 9223372036854775807) (w : World)
    (hN : Ev.NodesAt w a0 ns) (hI : Ev.PairsAt w a1 is) (hX : Ev.PairsAt w a2 xs) (hBs : Ev.IntsAt w a3 bs) (hHs : Ev.IntsAt w a4 hs) (hKW : KW w) (hSW : SW w) (ht : Pow w) :
    Calls Tryd.prog 5 #[Ev.Mv.val ⟨a0, c0, a1, is.length, c1, a2, xs.length, c2, a3, bs.length, c3, a4, hs.length, c4⟩ ns.length] w fun e w' => ∃ t : List UInt8, e = .returned (.tuple #[.string ⟨t.toArray⟩, .int .i64 (Ev.checkE ns is xs bs hs)]) ∧ (Ev.checkE ns is xs bs hs = 0 → t = modelT ns is xs bs hs) ∧ (Ev.checkE ns is xs bs hs ≠ 0 → t = []) ∧ Below w.heap.size w w' := by
  have hB0 : Below w.heap.size w (w.alloc (.cells (Ev.Mv.cells ⟨a0, c0, a1, is.length, c1, a2, xs.length, c2, a3, bs.length, c3, a4, hs.length, c4⟩ ns.length) 26)) := bal (Below.refl _ _) _
  have HBx := hide (Ev.Box.new w ⟨a0, c0, a1, is.length, c1, a2, xs.length, c2, a3, bs.length, c3, a4, hs.length, c4⟩ ns.length)
  have HCK := hide (Ev.check_any a0 a1 a2 a3 a4 c0 c1 c2 c3 c4 ns is xs bs hs hln hli hlx hlb hlh _ (hN.later hB0) (hI.later hB0) (hX.later hB0) (hBs.later hB0) (hHs.later hB0))
  have HB0 := hide hB0
  by_cases hc : Ev.checkE ns is xs bs hs = 0
  · replace hok := hok hc
    replace hbb := hbb hc
    replace hbh := hbh hc
    obtain ⟨m1, m2, m3, m4, m5, m6, m7, m8⟩ := model_ok hc
    have HOK : Hid (∀ x ∈ ns, okD x) := fun x hx => ⟨m6 x hx, hok x hx⟩
    have HN := hide hN
    have HKW := hide hKW
    have HT := hide ht
    have HNL := hide (nodesT_len m1 hok)
    rw [hc] at HCK ⊢
    have HPI := hide (fun (B b : Nat) (l : List UInt8) (w1 : World) (h0 : Below w.heap.size w w1) (hB : w.heap.size ≤ B) (h : Lib.IsBuilder 44 5 B b (Lib.byteCells l) w1) (hBw : B ≤ w1.heap.size) (hl : l.length ≤ 1000000000) => pairs_any B b l 1 (by omega) a1 c1 is (by omega) (fun p hp => by have := m7 p hp; omega) w w1 hI h0 hB hSW ht h hBw hl)
    have HPX := hide (fun (B b : Nat) (l : List UInt8) (w1 : World) (h0 : Below w.heap.size w w1) (hB : w.heap.size ≤ B) (h : Lib.IsBuilder 44 5 B b (Lib.byteCells l) w1) (hBw : B ≤ w1.heap.size) (hl : l.length ≤ 1000000000) => pairs_any B b l 2 (by omega) a2 c2 xs (by omega) (fun p hp => by have := m8 p hp; omega) w w1 hX h0 hB hSW ht h hBw hl)
    have HPB := hide (fun (B b : Nat) (l : List UInt8) (w1 : World) (h0 : Below w.heap.size w w1) (hB : w.heap.size ≤ B) (h : Lib.IsBuilder 44 5 B b (Lib.byteCells l) w1) (hBw : B ≤ w1.heap.size) (hl : l.length ≤ 1000000000) => marks_any B b l 3 (by omega) a3 c3 bs (by omega) hbb w w1 hBs h0 hB hSW ht h hBw hl)
    have HPH := hide (fun (B b : Nat) (l : List UInt8) (w1 : World) (h0 : Below w.heap.size w w1) (hB : w.heap.size ≤ B) (h : Lib.IsBuilder 44 5 B b (Lib.byteCells l) w1) (hBw : B ≤ w1.heap.size) (hl : l.length ≤ 1000000000) => marks_any B b l 4 (by omega) a4 c4 hs (by omega) hbh w w1 hHs h0 hB hSW ht h hBw hl)
    have HLI : Hid ((linesT (sortB 1) (pairL is) is.length).length ≤ 4000) := by
      have := linesT_len (s := sortB 1) (L := pairL is) (sort_size _) (fun l hl => by
        obtain ⟨p, hp, rfl⟩ := List.mem_map.1 hl
        exact ⟨by simp, fun n hn => by have := m7 p hp; simp at hn; rcases hn with rfl | rfl <;> omega⟩) is.length (by simp [pairL])
      show _ ≤ _; omega
    have HLX : Hid ((linesT (sortB 2) (pairL xs) xs.length).length ≤ 4000) := by
      have := linesT_len (s := sortB 2) (L := pairL xs) (sort_size _) (fun l hl => by
        obtain ⟨p, hp, rfl⟩ := List.mem_map.1 hl
        exact ⟨by simp, fun n hn => by have := m8 p hp; simp at hn; rcases hn with rfl | rfl <;> omega⟩) xs.length (by simp [pairL])
      show _ ≤ _; omega
    have HLB : Hid ((linesT (sortB 3) (markL bs) bs.length).length ≤ 4000) := by
      have := linesT_len (s := sortB 3) (L := markL bs) (sort_size _) (fun l hl => by
        obtain ⟨p, hp, rfl⟩ := List.mem_map.1 hl
        exact ⟨by simp, fun n hn => by simp at hn; subst hn; exact hbb n hp⟩) bs.length (by simp [markL])
      show _ ≤ _; omega
    have HMT : Hid (modelT ns is xs bs hs = nodesT ns ns.length ++ linesT (sortB 1) (pairL is) is.length ++ linesT (sortB 2) (pairL xs) xs.length ++ linesT (sortB 3) (markL bs) bs.length ++ linesT (sortB 4) (markL hs) hs.length) := rfl
    generalize modelT ns is xs bs hs = MT at *
    clear hc hok hbb hbh hN hI hX hBs hHs hKW hSW ht m2 m3 m4 m5 m6 m7 m8 hB0
    go_enter Tryd.func5, Tryd.ntmps5
    go_wp2_with fail
    refine HCK.out.mono ?_
    rintro e w1 ⟨rfl, hb1⟩
    have hbox := HBx.out.later hb1
    simp only [Ev.Box] at hbox
    obtain ⟨q0, q1, q2, q3, q4⟩ := hbox
    have HB1 := hide (belowAl HB0.out hb1)
    have hsz1 := HB1.out.size
    have hbA : Below w1.heap.size w1 (w1.alloc (.cells #[.pointer none, .slice none 0 0] 44)) := bal (Below.refl _ _) _
    have r0 := cell_later hbA q0
    have r1 := cell_later hbA q1
    have r2 := cell_later hbA q2
    have r3 := cell_later hbA q3
    have r4 := cell_later hbA q4
    have HFB := hide (fresh_builder w1)
    have HBA := hide hbA
    have hlt0 := World.block_lt_of_cell? _ _ q0
    simp only at hlt0
    clear hb1 hbA HCK HBx HB0 q0 q1 q2 q3 q4
    go_wp2
    generalize hW0 : w1.alloc (.cells #[.pointer none, .slice none 0 0] 44) = W0 at *
    have hszW : W0.heap.size = w1.heap.size + 1 := by rw [← hW0]; simp
    clear hW0
    generalize hM : w1.heap.size = M at *
    have HWW : Hid (∀ wr, Below M W0 wr → Below w.heap.size w wr) := fun wr h => (HB1.out.trans (HBA.out.mono (by omega))).trans (h.mono (by omega))
    clear hM
    go_loopw [16] (fun i wr => ∃ k : Nat, k ≤ ns.length ∧ i = .int .i64 k ∧ Hid (Lib.IsBuilder 44 5 M M (Lib.byteCells (nodesT ns k)) wr ∧ Below M W0 wr)) (fun i _ => ns.length - (intOf i).toNat)
    case atStart => exact ⟨0, Nat.zero_le _, rfl, by simpa [nodesT] using HFB.out, Below.refl _ _⟩
    case round =>
      clear HFB
      obtain ⟨k, hk, rfl, HR⟩ := hrel
      have hszw := HR.out.2.size
      by_cases hlt : k < ns.length
      · clear r0 r1 r2 r3 r4 HPI HPX HPB HPH HLI HLX HLB HMT
        obtain ⟨ib, io, rfl, hic⟩ := (HN.out.later (HWW.out wr HR.out.2)) (by omega)
        obtain ⟨x0, x1, x2, x3, x4, x5⟩ := hic k hlt
        have hki : (k : Int) < (ns.length : Int) := by omega
        have HTS := hide (nodesT_succ hlt)
        have HTL := hide (HNL.out k hk)
        have HXO := hide (HOK.out ns[k] (List.getElem_mem hlt))
        clear hic
        generalize ns[k] = x at *
        have HCN : Hid (∀ w', Below wr.heap.size wr w' → Calls Tryd.prog 10 #[.pointer (some ⟨M, 0, none⟩), .int .i64 k, .agg #[.int .i64 x.kind, .int .i64 x.width, .int .i64 x.a, .int .i64 x.b, .int .i64 x.c, .int .i64 x.n]] w' fun e w2 => e = .returned (.tuple #[]) ∧ Lib.IsBuilder 44 5 M M (Lib.byteCells (nodesT ns (k + 1))) w2 ∧ Below M W0 w2) := fun w' hb => by
          have hbb := HWW.out _ (HR.out.2.trans (hb.mono (by omega)))
          have hnl := nodeT_len (i := k) (by omega) HXO.out.2
          have h1 := HTL.out
          have hkd := HXO.out.1
          rw [← arr_val x (by omega)]
          refine (writeNode_any M M (nodesT ns k) k (by omega) (by omega) (toD x) HXO.out.2 (by show x.kind.toNat < 24; omega) w' (builder_later HR.out.1 hb) (HKW.out.later hbb) (tab_later HT.out hbb) (by have := hb.size; omega) (by unfold nodeT at hnl; rw [List.length_append] at hnl; simp only [List.length_cons, List.length_nil] at hnl; omega)).mono ?_
          rintro e w2 ⟨rfl, h2, h3, -⟩
          refine ⟨rfl, ?_, HR.out.2.trans ((hb.mono (by omega)).trans h3)⟩
          rw [HTS.out]
          unfold nodeT
          rw [← List.append_assoc]
          exact h2
        have hbW : Below wr.heap.size wr (wr.alloc (.cells #[.int .i64 x.kind, .int .i64 x.width, .int .i64 x.a, .int .i64 x.b, .int .i64 x.c, .int .i64 x.n] 46)) := bal (Below.refl _ _) _
        have HC2 := hide (HCN.out _ hbW)
        clear hbW HCN HTS HTL HXO HR
        go_wp2_with fail
        refine HC2.out.mono ?_
        rintro e w2 ⟨rfl, h2, h3⟩
        have HV := hide (And.intro h2 h3)
        clear h2 h3 HC2
        go_wp2
        go_roundw
        case rel => exact ⟨k + 1, by omega, by go_num, HV⟩
        case measure => simp [intOf]; omega
      · obtain rfl : k = ns.length := by omega
        have hki : ¬ (ns.length : Int) < (ns.length : Int) := by omega
        have HNT := hide (HNL.out _ (Nat.le_refl _))
        generalize nodesT ns ns.length = T0 at *
        have hT0 : T0.length ≤ 16000 := by have := HNT.out; omega
        have hMw : M < wr.heap.size := by omega
        have q1 : wr.cell? ⟨w.heap.size, 1, none⟩ = _ := (HR.out.2.cell hlt0).trans r1
        have HC1 := hide (HPI.out M M T0 wr (HWW.out _ HR.out.2) (by omega) HR.out.1 (by omega) (by omega))
        clear HPI HNT HNL
        go_wp2_with fail
        refine HC1.out.mono ?_
        rintro e w2 ⟨rfl, hu2, hb2⟩
        have hB2 := HR.out.2.trans hb2
        have hs2 := hb2.size
        have q2 : w2.cell? ⟨w.heap.size, 2, none⟩ = _ := (hB2.cell hlt0).trans r2
        have HC2 := hide (HPX.out M M _ w2 (HWW.out _ hB2) (by omega) hu2 (by omega) (by have := HLI.out; unfold pairL at this; rw [List.length_append]; omega))
        have HR2 := hide hB2
        clear HPX hu2 hb2 hB2 HC1 HR q1
        go_wp2_with fail
        refine HC2.out.mono ?_
        rintro e w3 ⟨rfl, hu3, hb3⟩
        have hB3 := HR2.out.trans hb3
        have hs3 := hb3.size
        have q3 : w3.cell? ⟨w.heap.size, 3, none⟩ = _ := (hB3.cell hlt0).trans r3
        have HC3 := hide (HPB.out M M _ w3 (HWW.out _ hB3) (by omega) hu3 (by omega) (by have h1 := HLI.out; have h2 := HLX.out; unfold pairL at h1 h2; rw [List.length_append, List.length_append]; omega))
        have HR3 := hide hB3
        clear HPB hu3 hb3 hB3 HC2 HR2 q2
        go_wp2_with fail
        refine HC3.out.mono ?_
        rintro e w4 ⟨rfl, hu4, hb4⟩
        have hB4 := HR3.out.trans hb4
        have hs4 := hb4.size
        have q4 : w4.cell? ⟨w.heap.size, 4, none⟩ = _ := (hB4.cell hlt0).trans r4
        have HC4 := hide (HPH.out M M _ w4 (HWW.out _ hB4) (by omega) hu4 (by omega) (by have h1 := HLI.out; have h2 := HLX.out; have h3 := HLB.out; unfold pairL at h1 h2; unfold markL at h3; rw [List.length_append, List.length_append, List.length_append]; omega))
        have HR4 := hide hB4
        clear HPH hu4 hb4 hB4 HC3 HR3 q3
        go_wp2_with fail
        refine HC4.out.mono ?_
        rintro e w5 ⟨rfl, hu5, hb5⟩
        have hB5 := HR4.out.trans hb5
        have hs5 := hb5.size
        have HMT' : Hid _ := HMT.out
        unfold pairL markL at HMT'
        rw [← HMT'.out] at hu5
        have HST := hide (stringW_any M M MT w5 hu5 (by omega))
        have HR5 := hide hB5
        clear hu5 hb5 hB5 HC4 HR4 q4 HMT HMT'
        go_wp2_with fail
        refine HST.out.mono ?_
        rintro e w6 ⟨rfl, hb6⟩
        have HF := hide (HWW.out _ (HR5.out.trans hb6))
        clear hb6 HR5 HST
        go_wp2
        go_ret2
        exact ⟨MT, rfl, fun _ => rfl, fun h => absurd rfl h, HF.out⟩
  · have hne : (Ev.checkE ns is xs bs hs != 0) = true := by simpa using hc
    have HNZ := hide hc
    clear hc hN hI hX hBs hHs hKW hSW ht HBx hok hbb hbh
    generalize Ev.checkE ns is xs bs hs = R at *
    go_enter Tryd.func5, Tryd.ntmps5
    go_wp2_with fail
    refine HCK.out.mono ?_
    rintro e w1 ⟨rfl, hb1⟩
    have HB1 := hide (belowAl HB0.out hb1)
    clear hb1 HB0 HCK
    go_wp2
    go_ret2
    exact ⟨[], rfl, fun h => absurd h HNZ.out, fun _ => rfl, HB1.out⟩
end Go.Proofs.YtabnimgpednhjaaDoor
