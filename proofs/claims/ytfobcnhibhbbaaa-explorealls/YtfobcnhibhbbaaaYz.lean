/- The plain text: layers: the walk. -/
import Derived.Test.YtfobcnhibhbbaaaYy
namespace Go.Proofs.Ytfobcnhibhbbaaa.Xp
open Go.RowKit Go.Maps
set_option maxRecDepth 100000

/-- One of a state's moves. -/
def toN (n : Int) (d : List Int) (x : Int) : List Int := if 0 ≤ x ∧ d.getD x.toNat 0 < 0 then d.set x.toNat (n + 1) else d
theorem tosN_snoc (n : Int) (l : List Int) (x : Int) : ∀ d, tosN n d (l ++ [x]) = toN n (tosN n d l) x := by
  induction l with
  | nil => intro d; rfl
  | cons a l ih => intro d; rw [List.cons_append, tosN, tosN]; exact ih _
theorem toN_len (n : Int) (d : List Int) (x : Int) : (toN n d x).length = d.length := by unfold toN; split <;> simp
theorem tosN_len (n : Int) (l : List Int) : ∀ d, (tosN n d l).length = d.length := by
  induction l with
  | nil => intro d; rfl
  | cons a l ih =>
    intro d
    rw [tosN, ih]
    split <;> simp
theorem rowN_len (nx : Nat → List Int) (n : Int) (d : List Int) (k : Nat) : (rowN nx n d k).length = d.length := by
  induction k with
  | zero => rfl
  | succ k ih =>
    rw [rowN]
    split
    · exact ih
    · rw [tosN_len, ih]
theorem layN_len (N : Nat) (nx : Nat → List Int) (d : List Int) (k : Nat) : (layN N nx d k).length = d.length := by
  induction k with
  | zero => rfl
  | succ k ih => rw [layN, rowN_len, ih]
theorem iniN_len (bs : Nat → Nat) (d : List Int) (k : Nat) : (iniN bs d k).length = d.length := by
  induction k with
  | zero => rfl
  | succ k ih => rw [iniN, List.length_set, ih]
/-- How far each is, where it lies: nothing else has changed. -/
structure LyS (w1 wr : World) (g N : Nat) (l : List Int) : Prop where
  bl : Below g w1 wr
  row : IRow wr g l
  len : l.length = N
  lt : g < wr.heap.size
theorem LyS.later {w1 wr w' : World} {g N : Nat} {l : List Int} (h : LyS w1 wr g N l) (hb : Below wr.heap.size wr w') : LyS w1 w' g N l := ⟨h.bl.trans (hb.mono (Nat.le_of_lt h.lt)), h.row.later hb, h.len, Nat.lt_of_lt_of_le h.lt hb.size⟩
theorem LyS.set {w1 wr : World} {g N : Nat} {l : List Int} (h : LyS w1 wr g N l) (i : Nat) (x : Int) : LyS w1 (wr.setCell ⟨g, i, none⟩ (.int .i64 x)) g N (l.set i x) := ⟨h.bl.setCell (p := ⟨g, i, none⟩) (Nat.le_refl _) _, h.row.set i x, by rw [List.length_set]; exact h.len, by simpa using h.lt⟩
theorem LyS.at' {w1 wr : World} {g N : Nat} {l : List Int} (h : LyS w1 wr g N l) {i : Nat} (hi : i < N) : wr.cell? ⟨g, i, none⟩ = some (.int .i64 (l.getD i 0)) ∧ wr.frozen? ⟨g, i, none⟩ = false := by
  have hi' : i < l.length := by rw [h.len]; exact hi
  obtain ⟨h1, h2⟩ := h.row i hi'
  rw [getD_at hi']
  exact ⟨h1, h2⟩
theorem fill_set (N k : Nat) (hk : k < N) : (List.replicate k (-1 : Int) ++ List.replicate (N - k) 0).set k (-1) = List.replicate (k + 1) (-1) ++ List.replicate (N - (k + 1)) 0 := by
  have e1 : N - k = (N - (k + 1)) + 1 := by omega
  rw [e1, List.replicate_succ, List.set_append_right _ _ (by simp), List.length_replicate, Nat.sub_self, List.set_cons_zero, List.replicate_succ', List.append_assoc]
  rfl
set_option maxHeartbeats 4000000 in
theorem layers_any (a0 a1 a2 a3 a4 : Option Addr) (c0 c1 c2 c3 c4 : Nat) (ns : List Nd) (is xs : List (Int × Int)) (bs hs : List Int) (hck : checkE ns is xs bs hs = 0) (hli : is.length ≤ 8796093022208) (hN5 : cntK ns 3 ≤ 512)
    (pN pB : Option Addr) (cN cB : Nat) (w : World) (hMd : MdAt ⟨a0, c0, a1, is.length, c1, a2, xs.length, c2, a3, bs.length, c3, a4, hs.length, c4⟩ ns is xs bs hs w) (hR : RowsI w pN ((List.range (cntK ns 3)).map (nxK ns xs bs hs))) :
    Calls Try.prog 10 #[Mv.val ⟨a0, c0, a1, is.length, c1, a2, xs.length, c2, a3, bs.length, c3, a4, hs.length, c4⟩ ns.length, .agg #[.slice pN (cntK ns 3) cN, .slice pB (cntK ns 3) cB]] w fun e w' => ∃ g, e = .returned (.slice (some ⟨g, 0, none⟩) (cntK ns 3) (cntK ns 3)) ∧ IRow w' g (layK ns is xs bs hs) ∧ Below w.heap.size w w' := by
  have hW := (nodes_ok (check_zero hck).2.1).1
  have hl80 := (check_zero hck).1.1
  have HBT := hide (check_bits hck)
  have hN0 : 0 < cntK ns 3 := by have h1 := cntK_int ns 3; have h2 := allL_pos (wsK ns 3); omega
  have HB1 : Hid (Below w.heap.size w ((w.alloc (.cells (Mv.cells ⟨a0, c0, a1, is.length, c1, a2, xs.length, c2, a3, bs.length, c3, a4, hs.length, c4⟩ ns.length) 26)).alloc (.cells #[.slice pN (cntK ns 3) cN, .slice pB (cntK ns 3) cB] 42))) := bal (bal (Below.refl _ _) _) _
  have HBX := hide ((Box.new w ⟨a0, c0, a1, is.length, c1, a2, xs.length, c2, a3, bs.length, c3, a4, hs.length, c4⟩ ns.length).later (bal (Below.refl _ _) (.cells #[.slice pN (cntK ns 3) cN, .slice pB (cntK ns 3) cB] 42)))
  have w0 : ((w.alloc (.cells (Mv.cells ⟨a0, c0, a1, is.length, c1, a2, xs.length, c2, a3, bs.length, c3, a4, hs.length, c4⟩ ns.length) 26)).alloc (.cells #[.slice pN (cntK ns 3) cN, .slice pB (cntK ns 3) cB] 42)).cell? ⟨w.heap.size + 1, 0, none⟩ = some (.slice pN (cntK ns 3) cN) := by simp [go_sem]
  have HS0 : Hid (((w.alloc (.cells (Mv.cells ⟨a0, c0, a1, is.length, c1, a2, xs.length, c2, a3, bs.length, c3, a4, hs.length, c4⟩ ns.length) 26)).alloc (.cells #[.slice pN (cntK ns 3) cN, .slice pB (cntK ns 3) cB] 42)).heap.size = w.heap.size + 1 + 1) := by unfold Hid; simp
  have HMF := hide (fun (W : World) (hb : Below w.heap.size w W) => hMd.later hb)
  have HRF := hide (fun (W : World) (hb : Below w.heap.size w W) => hR.later hb)
  have HCK := hide hck
  have HW := hide hW
  clear hMd hck hR hW
  obtain ⟨N, hN⟩ : ∃ N, cntK ns 3 = N := ⟨_, rfl⟩
  have HN := hide hN
  have HLK : Hid (layK ns is xs bs hs = layN N (nxK ns xs bs hs) (iniN (bsK ns is) (List.replicate N (-1)) N) N) := by unfold Hid layK; rw [hN]
  rw [hN] at hN5 hN0 HB1 HBX w0 HS0 HRF ⊢
  clear hN
  obtain ⟨CZ, hCZ, hmk⟩ := make_ints N (by omega)
  go_enter Try.func10, Try.ntmps10
  go_upto_region 1 with fail
  generalize (w.alloc (.cells (Mv.cells ⟨a0, c0, a1, is.length, c1, a2, xs.length, c2, a3, bs.length, c3, a4, hs.length, c4⟩ ns.length) 26)).alloc (.cells #[.slice pN N cN, .slice pB N cB] 42) = wa at *
  have HRZ := hide (hCZ wa)
  clear hCZ
  go_wp2_with fail
  have HB2 : Hid (Below w.heap.size w (wa.alloc (.cells CZ 3))) := bal HB1.out _
  have HL1 : Hid (LyS (wa.alloc (.cells CZ 3)) (wa.alloc (.cells CZ 3)) wa.heap.size N (List.replicate N 0)) := ⟨Below.refl _ _, HRZ.out, by simp, by simp⟩
  have HBXa := hide (HBX.out.later (bal (Below.refl _ wa) (.cells CZ 3)))
  have HWa := hide (cell_later (bal (Below.refl _ wa) (.cells CZ 3)) w0)
  clear HRZ hmk HBX w0 HB1
  generalize wa.alloc (.cells CZ 3) = w1 at *
  generalize wa.heap.size = g at *
  have hS0 := HS0.out
  subst hS0
  have HSF : Hid (∀ W, Below (w.heap.size + 1 + 1) w1 W → Below w.heap.size w W) := fun W hb => HB2.out.trans (hb.mono (by omega))
  have HB5 : Hid (∀ W, Below (w.heap.size + 1 + 1) w1 W → W.cell? ⟨w.heap.size, 0, none⟩ = some (.slice a0 ns.length c0) ∧ W.cell? ⟨w.heap.size, 1, none⟩ = some (.slice a1 is.length c1) ∧ W.cell? ⟨w.heap.size, 2, none⟩ = some (.slice a2 xs.length c2) ∧ W.cell? ⟨w.heap.size, 3, none⟩ = some (.slice a3 bs.length c3) ∧ W.cell? ⟨w.heap.size, 4, none⟩ = some (.slice a4 hs.length c4)) := fun W hb => HBXa.out.kept fun a v ha hv => by
    rw [World.cell?_of_block (w := w1) (hb.block a.block (by omega))]
    exact hv
  have HWF : Hid (∀ W, Below (w.heap.size + 1 + 1) w1 W → W.cell? ⟨w.heap.size + 1, 0, none⟩ = some (.slice pN N cN)) := fun W hb => by
    rw [World.cell?_of_block (w := w1) (hb.block (w.heap.size + 1) (by omega))]
    exact HWa.out
  clear HS0 HBXa HWa
  go_loopw [6] (fun i wr => ∃ k : Nat, k ≤ N ∧ i = .int .i64 k ∧ Hid (LyS w1 wr (w.heap.size + 1 + 1) N (List.replicate k (-1) ++ List.replicate (N - k) 0))) (fun i _ => N - (intOf i).toNat)
  case atStart => exact ⟨0, Nat.zero_le _, rfl, HL1.out⟩
  case round =>
    obtain ⟨k, hk, rfl, HL⟩ := hrel
    by_cases hlt : k < N
    · obtain ⟨s0, s1⟩ := HL.out.at' hlt
      have HL2 := hide (HL.out.set k (-1))
      rw [fill_set N k hlt] at HL2
      generalize (List.replicate k (-1) ++ List.replicate (N - k) 0).getD k 0 = old at s0
      clear HL
      go_wp2_with fail
      go_roundw
      case rel => exact ⟨k + 1, by omega, by go_num, HL2.out⟩
      case measure => simp [intOf]; omega
    · obtain rfl : N = k := by omega
      have HL2 : Hid (LyS w1 wr (w.heap.size + 1 + 1) N (iniN (bsK ns is) (List.replicate N (-1)) 0)) := by
        have h := HL.out
        rw [Nat.sub_self, List.replicate_zero, List.append_nil] at h
        exact h
      clear HL HL1
      go_wp2_with fail
      go_loopw [7] (fun i wr => ∃ j : Nat, j ≤ N ∧ i = .int .i64 j ∧ Hid (LyS w1 wr (w.heap.size + 1 + 1) N (iniN (bsK ns is) (List.replicate N (-1)) j))) (fun i _ => N - (intOf i).toNat)
      case atStart => exact ⟨0, Nat.zero_le _, rfl, HL2.out⟩
      case round =>
        obtain ⟨j, hj, rfl, HLj⟩ := hrel
        by_cases hlj : j < N
        · have HL0 : Hid (LyS w1 wr.drew (w.heap.size + 1 + 1) N (iniN (bsK ns is) (List.replicate N (-1)) j)) := HLj.out.later (Below.refl _ wr).drew
          have HWO := hide (fun (W : World) (hb : Below (w.heap.size + 1 + 1) w1 W) => wordsOf_wrd a0 a1 a2 a3 a4 c0 c1 c2 c3 c4 is.length xs.length bs.length hs.length ns hl80 HW.out 3 j (by omega) W (HMF.out W (HSF.out W hb)).nd)
          have HBO := hide (fun (p : Option Addr) (kc : Nat) (W : World) (hb : Below (w.heap.size + 1 + 1) w1 W) (hI : IntsAt W p (wrdK ns 3 j)) => beginOf_any a0 a1 a2 a3 a4 c0 c1 c2 c3 c4 xs.length bs.length hs.length ns is hl80 (check_zero HCK.out).2.1 hli (fun p hp => (pairE_zero (init_zero ((pairs_zero (check_zero HCK.out).2.2.1).1 p hp))).2.1) (wrdK ns 3 j) (words_len (wrd_ok ns 3 j)) p kc W (HMF.out W (HSF.out W hb)).nd (HMF.out W (HSF.out W hb)).pi hI)
          rw [← begin_same HCK.out] at HBO
          have HNO := hide (fun (p : Option Addr) (kc : Nat) (W : World) (hb : Below (w.heap.size + 1 + 1) w1 W) (hI : IntsAt W p (beL ns is j)) => numberOf_any ⟨a0, c0, a1, is.length, c1, a2, xs.length, c2, a3, bs.length, c3, a4, hs.length, c4⟩ ns hl80 HW.out 3 HBT.out.2.1 (beL ns is j) (fit_words.2 (be_words HCK.out j)) p kc W (HMF.out W (HSF.out W hb)).nd hI)
          have hnum := wrd_num (be_words HCK.out j)
          rw [HN.out] at hnum
          have HBS : Hid (bsK ns is j = (numL (wsK ns 3) (beL ns is j)).toNat) := rfl
          have HBL : Hid (followL ns is (vals ns (wrdK ns 3 j) (zeroI ns) ns.length) = beL ns is j) := rfl
          rw [HBL.out] at HBO
          have HNW : Hid (numL (wsK ns 3) (beL ns is j) = numL ((sel (isK ns 3) ns.length).map (wdOf ns)) (beL ns is j)) := rfl
          rw [← HNW.out] at HNO
          generalize numL (wsK ns 3) (beL ns is j) = tv at *
          generalize beL ns is j = BE at *
          have ht0 : 0 ≤ tv := hnum.2.2
          have ht1 : tv < (N : Int) := by have := hnum.1; omega
          have ht2 : tv.toNat < N := hnum.1
          clear hnum HBL HNW
          go_upto_region 9 with fail
          go_region_held3 (fun w' => w'.cell? ⟨w.heap.size, 0, none⟩ = some (.slice a0 ns.length c0) ∧ w'.cell? ⟨w.heap.size, 1, none⟩ = some (.slice a1 is.length c1) ∧ w'.cell? ⟨w.heap.size, 2, none⟩ = some (.slice a2 xs.length c2) ∧ w'.cell? ⟨w.heap.size, 3, none⟩ = some (.slice a3 bs.length c3) ∧ w'.cell? ⟨w.heap.size, 4, none⟩ = some (.slice a4 hs.length c4))
            (first | exact HB5.out _ HL0.out.bl | exact HB5.out _ (HL0.out.later hbA).bl | exact HB5.out _ ((HL0.out.later hbA).later hbB).bl | exact HB5.out _ (((HL0.out.later hbA).later hbB).later hbC).bl | exact HB5.out _ ((((HL0.out.later hbA).later hbB).later hbC).set _ _).bl)
            (first | (go_at_call 26; refine (HWO.out _ HL0.out.bl).mono ?_; rintro e wA ⟨pA, kA, rfl, hIA, hbA⟩) | (go_at_call 25; refine (HBO.out _ _ _ (HL0.out.later hbA).bl hIA).mono ?_; rintro e wB ⟨pC, kB, rfl, hIB, hbB⟩) | (go_at_call 12; refine (HNO.out _ _ _ ((HL0.out.later hbA).later hbB).bl hIB).mono ?_; rintro e wC ⟨rfl, hbC⟩; obtain ⟨s0, s1⟩ := (((HL0.out.later hbA).later hbB).later hbC).at' ht2))
          have HL3 := hide ((((HL0.out.later hbA).later hbB).later hbC).set tv.toNat 0)
          have HIN : Hid ((iniN (bsK ns is) (List.replicate N (-1)) j).set tv.toNat 0 = iniN (bsK ns is) (List.replicate N (-1)) (j + 1)) := by unfold Hid; rw [iniN, HBS.out]
          rw [HIN.out] at HL3
          clear hIA hIB hbA hbB hbC s0 s1 HL0 HLj HWO HBO HNO
          go_wp2_with fail
          go_roundw
          case rel => exact ⟨j + 1, by omega, by go_num, HL3.out⟩
          case measure => simp [intOf]; omega
        · obtain rfl : N = j := by omega
          have hRw := HRF.out w1 HB2.out
          obtain ⟨bN, hpN, _⟩ := hRw (by simp; omega)
          subst hpN
          have HRC : Hid (∀ W, Below (w.heap.size + 1 + 1) w1 W → ∀ s, s < N → ∃ q c, W.cell? ⟨bN, s, none⟩ = some (.slice q (nxK ns xs bs hs s).length c) ∧ IntsAt W q (nxK ns xs bs hs s)) := fun W hb s hs' => by
            obtain ⟨b', e, hc⟩ := HRF.out W (HSF.out W hb) (by simp; omega)
            injection e with e
            injection e with e
            subst e
            obtain ⟨q, c, h1, h2⟩ := hc s (by simpa using hs')
            simp only [List.getElem_map, List.getElem_range] at h1 h2
            exact ⟨q, c, h1, h2⟩
          have HRG : Hid (∀ s, s < N → ∀ x ∈ nxK ns xs bs hs s, x < N) := fun s hs' x hx => by
            have := (tellsK HCK.out).rg s (by rw [HN.out]; exact hs') x hx
            rw [HN.out] at this
            exact this
          have HNI : Hid (∀ s, (nxK ns xs bs hs s).length ≤ 64) := fun s => by
            have := HBT.out.2.2.1
            rw [nxK_is]
            simpa using this
          have HL4 : Hid (LyS w1 wr (w.heap.size + 1 + 1) N (layN N (nxK ns xs bs hs) (iniN (bsK ns is) (List.replicate N (-1)) N) 0)) := HLj.out
          generalize iniN (bsK ns is) (List.replicate N (-1)) N = D0 at *
          generalize nxK ns xs bs hs = NX at *
          clear HLj hRw HRF
          go_wp2_with fail
          go_loopw [8] (fun i wq => ∃ n : Nat, n ≤ N ∧ i = .int .i64 n ∧ Hid (LyS w1 wq (w.heap.size + 1 + 1) N (layN N NX D0 n))) (fun i _ => N - (intOf i).toNat)
          case atStart => exact ⟨0, Nat.zero_le _, rfl, HL4.out⟩
          case round =>
            clear HL4
            obtain ⟨n, hn, rfl, HLn⟩ := hrel
            by_cases hln : n < N
            · obtain ⟨D1, hD1⟩ : ∃ D1, layN N NX D0 n = D1 := ⟨_, rfl⟩
              have HD1 : Hid (layN N NX D0 (n + 1) = rowN NX n D1 N) := by unfold Hid; rw [layN, hD1]
              have HL5 : Hid (LyS w1 wr (w.heap.size + 1 + 1) N (rowN NX n D1 0)) := by rw [hD1] at HLn; exact HLn.out
              clear hD1 HLn
              go_wp2_with fail
              go_loopw [9] (fun i wq => ∃ s : Nat, s ≤ N ∧ i = .int .i64 s ∧ Hid (LyS w1 wq (w.heap.size + 1 + 1) N (rowN NX n D1 s))) (fun i _ => N - (intOf i).toNat)
              case atStart => exact ⟨0, Nat.zero_le _, rfl, HL5.out⟩
              case round =>
                clear HL5
                obtain ⟨s, hsl, rfl, HLs⟩ := hrel
                by_cases hls : s < N
                · obtain ⟨s0, s1⟩ := HLs.out.at' hls
                  obtain ⟨D2, hD2⟩ : ∃ D2, rowN NX n D1 s = D2 := ⟨_, rfl⟩
                  have HRN : Hid (rowN NX n D1 (s + 1) = if D2.getD s 0 ≠ n then D2 else tosN n D2 (NX s)) := by unfold Hid; rw [rowN, hD2]
                  rw [hD2] at HLs s0
                  clear hD2
                  generalize D2.getD s 0 = x at *
                  by_cases hx : x = n
                  · have HRN2 : Hid (rowN NX n D1 (s + 1) = tosN n D2 (NX s)) := by unfold Hid; rw [HRN.out, if_neg (by simp [hx])]
                    subst hx
                    have HL6 : Hid (LyS w1 wr (w.heap.size + 1 + 1) N (tosN n D2 ((NX s).take 0))) := HLs.out
                    have HRGs := hide (HRG.out s hls)
                    have hNIs := HNI.out s
                    have HRCs := hide (fun W hb => HRC.out W hb s hls)
                    clear HLs HRN
                    generalize NX s = L at *
                    go_wp2_with fail
                    clear s0 s1
                    go_loopw [10] (fun i wq => ∃ t : Nat, t ≤ L.length ∧ i = .int .i64 t ∧ Hid (LyS w1 wq (w.heap.size + 1 + 1) N (tosN n D2 (L.take t)))) (fun i _ => L.length - (intOf i).toNat)
                    case atStart => exact ⟨0, Nat.zero_le _, rfl, HL6.out⟩
                    case round =>
                      clear HL6
                      obtain ⟨t, ht, rfl, HLt⟩ := hrel
                      obtain ⟨qL, cL, hc0, hcI⟩ := HRCs.out wr HLt.out.bl
                      have hw0 := HWF.out wr HLt.out.bl
                      by_cases hlt2 : t < L.length
                      · obtain ⟨bL, oL, rfl, hcL⟩ := hcI (by omega)
                        have hcl := hcL t hlt2
                        have hto := HRGs.out L[t] (List.getElem_mem hlt2)
                        have HTK : Hid (tosN n D2 (L.take (t + 1)) = toN n (tosN n D2 (L.take t)) L[t]) := by unfold Hid; rw [List.take_succ_eq_append_getElem hlt2, tosN_snoc]
                        obtain ⟨D3, hD3⟩ : ∃ D3, tosN n D2 (L.take t) = D3 := ⟨_, rfl⟩
                        rw [hD3] at HLt HTK
                        clear hcL hcI hD3
                        generalize L[t] = tv at *
                        by_cases h0 : 0 ≤ tv
                        · obtain ⟨x0, x1⟩ := HLt.out.at' (i := tv.toNat) (by omega)
                          by_cases h1 : D3.getD tv.toNat 0 < 0
                          · have HL7 := hide (HLt.out.set tv.toNat ((n : Int) + 1))
                            have HTN : Hid (toN n D3 tv = D3.set tv.toNat ((n : Int) + 1)) := by unfold Hid toN; rw [if_pos ⟨h0, h1⟩]
                            rw [← HTN.out, ← HTK.out] at HL7
                            generalize D3.getD tv.toNat 0 = y at *
                            clear HLt HTK HTN
                            go_wp2_with fail
                            go_roundw
                            case rel => exact ⟨t + 1, by omega, by go_num, HL7.out⟩
                            case measure => simp [intOf]; omega
                          · have HTN : Hid (toN n D3 tv = D3) := by unfold Hid toN; rw [if_neg (fun h => h1 h.2)]
                            have HL7 : Hid (LyS w1 wr (w.heap.size + 1 + 1) N (tosN n D2 (L.take (t + 1)))) := by rw [HTK.out, HTN.out]; exact HLt.out
                            generalize D3.getD tv.toNat 0 = y at *
                            clear HLt HTK HTN
                            go_wp2_with fail
                            go_roundw
                            case rel => exact ⟨t + 1, by omega, by go_num, HL7.out⟩
                            case measure => simp [intOf]; omega
                        · have HTN : Hid (toN n D3 tv = D3) := by unfold Hid toN; rw [if_neg (fun h => h0 h.1)]
                          have HL7 : Hid (LyS w1 wr (w.heap.size + 1 + 1) N (tosN n D2 (L.take (t + 1)))) := by rw [HTK.out, HTN.out]; exact HLt.out
                          clear HLt HTK HTN
                          go_wp2_with fail
                          go_roundw
                          case rel => exact ⟨t + 1, by omega, by go_num, HL7.out⟩
                          case measure => simp [intOf]; omega
                      · obtain rfl : t = L.length := by omega
                        have HL7 : Hid (LyS w1 wr (w.heap.size + 1 + 1) N (rowN NX n D1 (s + 1))) := by rw [HRN2.out]; have h := HLt.out; rw [List.take_length] at h; exact h
                        clear HLt HRN2 hcI
                        go_wp2_with fail
                        go_roundw
                        case rel => exact ⟨s + 1, by omega, by go_num, HL7.out⟩
                        case measure => simp [intOf]; omega
                  · have hxb : (x != (n : Int)) = true := by simp [hx]
                    have HL6 : Hid (LyS w1 wr (w.heap.size + 1 + 1) N (rowN NX n D1 (s + 1))) := by rw [HRN.out, if_pos hx]; exact HLs.out
                    clear HLs HRN hx
                    go_wp2_with fail
                    go_roundw
                    case rel => exact ⟨s + 1, by omega, by go_num, HL6.out⟩
                    case measure => simp [intOf]; omega
                · obtain rfl : N = s := by omega
                  have HL6 : Hid (LyS w1 wr (w.heap.size + 1 + 1) N (layN N NX D0 (n + 1))) := by rw [HD1.out]; exact HLs.out
                  clear HLs HD1
                  go_wp2_with fail
                  go_roundw
                  case rel => exact ⟨n + 1, by omega, by go_num, HL6.out⟩
                  case measure => simp [intOf]; omega
            · obtain rfl : N = n := by omega
              have HL8 : Hid (IRow wr (w.heap.size + 1 + 1) (layK ns is xs bs hs)) := by rw [HLK.out]; exact HLn.out.row
              have HB9 := hide (HSF.out wr HLn.out.bl)
              clear HLn
              go_wp2_with fail
              go_ret
              exact ⟨_, rfl, HL8.out, HB9.out⟩
end Go.Proofs.Ytfobcnhibhbbaaa.Xp
