/- Explore and Can: the walks. -/
import Derived.Test.YtfobcnhibhbbaaaGreatDoorYv
namespace Go.Proofs.YtfobcnhibhbbaaaGreatDoor.Ev.Xp
open Go.RowKit Go.Maps Go.WideMaps Go.WideShapes Go.Shelf
set_option maxRecDepth 100000

/-- As the plain text tells it: how far each state is; what is found; can a state be? -/
def layK (ns : List Nd) (is xs : List (Int × Int)) (bs hs : List Int) : List Int := layN (cntK ns 3) (nxK ns xs bs hs) (iniN (bsK ns is) (List.replicate (cntK ns 3) (-1)) (cntK ns 3)) (cntK ns 3)
def fdK (ns : List Nd) (is xs : List (Int × Int)) (bs hs : List Int) : Fd := foundN (layK ns is xs bs hs) (bdK ns xs bs hs) (cntK ns 3)
def canK (ns : List Nd) (is xs : List (Int × Int)) (bs hs s : List Int) : Bool := decide (0 ≤ (layK ns is xs bs hs).getD (numL (wsK ns 3) s).toNat 0)
section
variable {ns : List Nd} {is xs : List (Int × Int)} {bs hs : List Int} {M : List (Sg × Nat)} {bad : Option Nat}
theorem exp_found (hck : checkE ns is xs bs hs = 0) (hJ : Jb (iniL ns is) (mvL ns xs bs hs) M M.length) (hB : Bb (mvL ns xs bs hs) M M.length bad) : foundE M bad = fdK ns is xs bs hs :=
  (found_same (tellsK hck) hJ hB (Nat.le_refl _) (bdK ns xs bs hs) fun s _ => bad_tells s).symm
theorem exp_can (hck : checkE ns is xs bs hs = 0) (hJ : Jb (iniL ns is) (mvL ns xs bs hs) M M.length) {s : Sg} (hs' : wordsE ns 3 s = 0) : decide (s ∈ M.map (·.1)) = canK ns is xs bs hs s := by
  obtain ⟨h1, h2, _⟩ := wrd_num hs'
  unfold canK layK
  rcases lay_all (tellsK hck) h1 with ⟨h3, h4⟩ | ⟨k, h3, h4⟩
  · rw [h3, decide_eq_false fun hm => ?_]
    · rfl
    · obtain ⟨x, hx, e⟩ := List.mem_map.1 hm
      refine h4 x.2 ?_
      rw [h2, ← e]
      exact (hJ.ds x hx).1
  · rw [h3]
    rw [h2] at h4
    have := hJ.all (Nat.le_refl _) k h4.1
    rw [decide_eq_true this, decide_eq_true (by omega)]
end
/-- What is found, as a value. -/
def fdV (f : Fd) : Value := .agg #[.int .i64 f.r, .int .i64 f.dp, .bool f.bad, .int .i64 f.bdd]
def fdI (ns : List Nd) (is xs : List (Int × Int)) (bs hs : List Int) (e : Int) : Fd := if e = 0 then fdK ns is xs bs hs else Fd.zero
theorem sets4 {w : World} {b : Nat} {c0 c1 c2 c3 : Value} {T : TypeId} (h : w.heap[b]? = some (.cells #[c0, c1, c2, c3] T (0, 0))) (v0 v1 v2 v3 : Value) :
    ((((w.setCell ⟨b, 0, none⟩ v0).setCell ⟨b, 1, none⟩ v1).setCell ⟨b, 2, none⟩ v2).setCell ⟨b, 3, none⟩ v3).heap[b]? = some (.cells #[v0, v1, v2, v3] T (0, 0)) ∧ Below b w ((((w.setCell ⟨b, 0, none⟩ v0).setCell ⟨b, 1, none⟩ v1).setCell ⟨b, 2, none⟩ v2).setCell ⟨b, 3, none⟩ v3) := by
  refine ⟨?_, ?_⟩
  · have h0 := heap_setCell_same _ b 0 _ _ v0 h
    simp only [List.setIfInBounds_toArray, List.set_cons_zero] at h0
    have h1 := heap_setCell_same _ b 1 _ _ v1 h0
    simp only [List.setIfInBounds_toArray, List.set_cons_zero, List.set_cons_succ] at h1
    have h2 := heap_setCell_same _ b 2 _ _ v2 h1
    simp only [List.setIfInBounds_toArray, List.set_cons_zero, List.set_cons_succ] at h2
    have h3 := heap_setCell_same _ b 3 _ _ v3 h2
    simp only [List.setIfInBounds_toArray, List.set_cons_zero, List.set_cons_succ] at h3
    exact h3
  · exact (((((Below.refl b w).setCell (p := ⟨b, 0, none⟩) (Nat.le_refl _) _).setCell (p := ⟨b, 1, none⟩) (Nat.le_refl _) _).setCell (p := ⟨b, 2, none⟩) (Nat.le_refl _) _).setCell (p := ⟨b, 3, none⟩) (Nat.le_refl _) _)
theorem cells4 {w : World} {b : Nat} {c0 c1 c2 c3 : Value} {T : TypeId} (h : w.heap[b]? = some (.cells #[c0, c1, c2, c3] T (0, 0))) : (w.cell? ⟨b, 0, none⟩ = some c0 ∧ w.cell? ⟨b, 1, none⟩ = some c1 ∧ w.cell? ⟨b, 2, none⟩ = some c2 ∧ w.cell? ⟨b, 3, none⟩ = some c3) ∧ ∀ i, w.frozen? ⟨b, i, none⟩ = false :=
  ⟨⟨Lib.cell_of_heap h 0, Lib.cell_of_heap h 1, Lib.cell_of_heap h 2, Lib.cell_of_heap h 3⟩, fun i => Lib.frozen_of_heap h i⟩
theorem field3 (x0 x1 x2 x3 x4 x5 x6 x7 x8 x9 x10 : Value) (w : World) : (Instr.field 51 (.agg #[x0, x1, x2, x3, x4, x5, x6, x7, x8, x9, x10]) 3).run Tryz.prog w = .ok (.agg #[x7, x8, x9, x10]) w := by kernel_rfl
theorem field1 (x0 x1 x2 x3 x4 x5 x6 x7 x8 x9 x10 : Value) (w : World) : (Instr.field 51 (.agg #[x0, x1, x2, x3, x4, x5, x6, x7, x8, x9, x10]) 1).run Tryz.prog w = .ok x5 w := by kernel_rfl
set_option maxHeartbeats 2000000 in
theorem explore_any (a0 a1 a2 a3 a4 : Option Addr) (c0 c1 c2 c3 c4 : Nat) (ns : List Nd) (is xs : List (Int × Int)) (bs hs : List Int) (hln : ns.length ≤ maxLen) (hli : is.length ≤ 8796093022208) (hlx : xs.length ≤ 8796093022208) (hlb : bs.length ≤ maxLen) (hlh : hs.length ≤ maxLen)
    (w : World) (hMd : MdAt ⟨a0, c0, a1, is.length, c1, a2, xs.length, c2, a3, bs.length, c3, a4, hs.length, c4⟩ ns is xs bs hs w) :
    Calls Tryz.prog 6 #[Mv.val ⟨a0, c0, a1, is.length, c1, a2, xs.length, c2, a3, bs.length, c3, a4, hs.length, c4⟩ ns.length] w fun e w' => e = .returned (.tuple #[fdV (fdI ns is xs bs hs (checkE ns is xs bs hs)), .int .i64 (checkE ns is xs bs hs)]) ∧ Below w.heap.size w w' := by
  have HB2 : Hid (Below w.heap.size w ((w.alloc (.cells (Mv.cells ⟨a0, c0, a1, is.length, c1, a2, xs.length, c2, a3, bs.length, c3, a4, hs.length, c4⟩ ns.length) 26)).alloc (.cells #[.int .i64 0, .int .i64 0, .bool false, .int .i64 0] 32))) := bal (bal (Below.refl _ _) _) _
  have HBX := hide ((Box.new w ⟨a0, c0, a1, is.length, c1, a2, xs.length, c2, a3, bs.length, c3, a4, hs.length, c4⟩ ns.length).later (bal (Below.refl _ _) (.cells #[.int .i64 0, .int .i64 0, .bool false, .int .i64 0] 32)))
  have HRB : Hid (((w.alloc (.cells (Mv.cells ⟨a0, c0, a1, is.length, c1, a2, xs.length, c2, a3, bs.length, c3, a4, hs.length, c4⟩ ns.length) 26)).alloc (.cells #[.int .i64 0, .int .i64 0, .bool false, .int .i64 0] 32)).heap[w.heap.size + 1]? = some (.cells #[.int .i64 0, .int .i64 0, .bool false, .int .i64 0] 32)) := by
    have h1 := (MapKept.heap_alloc (w.alloc (.cells (Mv.cells ⟨a0, c0, a1, is.length, c1, a2, xs.length, c2, a3, bs.length, c3, a4, hs.length, c4⟩ ns.length) 26)) (.cells #[.int .i64 0, .int .i64 0, .bool false, .int .i64 0] 32)).1
    rw [show (w.alloc (.cells (Mv.cells ⟨a0, c0, a1, is.length, c1, a2, xs.length, c2, a3, bs.length, c3, a4, hs.length, c4⟩ ns.length) 26)).heap.size = w.heap.size + 1 from by simp] at h1
    exact h1
  have HMD := hide (hMd.later HB2.out)
  clear hMd
  go_enter Tryz.func6, Tryz.ntmps6
  go_upto_region 1 with fail
  generalize (w.alloc (.cells (Mv.cells ⟨a0, c0, a1, is.length, c1, a2, xs.length, c2, a3, bs.length, c3, a4, hs.length, c4⟩ ns.length) 26)).alloc (.cells #[.int .i64 0, .int .i64 0, .bool false, .int .i64 0] 32) = w1 at *
  have HCH := hide (check_any a0 a1 a2 a3 a4 c0 c1 c2 c3 c4 ns is xs bs hs hln hli hlx hlb hlh w1 HMD.out.nd HMD.out.pi HMD.out.px HMD.out.ib HMD.out.ih)
  obtain ⟨q0, q1, q2, q3, q4⟩ := HBX.out
  have HEXP := hide (fun (hck : checkE ns is xs bs hs = 0) (W : World) (hb : Below w1.heap.size w1 W) => explored_any a0 a1 a2 a3 a4 c0 c1 c2 c3 c4 ns is xs bs hs hck hli hlx W (HMD.out.later hb))
  have HFZ : Hid (fdI ns is xs bs hs 0 = fdK ns is xs bs hs) := by unfold fdI; rw [if_pos rfl]; rfl
  have HFN : Hid (∀ e, e ≠ 0 → fdI ns is xs bs hs e = Fd.zero) := fun e he => by unfold fdI; rw [if_neg he]
  obtain ⟨ce, hce⟩ : ∃ ce, checkE ns is xs bs hs = ce := ⟨_, rfl⟩
  have HCE := hide hce
  rw [hce] at HCH
  go_wp2_with fail
  refine HCH.out.mono ?_
  rintro e w2 ⟨rfl, hb2⟩
  have HB3 := hide (bthen HB2.out hb2)
  have HB12 := hide hb2
  have HRB2 := hide ((hb2.block _ (Array.getElem?_eq_some_iff.1 HRB.out).1).trans HRB.out)
  have z0 := cell_later hb2 q0
  have z1 := cell_later hb2 q1
  have z2 := cell_later hb2 q2
  have z3 := cell_later hb2 q3
  have z4 := cell_later hb2 q4
  clear hb2 q0 q1 q2 q3 q4 HCH hce HBX
  by_cases he : ce = 0
  · subst he
    go_wp2_with fail
    refine (HEXP.out HCE.out w2 HB12.out).mono ?_
    rintro e w3 ⟨S, va, M, bad, rfl, _, hJ, hB, hb3⟩
    have hf := exp_found HCE.out hJ hB
    rw [hf]
    have hRB3 := (hb3.block _ (Array.getElem?_eq_some_iff.1 HRB2.out).1).trans HRB2.out
    generalize fdK ns is xs bs hs = f at *
    obtain ⟨fr, fdp, fbad, fbdd⟩ := f
    obtain ⟨⟨k0, k1, k2, k3⟩, kf⟩ := cells4 hRB3
    have kf0 := kf 0
    have kf1 := kf 1
    have kf2 := kf 2
    have kf3 := kf 3
    obtain ⟨s1, s2⟩ := sets4 hRB3 (.int .i64 fr) (.int .i64 fdp) (.bool fbad) (.int .i64 fbdd)
    have HS1 := hide s1
    have HS2 := hide s2
    have HB4 := hide (bthen HB3.out hb3)
    have hfi := field3 (.slice a0 ns.length c0) (.slice a1 is.length c1) (.slice a2 xs.length c2) (.slice a3 bs.length c3) (.slice a4 hs.length c4) (.map (some S)) va (.int .i64 fr) (.int .i64 fdp) (.bool fbad) (.int .i64 fbdd) w3
    clear s1 s2 hJ hB hf hRB3 kf z0 z1 z2 z3 z4 hb3 HEXP
    go_wp2_with fail
    generalize ((((w3.setCell ⟨w.heap.size + 1, 0, none⟩ (.int .i64 fr)).setCell ⟨w.heap.size + 1, 1, none⟩ (.int .i64 fdp)).setCell ⟨w.heap.size + 1, 2, none⟩ (.bool fbad)).setCell ⟨w.heap.size + 1, 3, none⟩ (.int .i64 fbdd)) = wS at *
    obtain ⟨⟨t0, t1, t2, t3⟩, _⟩ := cells4 HS1.out
    refine bodyPost_ret (v := .tuple #[.agg #[.int .i64 fr, .int .i64 fdp, .bool fbad, .int .i64 fbdd], .int .i64 0]) (by simp [results, Tryz.results6, go_sem, t0, t1, t2, t3]) rfl ⟨?_, HB4.out.trans (HS2.out.mono (by omega))⟩
    rw [HCE.out, HFZ.out]
    rfl
  · have hne : (ce != 0) = true := by simp [he]
    have HE := hide (HFN.out ce he)
    obtain ⟨⟨k0, k1, k2, k3⟩, kf⟩ := cells4 HRB2.out
    have kf0 := kf 0
    have kf1 := kf 1
    have kf2 := kf 2
    have kf3 := kf 3
    obtain ⟨s1, s2⟩ := sets4 HRB2.out (.int .i64 0) (.int .i64 0) (.bool false) (.int .i64 0)
    have HS1 := hide s1
    have HS2 := hide s2
    clear s1 s2 kf z0 z1 z2 z3 z4 HEXP he
    go_wp2_with fail
    generalize ((((w2.setCell ⟨w.heap.size + 1, 0, none⟩ (.int .i64 0)).setCell ⟨w.heap.size + 1, 1, none⟩ (.int .i64 0)).setCell ⟨w.heap.size + 1, 2, none⟩ (.bool false)).setCell ⟨w.heap.size + 1, 3, none⟩ (.int .i64 0)) = wS at *
    obtain ⟨⟨t0, t1, t2, t3⟩, _⟩ := cells4 HS1.out
    refine bodyPost_ret (v := .tuple #[.agg #[.int .i64 0, .int .i64 0, .bool false, .int .i64 0], .int .i64 ce]) (by simp [results, Tryz.results6, go_sem, t0, t1, t2, t3]) rfl ⟨?_, HB3.out.trans (HS2.out.mono (by omega))⟩
    rw [HCE.out, HE.out]
    rfl
/-- Can's answer. -/
def canI (ns : List Nd) (is xs : List (Int × Int)) (bs hs s : List Int) (e : Int) : Bool := if e = 0 then canK ns is xs bs hs s else false
set_option maxHeartbeats 2000000 in
theorem can_any (a0 a1 a2 a3 a4 : Option Addr) (c0 c1 c2 c3 c4 : Nat) (ns : List Nd) (is xs : List (Int × Int)) (bs hs : List Int) (hln : ns.length ≤ 2932031007402) (hli : is.length ≤ 8796093022208) (hlx : xs.length ≤ 8796093022208) (hlb : bs.length ≤ maxLen) (hlh : hs.length ≤ maxLen)
    (s : List Int) (p : Option Addr) (cap : Nat) (hsc : s.length ≤ cap ∧ cap ≤ maxLen) (w : World) (hMd : MdAt ⟨a0, c0, a1, is.length, c1, a2, xs.length, c2, a3, bs.length, c3, a4, hs.length, c4⟩ ns is xs bs hs w) (hI : IntsAt w p s) :
    Calls Tryz.prog 9 #[Mv.val ⟨a0, c0, a1, is.length, c1, a2, xs.length, c2, a3, bs.length, c3, a4, hs.length, c4⟩ ns.length, .slice p s.length cap] w fun e w' => e = .returned (.tuple #[.bool (canI ns is xs bs hs s (beginE ns is xs bs hs s)), .int .i64 (beginE ns is xs bs hs s)]) ∧ Below w.heap.size w w' := by
  have HB1 : Hid (Below w.heap.size w (w.alloc (.cells (Mv.cells ⟨a0, c0, a1, is.length, c1, a2, xs.length, c2, a3, bs.length, c3, a4, hs.length, c4⟩ ns.length) 26))) := bal (Below.refl _ _) _
  have HBX := hide (Box.new w ⟨a0, c0, a1, is.length, c1, a2, xs.length, c2, a3, bs.length, c3, a4, hs.length, c4⟩ ns.length)
  have HMD := hide (hMd.later HB1.out)
  have HI := hide (hI.later HB1.out)
  clear hMd hI
  go_enter Tryz.func9, Tryz.ntmps9
  go_upto_region 1 with fail
  generalize w.alloc (.cells (Mv.cells ⟨a0, c0, a1, is.length, c1, a2, xs.length, c2, a3, bs.length, c3, a4, hs.length, c4⟩ ns.length) 26) = w1 at *
  have HBG := hide (begin_new a0 a1 a2 a3 a4 c0 c1 c2 c3 c4 ns is xs bs hs hln hli hlx hlb hlh s (Nat.le_trans hsc.1 hsc.2) (.slice p s.length cap) w1 HMD.out.nd HMD.out.pi HMD.out.px HMD.out.ib HMD.out.ih ⟨p, cap, rfl, HI.out, hsc.1, hsc.2⟩)
  obtain ⟨q0, q1, q2, q3, q4⟩ := HBX.out
  obtain ⟨be, hbe⟩ : ∃ be, beginE ns is xs bs hs s = be := ⟨_, rfl⟩
  have HBE := hide hbe
  rw [hbe] at HBG
  clear hbe
  go_wp2_with fail
  refine HBG.out.mono ?_
  rintro e w2 ⟨pb, kb, lb, rfl, _, _, hb2⟩
  have HB12 := hide hb2
  have HB3 := hide (bthen HB1.out hb2)
  have z0 := cell_later hb2 q0
  have z1 := cell_later hb2 q1
  have z2 := cell_later hb2 q2
  have z3 := cell_later hb2 q3
  have z4 := cell_later hb2 q4
  clear hb2 q0 q1 q2 q3 q4 HBG
  by_cases he : be = 0
  · subst he
    have hck : checkE ns is xs bs hs = 0 := by
      have h := HBE.out
      unfold beginE at h
      by_cases h1 : checkE ns is xs bs hs = 0
      · exact h1
      · rw [if_pos h1] at h; exact h
    have hws : wordsE ns 3 s = 0 := by
      have h := HBE.out
      unfold beginE at h
      rw [if_neg (by rw [hck]; simp)] at h
      exact h
    have hW := (nodes_ok (check_zero hck).2.1).1
    have hn10 : (sel (isK ns 3) ns.length).length ≤ 10 := by
      have h1 := (check_bits hck).2.1
      have h2 := sel_few hW 3
      omega
    have HFT := hide (words_fits hW hws)
    have hs10 : s.length ≤ 10 := by rw [HFT.out.1]; exact hn10
    have HEXP := hide (explored_any a0 a1 a2 a3 a4 c0 c1 c2 c3 c4 ns is xs bs hs hck hli hlx w2 (HMD.out.later HB12.out))
    have HPL := hide (fun (W : World) (hb : Below w1.heap.size w1 W) => placeOf_any s hs10 p cap W (HI.out.later hb))
    have HCK := hide hck
    have HWS := hide hws
    clear hck hws hs10 hW
    go_wp2_with fail
    refine HEXP.out.mono ?_
    rintro e w3 ⟨S, va, M, bad, rfl, ⟨nM, D, hD1, hD2⟩, hJ, hB, hb3⟩
    have HB4 := hide (bthen HB3.out hb3)
    have hfi := field1 (.slice a0 ns.length c0) (.slice a1 is.length c1) (.slice a2 xs.length c2) (.slice a3 bs.length c3) (.slice a4 hs.length c4) (.map (some S)) va (.int .i64 (foundE M bad).r) (.int .i64 (foundE M bad).dp) (.bool (foundE M bad).bad) (.int .i64 (foundE M bad).bdd) w3
    have HCAN := hide (exp_can HCK.out hJ HWS.out)
    have HPL3 := hide (HPL.out w3 (bthen HB12.out hb3))
    have HDD := hide (And.intro hD1 hD2)
    clear hJ hB hb3 HEXP HPL hD1 hD2
    go_wp2_with fail
    refine HPL3.out.mono ?_
    rintro e w4 ⟨rfl, hb4⟩
    have HB5 := hide (bthen HB4.out hb4)
    obtain ⟨c, hlk, _⟩ := look47 (map_same HDD.out.1 (hb4.block S HDD.out.1.lt)) HDD.out.2 hn10 HFT.out
    rw [HCAN.out] at hlk
    clear hb4 HPL3 hfi
    go_wp2_with fail
    go_ret2
    exact ⟨by rw [HBE.out]; unfold canI; rw [if_pos rfl]; rfl, HB5.out⟩
  · have hne : (be != 0) = true := by simp [he]
    have HE := hide he
    clear he z0 z1 z2 z3 z4
    go_wp2_with fail
    go_ret2
    exact ⟨by rw [HBE.out]; unfold canI; rw [if_neg HE.out]; rfl, HB3.out⟩
end Go.Proofs.YtfobcnhibhbbaaaGreatDoor.Ev.Xp
