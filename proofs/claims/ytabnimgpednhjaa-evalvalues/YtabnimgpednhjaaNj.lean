/- The nodes on which one leans. -/
import Derived.Test.YtabnimgpednhjaaNe
import Derived.Test.YtabnimgpednhjaaNh
import Derived.Laws.AppendOwnNone
namespace Go.Proofs.Ytabnimgpednhjaa
open Go.RowKit

theorem ofSt_take (s : Int) (l : List (Int × Int)) (k : Nat) (h : k < l.length) : ofSt s (l.take (k + 1)) = ofSt s (l.take k) ++ (if l[k].1 == s then [l[k].2] else []) := by
  unfold ofSt
  rw [List.take_succ_eq_append_getElem h, List.filter_append, List.map_append]
  cases hf : (l[k].1 == s) <;> simp [hf]

theorem ofSt_len (s : Int) (l : List (Int × Int)) (k : Nat) : (ofSt s (l.take k)).length ≤ k := by
  unfold ofSt
  rw [List.length_map]
  have := List.length_filter_le (fun p : Int × Int => p.1 == s) (l.take k)
  rw [List.length_take] at this
  omega

theorem ofSt_len2 (s : Int) (l : List (Int × Int)) : (ofSt s l).length ≤ l.length := by
  have := ofSt_len s l l.length
  rwa [List.take_length] at this

theorem owns_cap {w : World} {base : Nat} {p : Option Addr} {n cap : Nat} {l : List Value} (h : w.ownsRow base 3 1 (.slice p n cap) n l) : p = none → cap = 0 := by
  intro hp
  subst hp
  rcases h.2 with ⟨h1, _⟩ | ⟨g, cap', cur, h1, _⟩
  · injection h1
  · cases h1

theorem operandsS_any (x : Nd) (w : World) :
    Calls Try.prog 95 #[.agg #[.int .i64 x.kind, .int .i64 x.width, .int .i64 x.a, .int .i64 x.b, .int .i64 x.c, .int .i64 x.n]] w fun e w' =>
      ∃ g, e = .returned (.slice (some ⟨g, 0, none⟩) (opsL x).length 3) ∧ IntsAt w' (some ⟨g, 0, none⟩) (opsL x) ∧ Below w.heap.size w w' := by
  obtain ⟨h1, h2⟩ := takes_nat x.kind
  refine (operands_at x.kind x.width x.a x.b x.c x.n (takes x.kind).toNat h1 h2 w).mono ?_
  rintro e w' ⟨g, rfl, hI, hb⟩
  exact ⟨g, by rw [opsL_len], hI, hb⟩

/-- The nodes of the pairs of a state, of none, one or both lists. -/
def leanN (i : Int) (is xs : List (Int × Int)) : Nat → List Int
  | 0 => []
  | 1 => ofSt i is
  | _ => ofSt i is ++ ofSt i xs

set_option maxRecDepth 100000 in
set_option maxHeartbeats 4000000 in
theorem leansOn_any (a0 a1 a2 a3 a4 : Option Addr) (c0 c1 c2 c3 c4 l3 l4 : Nat) (ns : List Nd) (is xs : List (Int × Int)) (hl : ns.length ≤ 80) (hli : is.length ≤ 8796093022208) (hlx : xs.length ≤ 8796093022208) (i : Nat) (hlt : i < ns.length) (w : World)
    (hN : NodesAt w a0 ns) (hI : PairsAt w a1 is) (hX : PairsAt w a2 xs) :
    Calls Try.prog 68 #[Mv.val ⟨a0, c0, a1, is.length, c1, a2, xs.length, c2, a3, l3, c3, a4, l4, c4⟩ ns.length, .int .i64 i] w fun e w' =>
      ∃ p cap, e = .returned (.slice p (leanL ns is xs i).length cap) ∧ (p = none → cap = 0) ∧ IntsAt w' p (leanL ns is xs i) ∧ Below w.heap.size w w' := by
  obtain ⟨i0, hi, hz0, hz1, hz2⟩ := info_parts info3
  obtain ⟨b, off, rfl, hc⟩ := hN (by omega)
  obtain ⟨d0, d1, d2, d3, d4, d5⟩ := hc i hlt
  have HK := hide (isK_at (kind := 3) hlt)
  have HOp := hide (opsAt_at hlt)
  have HI := hide hI
  have HX := hide hX
  have hil : (i : Int) < (ns.length : Int) := by omega
  clear hc hI hX hN
  have HL : Hid (leanL ns is xs i = if isK ns 3 i then ofSt i is ++ ofSt i xs else opsAt ns i) := rfl
  generalize ns[i] = nd at *
  obtain ⟨kd, v, x, y, z, n⟩ := nd
  simp only at *
  have hb0 : Below w.heap.size w ((w.alloc (.cells (Mv.cells ⟨some ⟨b, off, none⟩, c0, a1, is.length, c1, a2, xs.length, c2, a3, l3, c3, a4, l4, c4⟩ ns.length) 40)).alloc (.cells #[.int .i64 kd, .int .i64 v, .int .i64 x, .int .i64 y, .int .i64 z, .int .i64 n] 87)) := bal (bal (Below.refl _ _) _) _
  have HB0 := hide hb0
  clear hb0
  have f0 := past1 d0 (.cells (Mv.cells ⟨some ⟨b, off, none⟩, c0, a1, is.length, c1, a2, xs.length, c2, a3, l3, c3, a4, l4, c4⟩ ns.length) 40)
  have f1 := past1 d1 (.cells (Mv.cells ⟨some ⟨b, off, none⟩, c0, a1, is.length, c1, a2, xs.length, c2, a3, l3, c3, a4, l4, c4⟩ ns.length) 40)
  have f2 := past1 d2 (.cells (Mv.cells ⟨some ⟨b, off, none⟩, c0, a1, is.length, c1, a2, xs.length, c2, a3, l3, c3, a4, l4, c4⟩ ns.length) 40)
  have f3 := past1 d3 (.cells (Mv.cells ⟨some ⟨b, off, none⟩, c0, a1, is.length, c1, a2, xs.length, c2, a3, l3, c3, a4, l4, c4⟩ ns.length) 40)
  have f4 := past1 d4 (.cells (Mv.cells ⟨some ⟨b, off, none⟩, c0, a1, is.length, c1, a2, xs.length, c2, a3, l3, c3, a4, l4, c4⟩ ns.length) 40)
  have f5 := past1 d5 (.cells (Mv.cells ⟨some ⟨b, off, none⟩, c0, a1, is.length, c1, a2, xs.length, c2, a3, l3, c3, a4, l4, c4⟩ ns.length) 40)
  clear d0 d1 d2 d3 d4 d5
  by_cases hk : kd = 3
  · have hk' : (kd != 3) = false := by simp [hk]
    have HE : Hid (leanL ns is xs i = leanN i is xs 2) := by
      rw [HL.out, HK.out, if_pos (by simp [hk])]; rfl
    clear hk HL HK HOp
    have j0 : ∀ w : World, (Instr.index 107 (.agg #[.slice a1 is.length c1, .slice a2 xs.length c2]) (.int .i64 0)).run Try.prog w = .ok (.slice a1 is.length c1) w := fun _ => by kernel_rfl
    have j1 : ∀ w : World, (Instr.index 107 (.agg #[.slice a1 is.length c1, .slice a2 xs.length c2]) (.int .i64 1)).run Try.prog w = .ok (.slice a2 xs.length c2) w := fun _ => by kernel_rfl
    go_enter Try.func68, Try.ntmps68
    go_wp2
    go_loopw [6, 26] (fun v k wr => ∃ n : Nat, n ≤ 2 ∧ k = .int .i64 n ∧ wr.ownsRow w.heap.size 3 1 v (leanN i is xs n).length ((leanN i is xs n).map (Value.int .i64)) ∧ Below w.heap.size w wr) (fun _ k _ => 2 - (intOf k).toNat)
    case atStart => exact ⟨0, by omega, rfl, World.ownsRow_nil _ _ _ _, HB0.out⟩
    case round =>
    obtain ⟨n, hn, rfl, hown, hbw⟩ := hrel
    match n, hn with
    | 0, _ =>
      simp only [leanN] at hown
      go_wp2
      go_loopw [6, 31] (fun v j wr2 => ∃ k : Nat, k ≤ is.length ∧ j = .int .i64 k ∧ wr2.ownsRow w.heap.size 3 1 v (ofSt i (is.take k)).length ((ofSt i (is.take k)).map (Value.int .i64)) ∧ Below w.heap.size w wr2) (fun _ j _ => is.length - (intOf j).toNat)
      case atStart => exact ⟨0, Nat.zero_le _, rfl, by simpa [ofSt] using hown, hbw⟩
      case round =>
        obtain ⟨k, hk, rfl, hown, hbw⟩ := hrel
        have hsz := hbw.size
        by_cases hlt2 : k < is.length
        · obtain ⟨b2, off2, rfl, hc2⟩ := (HI.out.later hbw) (by omega)
          obtain ⟨e0, e1⟩ := hc2 k hlt2
          have HT := hide (ofSt_take (i : Int) is k hlt2)
          have hll := ofSt_len (i : Int) is k
          have hkl : (k : Int) < (is.length : Int) := by omega
          clear hc2
          generalize is[k] = pr at *
          obtain ⟨s, y⟩ := pr
          simp only at e0 e1 HT
          cases hf : (s == (i : Int))
          · have HS : Hid ((ofSt i (is.take (k + 1))) = (ofSt i (is.take k))) := by rw [HT.out, hf]; simp [Hid]
            clear HT
            go_wp2
            go_roundw
            case rel => exact ⟨k + 1, by omega, by go_num, by rw [HS.out]; exact hown.alloc _, bal hbw _⟩
            case measure => simp [intOf]; omega
          · have HS : Hid ((ofSt i (is.take (k + 1))) = (ofSt i (is.take k)) ++ [y]) := by rw [HT.out, hf]; simp [Hid]
            have hlen2 : (ofSt i (is.take k)).length + 1 ≤ 17592186044416 := by omega
            clear HT
            generalize (ofSt i (is.take k)) = l at *
            go_wp2_with (at_builtin; refine wpList_append_own _ rfl _ _ 31 rfl w.heap.size 3 i0 (.int .i64 0) 1 8 Try.underlying31 hi hz0 hz1 hz2 rfl (by decide) _ _ _ rfl ((hown.alloc _).alloc _) ⟨wr.heap.size + 1, 0, none⟩ 1 1 [.int .i64 y] rfl rfl ?c1 ?c2 ?c3 ?c4 ?c5 ?_)
            case c1 =>
              intro j u hj
              match j, hj with
              | 0, hj => simp at hj; subst hj; simp [Addr.add]
            case c2 => intro u hu; simp at hu; subst hu; rfl
            case c3 => unfold maxLen; omega
            case c4 => omega
            case c5 => simp; omega
            intro v' w1 hown' hgrow _
            have R := owns_later2 hown hown' hgrow hbw (by omega)
            rw [← HS.out] at R
            clear hown' hgrow hown
            go_wp2
            go_roundw
            case rel => exact ⟨_, _, _, _, _, _, _, _, _, _, _, _, _, _, _, _, ⟨k + 1, by omega, by go_num, R.1, R.2⟩, rfl⟩
            case measure => simp [intOf]; omega
        · obtain rfl : k = is.length := by omega
          rw [List.take_length] at hown
          go_wp2
          go_roundw
          case rel => exact ⟨1, by omega, by go_num, hown, hbw⟩
          case measure => simp [intOf]
    | 1, _ =>
      simp only [leanN] at hown
      go_wp2
      go_loopw [6, 31] (fun v j wr2 => ∃ k : Nat, k ≤ xs.length ∧ j = .int .i64 k ∧ wr2.ownsRow w.heap.size 3 1 v (ofSt i is ++ ofSt i (xs.take k)).length ((ofSt i is ++ ofSt i (xs.take k)).map (Value.int .i64)) ∧ Below w.heap.size w wr2) (fun _ j _ => xs.length - (intOf j).toNat)
      case atStart => exact ⟨0, Nat.zero_le _, rfl, by simpa [ofSt] using hown, hbw⟩
      case round =>
        obtain ⟨k, hk, rfl, hown, hbw⟩ := hrel
        have hsz := hbw.size
        by_cases hlt2 : k < xs.length
        · obtain ⟨b2, off2, rfl, hc2⟩ := (HX.out.later hbw) (by omega)
          obtain ⟨e0, e1⟩ := hc2 k hlt2
          have HT := hide (ofSt_take (i : Int) xs k hlt2)
          have hll := ofSt_len (i : Int) xs k
          have hkl : (k : Int) < (xs.length : Int) := by omega
          clear hc2
          generalize xs[k] = pr at *
          obtain ⟨s, y⟩ := pr
          simp only at e0 e1 HT
          cases hf : (s == (i : Int))
          · have HS : Hid ((ofSt i is ++ ofSt i (xs.take (k + 1))) = (ofSt i is ++ ofSt i (xs.take k))) := by rw [HT.out, hf]; simp [Hid]
            clear HT
            go_wp2
            go_roundw
            case rel => exact ⟨k + 1, by omega, by go_num, by rw [HS.out]; exact hown.alloc _, bal hbw _⟩
            case measure => simp [intOf]; omega
          · have HS : Hid ((ofSt i is ++ ofSt i (xs.take (k + 1))) = (ofSt i is ++ ofSt i (xs.take k)) ++ [y]) := by rw [HT.out, hf]; simp [Hid]
            have hlen2 : (ofSt i is ++ ofSt i (xs.take k)).length + 1 ≤ 17592186044416 := by simp only [List.length_append]; have := ofSt_len2 (i : Int) is; omega
            clear HT
            generalize (ofSt i is ++ ofSt i (xs.take k)) = l at *
            go_wp2_with (at_builtin; refine wpList_append_own _ rfl _ _ 31 rfl w.heap.size 3 i0 (.int .i64 0) 1 8 Try.underlying31 hi hz0 hz1 hz2 rfl (by decide) _ _ _ rfl ((hown.alloc _).alloc _) ⟨wr.heap.size + 1, 0, none⟩ 1 1 [.int .i64 y] rfl rfl ?c1 ?c2 ?c3 ?c4 ?c5 ?_)
            case c1 =>
              intro j u hj
              match j, hj with
              | 0, hj => simp at hj; subst hj; simp [Addr.add]
            case c2 => intro u hu; simp at hu; subst hu; rfl
            case c3 => unfold maxLen; omega
            case c4 => omega
            case c5 => simp; omega
            intro v' w1 hown' hgrow _
            have R := owns_later2 hown hown' hgrow hbw (by omega)
            rw [← HS.out] at R
            clear hown' hgrow hown
            go_wp2
            go_roundw
            case rel => exact ⟨_, _, _, _, _, _, _, _, _, _, _, _, _, _, _, _, ⟨k + 1, by omega, by go_num, R.1, R.2⟩, rfl⟩
            case measure => simp [intOf]; omega
        · obtain rfl : k = xs.length := by omega
          rw [List.take_length] at hown
          go_wp2
          go_roundw
          case rel => exact ⟨2, by omega, by go_num, hown, hbw⟩
          case measure => simp [intOf]
    | 2, _ =>
      obtain ⟨p, cap, rfl, hJ⟩ := owns_ints hown
      have hcap := owns_cap hown
      go_wp2
      go_ret
      exact ⟨p, cap, by rw [HE.out]; rfl, hcap, by rw [HE.out]; exact hJ, hbw⟩
  · have hk' : (kd != 3) = true := by simp [hk]
    have HE : Hid (leanL ns is xs i = opsL ⟨kd, v, x, y, z, n⟩) := by
      rw [HL.out, HK.out, if_neg (by simp [hk]), HOp.out]; rfl
    clear hk HL HK HOp
    go_enter Try.func68, Try.ntmps68
    go_wp2_with fail
    refine (operandsS_any ⟨kd, v, x, y, z, n⟩ _).mono ?_
    rintro e w1 ⟨g, rfl, hJ, hb1⟩
    go_wp2
    go_ret
    exact ⟨some ⟨g, 0, none⟩, 3, by rw [HE.out]; rfl, (fun h => by cases h), by rw [HE.out]; exact hJ, bthen HB0.out hb1⟩

end Go.Proofs.Ytabnimgpednhjaa
