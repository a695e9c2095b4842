/- The lines of pairs and of marks are written. -/
import Derived.Test.YtabnimgpednhjaaGreatDoorJc
import Derived.Test.YtabnimgpednhjaaGreatDoorMdM
namespace Go.Proofs.YtabnimgpednhjaaGreatDoor
open Go.RowKit
set_option maxRecDepth 100000

def sortL : List (List UInt8) := [[], [105, 110, 105, 116], [110, 101, 120, 116], [98, 97, 100], [104, 111, 108, 100]]
def sortB (k : Nat) : ByteArray := ⟨(sortL.getD k []).toArray⟩
def SW (w : World) : Prop := ∀ k : Nat, k < 5 → w.cell? ⟨1, k, none⟩ = some (.string (sortB k))
theorem SW.later {w w' : World} (h : SW w) (hb : Below w.heap.size w w') : SW w' := fun k hk => cell_later hb (h k hk)
/-- A line's bytes: a word, and numbers behind it. -/
def lineT (s : ByteArray) (ns : List Int) : List UInt8 := lineN (s :: ns.map itoaB) (ns.length + 1) ++ [10]
/-- The lines of the first rows of numbers. -/
def linesT (s : ByteArray) (L : List (List Int)) : Nat → List UInt8
  | 0 => []
  | k + 1 => linesT s L k ++ (match L[k]? with | some ns => lineT s ns | none => [])
theorem linesT_succ {s : ByteArray} {L : List (List Int)} {k : Nat} (h : k < L.length) : linesT s L (k + 1) = linesT s L k ++ lineT s L[k] := by
  simp [linesT, List.getElem?_eq_getElem h]
theorem sort_size (k : Nat) : (sortB k).size ≤ 4 := by
  match k with
  | 0 => decide
  | 1 => decide
  | 2 => decide
  | 3 => decide
  | 4 => decide
  | k + 5 =>
    have h : (sortB (k + 5)).size = 0 := rfl
    omega
theorem lineT_len {s : ByteArray} {ns : List Int} (hb : ∀ n ∈ ns, -9223372036854775808 ≤ n ∧ n ≤ 9223372036854775807) : (lineT s ns).length ≤ s.size + 22 * ns.length + 1 := by
  have h := wordN_size (s := s) hb ns.length (Nat.le_refl _)
  have h2 := wordN_line s ns ns.length (Nat.le_refl _)
  have h3 : (wordN s ns ns.length).data.toList.length = (wordN s ns ns.length).size := Array.length_toList
  unfold lineT
  rw [List.length_append, ← h2, h3]
  simp only [List.length_cons, List.length_nil]
  omega
def Small (L : List (List Int)) : Prop := ∀ ns ∈ L, ns.length ≤ 2 ∧ ∀ n ∈ ns, -9223372036854775808 ≤ n ∧ n ≤ 9223372036854775807
theorem linesT_len {s : ByteArray} {L : List (List Int)} (hs : s.size ≤ 4) (h : Small L) (k : Nat) (hk : k ≤ L.length) : (linesT s L k).length ≤ 50 * k := by
  induction k with
  | zero => simp [linesT]
  | succ k ih =>
    have hm := h L[k] (List.getElem_mem (by omega))
    have h1 := lineT_len (s := s) hm.2
    have h2 := ih (by omega)
    have h3 := hm.1
    rw [linesT_succ (by omega), List.length_append]
    omega
theorem below_of {w0 w wr : World} {B : Nat} (h0 : Below w0.heap.size w0 w) (hB : w0.heap.size ≤ B) (h : Below B w wr) : Below w0.heap.size w0 wr := h0.trans (h.mono hB)

theorem ints_one (w : World) (x : Int) : IntsAt (w.alloc (.cells #[.int .i64 x] 3)) (some ⟨w.heap.size, 0, none⟩) [x] := fun _ => ⟨w.heap.size, 0, rfl, fun i hi => by
  match i, hi with
  | 0, _ => simp [go_sem]⟩
theorem ints_two (w : World) (x y : Int) : IntsAt (w.alloc (.cells #[.int .i64 x, .int .i64 y] 3)) (some ⟨w.heap.size, 0, none⟩) [x, y] := fun _ => ⟨w.heap.size, 0, rfl, fun i hi => by
  match i, hi with
  | 0, _ => simp [go_sem]
  | 1, _ => simp [go_sem]⟩

set_option maxHeartbeats 8000000 in
theorem marks_any (B b : Nat) (l : List UInt8) (of : Nat) (hof : of < 5) (p : Option Addr) (cap : Nat) (ms : List Int) (hms : ms.length ≤ 1000000) (hbd : ∀ n ∈ ms, -9223372036854775808 ≤ n ∧ n ≤ 9223372036854775807) (w0 w : World) (hI : IntsAt w0 p ms) (h0 : Below w0.heap.size w0 w) (hB0 : w0.heap.size ≤ B) (hSW : SW w0) (ht : Pow w0)
    (h : Lib.IsBuilder 45 5 B b (Lib.byteCells l) w) (hBw : B ≤ w.heap.size) (hl : l.length ≤ 1000000000) :
    Calls Tryz.prog 15 #[.pointer (some ⟨b, 0, none⟩), .int .i64 of, .slice p ms.length cap] w fun e w' => e = .returned (.tuple #[]) ∧ Lib.IsBuilder 45 5 B b (Lib.byteCells (l ++ linesT (sortB of) (ms.map fun m => [m]) ms.length)) w' ∧ Below B w w' := by
  have HB := hide h
  have HI := hide (fun (w' : World) (hb : Below B w w') => hI.later (below_of h0 hB0 hb))
  have HSW := hide (fun (w' : World) (hb : Below B w w') => (hSW.later (below_of h0 hB0 hb)) of hof)
  have HT := hide (fun (w' : World) (hb : Below B w w') => tab_later ht (below_of h0 hB0 hb))
  have HBD := hide hbd
  have HSM : Hid (Small (ms.map fun m => [m])) := fun ns hn => by
    obtain ⟨m, hm, rfl⟩ := List.mem_map.1 hn
    exact ⟨by simp, fun n hn => by simp at hn; subst hn; exact hbd n hm⟩
  have hsz := sort_size of
  have hoi : (of : Int) < 5 := by omega
  have ho0 : (0 : Int) ≤ (of : Int) := by omega
  clear h hI hSW ht hbd h0
  generalize hL : (ms.map fun m => [m]) = L at *
  have HLL : Hid (L.length = ms.length) := by rw [← hL]; show _ = _; simp
  have HLK : Hid (∀ k (h : k < ms.length) (h2 : k < L.length), L[k] = [ms[k]]) := fun k h h2 => by subst hL; simp
  clear hL
  generalize hsb : sortB of = sb at *
  clear hsb
  go_enter Tryz.func15, Tryz.ntmps15
  go_wp2
  go_loopw [10] (fun i wr => ∃ k : Nat, k ≤ ms.length ∧ i = .int .i64 k ∧ Hid (Lib.IsBuilder 45 5 B b (Lib.byteCells (l ++ linesT sb L k)) wr ∧ Below B w wr)) (fun i _ => ms.length - (intOf i).toNat)
  case atStart => exact ⟨0, Nat.zero_le _, rfl, by simpa [linesT] using HB.out, Below.refl _ _⟩
  case round =>
    clear HB
    obtain ⟨k, hk, rfl, HR⟩ := hrel
    have hszw := HR.out.2.size
    have HTL := hide (linesT_len hsz HSM.out k (by rw [HLL.out]; omega))
    by_cases hlt : k < ms.length
    · obtain ⟨ib, io, rfl, hic⟩ := (HI.out wr HR.out.2) (by omega)
      have hck := hic k hlt
      have hki : (k : Int) < (ms.length : Int) := by omega
      have hLk : k < L.length := by rw [HLL.out]; omega
      have HTS := hide (linesT_succ (s := sb) hLk)
      rw [HLK.out k hlt hLk] at HTS
      have hxb := HBD.out ms[k] (List.getElem_mem hlt)
      clear hic
      generalize ms[k] = x at *
      have hsw := HSW.out wr HR.out.2
      have HLN := hide (lineT_len (s := sb) (ns := [x]) (fun n hn => by simp at hn; subst hn; exact hxb))
      have hbd : Below wr.heap.size wr wr.drew := (Below.refl _ wr).drew
      have HNB : Hid (∀ w', Below wr.heap.size wr w' → IntsAt w' (some ⟨wr.heap.size, 0, none⟩) [x] → Calls Tryz.prog 40 #[.pointer (some ⟨b, 0, none⟩), .string sb, .slice (some ⟨wr.heap.size, 0, none⟩) 1 1] w' fun e w'' => e = .returned (.tuple #[]) ∧ Lib.IsBuilder 45 5 B b (Lib.byteCells (l ++ linesT sb L (k + 1))) w'' ∧ Below B w' w'') := fun w' hb hI' => by
        refine (numbers_any B b (l ++ linesT sb L k) sb (some ⟨wr.heap.size, 0, none⟩) 1 [x] w' (builder_later HR.out.1 hb) hI' (by simp) (fun n hn => by simp at hn; subst hn; exact hxb) (by
          have h1 := HLN.out
          have h2 := HTL.out
          unfold lineT at h1
          rw [List.length_append] at h1 ⊢
          simp only [List.length_cons, List.length_nil] at h1 ⊢
          omega) (Nat.le_trans hBw (Nat.le_trans hszw hb.size)) (HT.out w' (HR.out.2.trans (hb.mono (by omega))))).mono ?_
        rintro e w'' ⟨rfl, h1, h2, _⟩
        refine ⟨rfl, ?_, h2⟩
        rw [HTS.out]
        unfold lineT
        simpa [List.append_assoc] using h1
      have HBW := hide HR.out.2
      have hne := World.new_ne wr ⟨1, of, none⟩ hsw
      simp only at hne
      have hlt1 := World.block_lt_of_cell? _ _ hsw
      simp only at hlt1
      clear HR HLN HTS HTL
      go_wp2
      go_region_held3 (fun w' => w'.cell? ⟨1, of, none⟩ = some (.string sb))
        (first | exact hsw | exact past1 hsw _ | exact HSW.out _ ((HBW.out.trans ((bal hbd _).mono (by omega))).trans hb2) | go_keep)
        ((go_at_call 40; refine (HNB.out _ (bal hbd _) (ints_one wr.drew x)).mono ?_; rintro e w2 ⟨rfl, hu2, hb2⟩))
      have HV : Hid (Lib.IsBuilder 45 5 B b (Lib.byteCells (l ++ linesT sb L (k + 1))) w2 ∧ Below B w w2) := ⟨hu2, (HBW.out.trans ((bal hbd _).mono (by omega))).trans hb2⟩
      clear hu2 hb2 HNB
      go_wp2
      go_roundw
      case rel => exact ⟨k + 1, by omega, by go_num, HV⟩
      case measure => simp [intOf]; omega
    · obtain rfl : k = ms.length := by omega
      have hki : ¬ (ms.length : Int) < (ms.length : Int) := by omega
      go_wp2
      go_end0
      exact ⟨rfl, HR.out⟩
end Go.Proofs.YtabnimgpednhjaaGreatDoor

namespace Go.Proofs.YtabnimgpednhjaaGreatDoor.Ev
open Go.RowKit
set_option maxRecDepth 100000

/-- What lies at a list of numbers. -/
def IntsAt (w : World) (p : Option Addr) (l : List Int) : Prop :=
  0 < l.length → ∃ b off, p = some ⟨b, off, none⟩ ∧ ∀ (i : Nat) (h : i < l.length), w.cell? ⟨b, off + i, none⟩ = some (.int .i64 l[i])

theorem IntsAt.later {w w1 : World} {p : Option Addr} {l : List Int} (h : IntsAt w p l) (hb : Below w.heap.size w w1) : IntsAt w1 p l := by
  intro h0
  obtain ⟨b, off, hp, hc⟩ := h h0
  exact ⟨b, off, hp, fun i hi => cell_later hb (hc i hi)⟩

theorem owns_ints {w : World} {base : Nat} {v : Value} {l : List Int} (h : w.ownsRow base 3 1 v l.length (l.map (Value.int .i64))) : ∃ p cap, v = .slice p l.length cap ∧ IntsAt w p l := by
  obtain ⟨h1, h2⟩ := h
  rcases h2 with ⟨rfl, h0⟩ | ⟨g, cap, cur, rfl, hg, hh, hn, hm, hs, ht⟩
  · refine ⟨none, 0, by rw [h0], fun h => by omega⟩
  · refine ⟨_, cap, rfl, fun _ => ⟨g, 0, rfl, fun i hi => ?_⟩⟩
    have h3 : w.ownsRow base 3 1 (.slice (some ⟨g, 0, none⟩) l.length cap) l.length (l.map (Value.int .i64)) := ⟨h1, .inr ⟨g, cap, cur, rfl, hg, hh, hn, hm, hs, ht⟩⟩
    have := h3.cellAt i (by omega)
    rw [Nat.zero_add, this, List.getElem?_map, List.getElem?_eq_getElem hi]
    rfl

set_option maxRecDepth 100000 in
set_option maxHeartbeats 1000000 in
theorem ofKind_any (p0 : Option Addr) (cap0 : Nat) (ns : List Nd) (hl : ns.length ≤ 2932031007402) (kind : Int) (w : World) (hN : NodesAt w p0 ns) :
    Calls Tryz.prog 55 #[.slice p0 ns.length cap0, .int .i64 kind] w fun e w' =>
      ∃ p cap, e = .returned (.slice p (sel (isK ns kind) ns.length).length cap) ∧ IntsAt w' p (sel (isK ns kind) ns.length) ∧ Below w.heap.size w w' := by
  obtain ⟨i0, hi, hz0, hz1, hz2⟩ := info_parts info3
  go_enter Tryz.func55, Tryz.ntmps55
  go_wp2
  go_loopw [5, 10] (fun v i wr => ∃ k : Nat, k ≤ ns.length ∧ i = .int .i64 k ∧ wr.ownsRow w.heap.size 3 1 v (sel (isK ns kind) k).length ((sel (isK ns kind) k).map (Value.int .i64)) ∧ Below w.heap.size w wr) (fun _ i _ => ns.length - (intOf i).toNat)
  case atStart => exact ⟨0, Nat.zero_le _, rfl, World.ownsRow_nil _ _ _ _, Below.refl _ _⟩
  case round =>
    obtain ⟨k, hk, rfl, hown, hbw⟩ := hrel
    have hsz := hbw.size
    by_cases hlt : k < ns.length
    · obtain ⟨b, off, rfl, hc⟩ := (hN.later hbw) (by omega)
      obtain ⟨d0, d1, d2, d3, d4, d5⟩ := hc k hlt
      have HI := hide (isK_at (kind := kind) hlt)
      clear hc
      generalize ns[k] = nd at *
      obtain ⟨kd, v, x, y, z, n⟩ := nd
      simp only at *
      cases hf : (kd == kind)
      · have HS : Hid (sel (isK ns kind) (k + 1) = sel (isK ns kind) k) := sel_no (by rw [HI.out, hf])
        clear HI
        go_wp2
        go_roundw
        case rel => exact ⟨k + 1, by omega, by go_num, by rw [HS.out]; exact hown.alloc _, bal hbw _⟩
        case measure => simp [intOf]; omega
      · have HS : Hid (sel (isK ns kind) (k + 1) = sel (isK ns kind) k ++ [(k : Int)]) := sel_yes (by rw [HI.out, hf])
        have hsl := sel_len (isK ns kind) k
        clear HI
        generalize sel (isK ns kind) k = l at *
        go_wp2_with (at_builtin; refine wpList_append_own _ rfl _ _ 24 rfl w.heap.size 3 i0 (.int .i64 0) 1 8 Tryz.underlying24 hi hz0 hz1 hz2 rfl (by decide) _ _ _ rfl ((hown.alloc _).alloc _) ⟨wr.heap.size + 1, 0, none⟩ 1 1 [.int .i64 (k : Int)] rfl rfl ?c1 ?c2 ?c3 ?c4 ?c5 ?_)
        case c1 =>
          intro j u hj
          match j, hj with
          | 0, hj => simp at hj; subst hj; simp [Addr.add]
        case c2 => intro u hu; simp at hu; subst hu; rfl
        case c3 => unfold maxLen; omega
        case c4 => omega
        case c5 => simp; omega
        intro v' w1 hown' hgrow _
        have R := owns_later2 hown hown' hgrow hbw (by omega)
        rw [← HS.out] at R
        clear hown' hgrow hown
        go_wp2
        go_roundw
        case rel => exact ⟨k + 1, by omega, by go_num, R.1, R.2⟩
        case measure => simp [intOf]; omega
    · obtain rfl : k = ns.length := by omega
      obtain ⟨p, cap, rfl, hI⟩ := owns_ints hown
      go_wp2
      go_ret
      exact ⟨p, cap, rfl, hI, hbw⟩

/-- Is it a node's number? -/
def isN (len : Nat) (x : Int) : Bool := decide (0 ≤ x) && decide (x < len)
theorem isN_true {len : Nat} {x : Int} : isN len x = true ↔ 0 ≤ x ∧ x < len := by simp [isN]
theorem isN_false {len : Nat} {x : Int} : isN len x = false ↔ ¬ (0 ≤ x ∧ x < len) := by rw [← isN_true]; simp

set_option maxHeartbeats 1000000 in
theorem isNode_any (m : Mv) (len : Nat) (_hl : len ≤ maxLen) (x : Int) (w : World) :
    Calls Tryz.prog 62 #[m.val len, .int .i64 x] w fun e w' => e = .returned (.bool (isN len x)) ∧ w' = w.alloc (.cells (m.cells len) 26) := by
  unfold maxLen at _hl
  go_enter Tryz.func62, Tryz.ntmps62
  go_wp2
  all_goals
    go_ret
    exact ⟨ret_bool (by rw [Bool.eq_iff_iff, isN_true]; simp; try omega), rfl⟩

/-- All widths of a list, added. -/
def sumW (ns : List Nd) (l : List Int) : Int := (l.map (wdOf ns)).sum
theorem sumW_take (ns : List Nd) (l : List Int) (k : Nat) (h : k < l.length) : sumW ns (l.take (k + 1)) = sumW ns (l.take k) + wdOf ns l[k] := by
  unfold sumW
  rw [List.take_succ_eq_append_getElem h]
  simp only [List.map_append, List.sum_append, List.map_cons, List.map_nil, List.sum_cons, List.sum_nil]
  omega

def Wok (ns : List Nd) : Prop := ∀ (i : Nat) (h : i < ns.length), 1 ≤ ns[i].width ∧ ns[i].width ≤ 8

theorem wdOf_bd {ns : List Nd} (h : Wok ns) (x : Int) : 0 ≤ wdOf ns x ∧ wdOf ns x ≤ 8 := by
  unfold wdOf
  by_cases hx : x.toNat < ns.length
  · rw [List.getElem?_eq_getElem hx]
    have := h _ hx
    simp only
    omega
  · rw [List.getElem?_eq_none (by omega)]
    simp

theorem sumW_bd {ns : List Nd} (h : Wok ns) (l : List Int) (k : Nat) : 0 ≤ sumW ns (l.take k) ∧ sumW ns (l.take k) ≤ 8 * k := by
  induction k with
  | zero => simp [sumW]
  | succ k ih =>
    by_cases hk : k < l.length
    · rw [sumW_take ns l k hk]
      have := wdOf_bd h l[k]
      omega
    · rw [List.take_of_length_le (by omega)] at ih ⊢
      omega

theorem sel_bd {f : Nat → Bool} {n : Nat} {k : Nat} (h : k < (sel f n).length) : 0 ≤ (sel f n)[k] ∧ (sel f n)[k] < n := by
  have key : ∀ y, y ∈ sel f n → 0 ≤ y ∧ y < n := by
    intro y hy
    unfold sel at hy
    simp only [List.mem_map, List.mem_filter, List.mem_range] at hy
    obtain ⟨a, ⟨h1, _⟩, h2⟩ := hy
    omega
  exact key _ (List.getElem_mem h)

set_option maxRecDepth 100000 in
set_option maxHeartbeats 2000000 in
theorem bitsOf_any (a0 : Option Addr) (c0 : Nat) (ns : List Nd) (hl : ns.length ≤ 80) (hW : Wok ns) (kind : Int) (w : World) (hN : NodesAt w a0 ns) :
    Calls Tryz.prog 33 #[.slice a0 ns.length c0, .int .i64 kind] w fun e w' => e = .returned (.int .i64 (sumW ns (sel (isK ns kind) ns.length))) ∧ Below w.heap.size w w' := by
  have hsl := sel_len (isK ns kind) ns.length
  have HB : Hid (∀ k, ∀ h : k < (sel (isK ns kind) ns.length).length, 0 ≤ (sel (isK ns kind) ns.length)[k] ∧ (sel (isK ns kind) ns.length)[k] < ns.length) := fun k h => sel_bd h
  have HW : Hid _ := hW
  clear hW
  go_enter Tryz.func33, Tryz.ntmps33
  go_wp2_with fail
  refine (ofKind_any a0 c0 ns (by omega) kind _ hN).mono ?_
  rintro e w1 ⟨p, cap, rfl, hI, hbw⟩
  have hN1 := hN.later hbw
  clear hN
  generalize hL : sel (isK ns kind) ns.length = l at *
  have HL : Hid _ := hL
  clear hL
  go_wp2
  go_loopw [5, 12] (fun s i wr => ∃ k : Nat, k ≤ l.length ∧ i = .int .i64 k ∧ s = .int .i64 (sumW ns (l.take k)) ∧ wr = w1) (fun _ i _ => l.length - (intOf i).toNat)
  case atStart => exact ⟨0, Nat.zero_le _, rfl, by simp [sumW], rfl⟩
  case round =>
    obtain ⟨k, hk, rfl, rfl, rfl⟩ := hrel
    by_cases hlt : k < l.length
    · obtain ⟨b, off, rfl, hc⟩ := hI (by omega)
      have hx := HB.out k hlt
      have hck := hc k hlt
      have HS : Hid _ := sumW_take ns l k hlt
      have hsb := sumW_bd HW.out l k
      have hwb := wdOf_bd HW.out l[k]
      generalize l[k] = x at *
      obtain ⟨nb, noff, hp, hnc⟩ := hN1 (by omega)
      have hw1 := wd_cell hnc x hx.1 hx.2
      clear hnc hc
      subst hp
      go_wp2
      go_roundw
      case rel => exact ⟨k + 1, by omega, by go_num, by rw [HS.out], by first | rfl | trivial⟩
      case measure => simp [intOf]; omega
    · obtain rfl : k = l.length := by omega
      go_wp2
      go_ret
      exact ⟨ret_int (by rw [List.take_length, HL.out]), hbw⟩

end Go.Proofs.YtabnimgpednhjaaGreatDoor.Ev
