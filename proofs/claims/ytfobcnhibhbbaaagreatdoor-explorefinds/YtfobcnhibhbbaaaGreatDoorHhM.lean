/- Lines: a line of numbers is written. -/
import Derived.Test.YtfobcnhibhbbaaaGreatDoorShelf
import Derived.Test.YtfobcnhibhbbaaaGreatDoorHcM
import Derived.Lib.AppendIntMem
import Derived.Laws.IdiomStrings
import Derived.Lib.ItoaLen
namespace Go.Proofs.YtfobcnhibhbbaaaGreatDoor
open Go.RowKit
set_option maxRecDepth 100000

def IntsAt (w : World) (p : Option Addr) (l : List Int) : Prop := 0 < l.length → ∃ b off, p = some ⟨b, off, none⟩ ∧ ∀ i (hi : i < l.length), w.cell? ⟨b, off + i, none⟩ = some (.int .i64 l[i])
theorem IntsAt.later {w w' : World} {p : Option Addr} {l : List Int} (h : IntsAt w p l) (hb : Below w.heap.size w w') : IntsAt w' p l := fun h0 => by
  obtain ⟨b, off, h1, h2⟩ := h h0
  exact ⟨b, off, h1, fun i hi => cell_later hb (h2 i hi)⟩
def itoaB (n : Int) : ByteArray := ⟨(Lib.itoa n).toArray⟩
theorem others_of {B : Nat} {e : TypeId} {b : Option Nat} {w w' : World} (h : Below B w w') (hB : w.heap.size ≤ B) : Lib.OthersKept e b w w' := fun k o hk _ _ => by
  rw [h.block k (by have := (Array.getElem?_eq_some_iff.1 hk).1; omega)]
  exact hk
theorem builder_later {T e : TypeId} {B b : Nat} {bs : List Value} {w w' : World} (h : Lib.IsBuilder T e B b bs w) (hb : Below w.heap.size w w') : Lib.IsBuilder T e B b bs w' := by
  have key : ∀ p, Lib.BuilderAt T e B b p bs w → Lib.BuilderAt T e B b p bs w' := by
    intro p h
    have hlt := h.lt
    obtain ⟨hB, v, hbk, hown, hne⟩ := h
    refine ⟨hB, v, (hb.block b hlt).trans hbk, ⟨hown.1, ?_⟩, hne⟩
    rcases hown.2 with hn | ⟨g, cap, cur, hv, hbg, hg, rest⟩
    · exact .inl hn
    · exact .inr ⟨g, cap, cur, hv, hbg, (hb.block g (Array.getElem?_eq_some_iff.1 hg).1).trans hg, rest⟩
  rcases h with h | h
  · exact .inl (key _ h)
  · exact .inr (key _ h)
theorem strs_of {w : World} {base : Nat} {v : Value} {l : List ByteArray} (h : w.ownsRow base 9 1 v l.length (l.map Value.string)) : ∃ p cap, v = .slice p l.length cap ∧ StrsAt w p l := by
  rcases h.2 with ⟨rfl, h0⟩ | ⟨g, cap, cur, rfl, hg, hh, hn, hm, hs, ht⟩
  · exact ⟨none, 0, by rw [h0], fun h => by omega⟩
  · refine ⟨_, cap, rfl, fun _ => ⟨g, 0, cur, _, rfl, hh, fun i hi => ?_⟩⟩
    have e : (cur.toList.take (l.length * 1))[i]? = (l.map Value.string)[i]? := by rw [ht]
    rw [List.getElem?_take_of_lt (by omega), List.getElem?_map, List.getElem?_eq_getElem hi] at e
    rw [Nat.zero_add, ← Array.getElem?_toList]
    exact e
theorem info9 : (Tryz.prog.info? 9).map (fun i => (i.zero, i.size, i.bytes)) = some (some (.string ⟨#[]⟩), 1, 16) := by kernel_rfl

theorem tab_later {w w' : World} (h : Lib.TabIs Tryz.prog w "internal/strconv.uint64pow10" .u64 Lib.pow10Tab) (hb : Below w.heap.size w w') : Lib.TabIs Tryz.prog w' "internal/strconv.uint64pow10" .u64 Lib.pow10Tab := Lib.tabBelow_of_tabIs h w' hb

/-- The words of a line of numbers, so far. -/
def numsN (s : ByteArray) (ns : List Int) (k : Nat) : List ByteArray := s :: (ns.take k).map itoaB
theorem numsN_len {s : ByteArray} {ns : List Int} {k : Nat} (h : k ≤ ns.length) : (numsN s ns k).length = k + 1 := by simp [numsN]; omega
theorem numsN_succ {s : ByteArray} {ns : List Int} {k : Nat} (h : k < ns.length) : numsN s ns (k + 1) = numsN s ns k ++ [itoaB ns[k]] := by
  unfold numsN
  rw [List.take_add_one, List.getElem?_eq_getElem h, List.map_append]
  rfl
theorem numsN_all {s : ByteArray} {ns : List Int} : numsN s ns ns.length = s :: ns.map itoaB := by simp [numsN]
theorem own_one (s : ByteArray) (w : World) : (w.alloc (.cells #[.string s] 9)).ownsRow w.heap.size 9 1 (.slice (some ⟨w.heap.size, 0, none⟩) 1 1) 1 [.string s] :=
  ⟨rfl, .inr ⟨w.heap.size, 1, _, rfl, Nat.le_refl _, heap_alloc_new w _, Nat.le_refl _, by decide, rfl, rfl⟩⟩
theorem own_below {w w' : World} {base : Nat} {e : TypeId} {v : Value} {n : Nat} {xs : List Value} (h : w.ownsRow base e 1 v n xs) (hb : Below w.heap.size w w') : w'.ownsRow base e 1 v n xs := by
  refine ⟨h.1, ?_⟩
  rcases h.2 with hn | ⟨g, cap, cur, hv, hbg, hg, rest⟩
  · exact .inl hn
  · exact .inr ⟨g, cap, cur, hv, hbg, (hb.block g (Array.getElem?_eq_some_iff.1 hg).1).trans hg, rest⟩

set_option maxHeartbeats 2000000 in
set_option maxRecDepth 100000 in
theorem numbers_any (B b : Nat) (l : List UInt8) (s : ByteArray) (p : Option Addr) (cap : Nat) (ns : List Int) (w : World) (h : Lib.IsBuilder 71 5 B b (Lib.byteCells l) w) (hI : IntsAt w p ns) (hns : ns.length ≤ 1000) (hbd : ∀ n ∈ ns, -9223372036854775808 ≤ n ∧ n ≤ 9223372036854775807)
    (hlen : l.length + (lineN (s :: ns.map itoaB) (ns.length + 1)).length + 1 ≤ 140737488355328) (hBw : B ≤ w.heap.size) (htab : Lib.TabIs Tryz.prog w "internal/strconv.uint64pow10" .u64 Lib.pow10Tab) :
    Calls Tryz.prog 22 #[.pointer (some ⟨b, 0, none⟩), .string s, .slice p ns.length cap] w fun e w' => e = .returned (.tuple #[]) ∧ (Lib.IsBuilder 71 5 B b (Lib.byteCells (l ++ lineN (s :: ns.map itoaB) (ns.length + 1) ++ [10])) w' ∧ Below B w w' ∧ Lib.OthersKept 5 (some b) w w') := by
  obtain ⟨i0, hi, hz0, hz1, hz2⟩ := info_parts info9
  have H := hide h
  have HI := hide hI
  have HT := hide htab
  have HB := hide hbd
  have HL := hide hlen
  clear h hI htab hbd hlen
  go_enter Tryz.func22, Tryz.ntmps22
  go_wp2
  go_loopw [6, 8, 13] (fun v _ c wr => ∃ k : Nat, k ≤ ns.length ∧ c = .int .i64 k ∧ Hid (wr.ownsRow w.heap.size 9 1 v (numsN s ns k).length ((numsN s ns k).map Value.string) ∧ Below w.heap.size w wr)) (fun _ _ c _ => ns.length - (intOf c).toNat)
  case atStart => exact ⟨0, Nat.zero_le _, rfl, own_one s w, (Below.refl _ _).alloc (Nat.le_refl _) _⟩
  case round =>
    obtain ⟨k, hk, rfl, HR⟩ := hrel
    by_cases hlt : k < ns.length
    · obtain ⟨g, off, rfl, hc⟩ := (HI.out.later HR.out.2) (by omega)
      have hck := hc k hlt
      clear hc
      have HS := hide (numsN_succ (s := s) hlt)
      have HX := hide (HB.out ns[k] (List.getElem_mem hlt))
      have HN := hide (numsN_len (s := s) hk)
      generalize ns[k] = n at *
      go_wp2_with fail
      refine (Tryz.strconv_Itoa n HX.out.1 HX.out.2 _ (tab_later HT.out HR.out.2)).mono ?_
      rintro e w2 ⟨rfl, kk, os, rfl⟩
      have hb2 := Lib.below_grow wr.heap.size wr (Nat.le_refl _) kk os
      generalize Sort.grow (wr.drewN kk) os = w2 at *
      have ho2 := own_below HR.out.1 hb2
      have hb3 := HR.out.2.trans (hb2.mono HR.out.2.size)
      go_wp2_with (at_builtin; refine wpList_append_own _ rfl _ _ 94 rfl w.heap.size 9 i0 (.string ⟨#[]⟩) 1 16 Tryz.underlying94 hi hz0 hz1 hz2 rfl (by decide) _ _ _ rfl (ho2.alloc _) ⟨w2.heap.size, 0, none⟩ 1 1 [.string (itoaB n)] rfl rfl ?c1 ?c2 ?c3 ?c4 ?c5 ?_)
      case c1 =>
        intro j u hj
        match j, hj with
        | 0, hj => simp at hj; subst hj; simp [Addr.add, itoaB]
      case c2 => intro u hu; simp at hu; subst hu; rfl
      case c3 => have := HN.out; unfold maxLen; omega
      case c4 => have := HN.out; omega
      case c5 => have := hb3.size; simp; omega
      intro v' w3 hown hgrow _
      have HV := hide (show w3.ownsRow w.heap.size 9 1 v' (numsN s ns (k + 1)).length ((numsN s ns (k + 1)).map Value.string) ∧ Below w.heap.size w w3 from ⟨by rw [HS.out]; simpa using hown, (hb3.alloc hb3.size _).grown hgrow (by have := hb3.size; simp; omega) (fun j hj => (ho2.lt j hj).1)⟩)
      clear hown hgrow hb3 ho2 hb2 HR HS HX HN
      go_wp2
      go_roundw
      case rel => exact ⟨k + 1, by omega, by go_num, HV⟩
      case measure => simp [intOf]; omega
    · obtain rfl : k = ns.length := by omega
      obtain ⟨q, qc, rfl, hsa⟩ := strs_of HR.out.1
      go_wp2_with fail
      have hN := numsN_len (s := s) (Nat.le_refl ns.length)
      refine (line_any B b l q qc (numsN s ns ns.length) wr (builder_later H.out HR.out.2) hsa (by rw [hN, numsN_all]; exact HL.out) (by omega) (by have := HR.out.2.size; omega)).mono ?_
      rintro e w2 ⟨rfl, h1, h2, h3⟩
      rw [hN, numsN_all] at h1
      go_wp2
      go_end0
      exact ⟨rfl, h1, (HR.out.2.mono hBw).trans h2, (others_of HR.out.2 (Nat.le_refl _)).trans h3⟩
end Go.Proofs.YtfobcnhibhbbaaaGreatDoor

namespace Go.Proofs.YtfobcnhibhbbaaaGreatDoor
open Go.RowKit
set_option maxRecDepth 100000

def decB (u : Nat) : ByteArray := ⟨(Lib.decDigits u).toArray⟩
theorem conv_one (u : Nat) (h : u < 10) (w : World) : (convert 67 9 (.slice (some ⟨w.heap.size, 0, none⟩) 1 1)).run Tryz.prog (w.alloc (.cells #[.int .u8 (48 + (u : Int))] 5)) = .ok (.string (decB u)) (w.alloc (.cells #[.int .u8 (48 + (u : Int))] 5)) := by
  have := run_convert_bytes_back (P := Tryz.prog) (w.alloc (.cells #[.int .u8 (48 + (u : Int))] 5)) 67 9 5 ⟨w.heap.size, 0, none⟩ 1 [UInt8.ofNat (48 + u)] Tryz.underlying67 Tryz.underlying5 Tryz.underlying9 (by
    intro j hj
    match j, hj with
    | 0, _ =>
      have e : (48 + u) % 256 = 48 + u := by omega
      simp [Addr.add, e])
  unfold decB
  rw [Lib.decDigits_one h]
  exact this

theorem decB_big {u : Nat} (h : ¬ u < 10) : decB u = decB (u / 10) ++ decB (u % 10) := by
  unfold decB
  rw [Lib.decDigits, dif_neg h, Lib.decDigits_one (i := u % 10) (by omega)]
  simp [ByteArray.ext_iff]
theorem decB_size {u : Nat} (h : u ≤ 9223372036854775808) : (decB u).size ≤ 20 := by
  have e : (decB u).size = (Lib.decDigits u).length := rfl
  rw [e, Lib.decDigits_length]
  exact Lib.nDigits_le20 u (by omega)

theorem itoaB_pos (u : Nat) : itoaB (u : Int) = decB u := by unfold itoaB decB; rw [Lib.itoa_nonneg]
theorem itoaB_neg {u : Nat} (h : 1 ≤ u) : itoaB (-(u : Int)) = ⟨#[45]⟩ ++ decB u := by
  unfold itoaB decB
  rw [Lib.itoa_neg u h]
  simp [ByteArray.ext_iff]
theorem cat3 (a b c : ByteArray) : a ++ b ++ c = a ++ (b ++ c) := by simp [ByteArray.ext_iff]
theorem one45 : (ByteArray.mk #[45]).size = 1 := rfl

theorem itoaB_size {n : Int} (h0 : -9223372036854775808 ≤ n) (h1 : n ≤ 9223372036854775807) : (itoaB n).size ≤ 21 := Lib.itoa_length_le n h0 h1
end Go.Proofs.YtfobcnhibhbbaaaGreatDoor

namespace Go.Proofs.YtfobcnhibhbbaaaGreatDoor
open Go.RowKit
set_option maxRecDepth 100000

/-- A line so far, as the plain text writes it. -/
def wordN (s : ByteArray) (ns : List Int) : Nat → ByteArray
  | 0 => s
  | k + 1 => wordN s ns k ++ (⟨#[32]⟩ ++ match ns[k]? with | some n => itoaB n | none => ⟨#[]⟩)
theorem wordN_succ {s : ByteArray} {ns : List Int} {k : Nat} (h : k < ns.length) : wordN s ns (k + 1) = wordN s ns k ++ (⟨#[32]⟩ ++ itoaB ns[k]) := by
  simp [wordN, List.getElem?_eq_getElem h]
theorem wordN_size {s : ByteArray} {ns : List Int} (hb : ∀ n ∈ ns, -9223372036854775808 ≤ n ∧ n ≤ 9223372036854775807) (k : Nat) (hk : k ≤ ns.length) : (wordN s ns k).size ≤ s.size + 22 * k := by
  induction k with
  | zero => simp [wordN]
  | succ k ih =>
    have := ih (by omega)
    have h2 := hb ns[k] (List.getElem_mem hk)
    have := itoaB_size h2.1 h2.2
    rw [wordN_succ hk, ByteArray.size_append, ByteArray.size_append]
    have e : (ByteArray.mk #[32]).size = 1 := rfl
    omega
end Go.Proofs.YtfobcnhibhbbaaaGreatDoor

namespace Go.Proofs.YtfobcnhibhbbaaaGreatDoor
open Go.RowKit
set_option maxRecDepth 100000

theorem wordN_line (s : ByteArray) (ns : List Int) (k : Nat) (hk : k ≤ ns.length) : (wordN s ns k).data.toList = lineN (s :: ns.map itoaB) (k + 1) := by
  induction k with
  | zero => simp [wordN, lineN]
  | succ k ih =>
    have h2 : k + 1 < (s :: ns.map itoaB).length := by simp; omega
    rw [wordN_succ (show k < ns.length by omega), lineN_succ h2, ← ih (by omega)]
    simp

/-- The first line, its words, the text behind it, whether it is ended. -/
def lineOf (s : ByteArray) : ByteArray := ⟨(Lib.cut s.data.toList [10]).1.toArray⟩
def restOf (s : ByteArray) : ByteArray := ⟨(Lib.cut s.data.toList [10]).2.1.toArray⟩
def endsOf (s : ByteArray) : Bool := (Lib.cut s.data.toList [10]).2.2
def wordsOf (s : ByteArray) : List ByteArray := Lib.splitB ⟨#[32]⟩ 0 (Lib.countB s ⟨#[32]⟩) s
theorem wordsOf_len (s : ByteArray) : (wordsOf s).length = Lib.countB s ⟨#[32]⟩ + 1 := Lib.splitB_all ⟨#[32]⟩ (by decide) 0 _ s rfl
theorem lineOf_size (s : ByteArray) : (lineOf s).size ≤ s.size := by
  show (Lib.cut s.data.toList [10]).1.toArray.size ≤ s.data.size
  rw [List.size_toArray, ← Array.length_toList]
  unfold Lib.cut
  split
  · simp [List.length_take]; omega
  · exact Nat.le_refl _
theorem strs_new (w : World) (l : List ByteArray) : StrsAt (w.alloc (.cells (l.map Value.string).toArray 9)) (some ⟨w.heap.size, 0, none⟩) l := fun _ => ⟨w.heap.size, 0, _, _, rfl, heap_alloc_new w _, fun i hi => by simp [List.getElem?_eq_getElem hi]⟩

set_option maxHeartbeats 1000000 in
set_option maxRecDepth 100000 in
theorem next_any (s : ByteArray) (hs : s.size < 4294967281) (m : Int) (w : World) (hm : w.cell? ⟨1, 0, none⟩ = some (.int .i64 m)) :
    Calls Tryz.prog 45 #[.string s] w fun e w' => ∃ p, e = .returned (.tuple #[.slice p (wordsOf (lineOf s)).length (wordsOf (lineOf s)).length, .string (restOf s), .bool (endsOf s)]) ∧ StrsAt w' p (wordsOf (lineOf s)) ∧ Below w.heap.size w w' := by
  have HM := hide hm
  clear hm
  go_enter Tryz.func45, Tryz.ntmps45
  go_wp2_with fail
  refine (Tryz.strings_Cut s ⟨#[10]⟩ m _ hs HM.out).mono ?_
  rintro e w1 ⟨rfl, n, rfl⟩
  rw [show (⟨(Lib.cut s.data.toList (ByteArray.mk #[10]).data.toList).1.toArray⟩ : ByteArray) = lineOf s from rfl, show (⟨(Lib.cut s.data.toList (ByteArray.mk #[10]).data.toList).2.1.toArray⟩ : ByteArray) = restOf s from rfl, show (Lib.cut s.data.toList (ByteArray.mk #[10]).data.toList).2.2 = endsOf s from rfl]
  have hl := lineOf_size s
  go_wp2_with fail
  refine (Tryz.strings_Split (lineOf s) ⟨#[32]⟩ m (w.drewN n) (by omega) HM.out (by decide)).mono ?_
  rintro e w2 ⟨rfl, rfl⟩
  have e2 := wordsOf_len (lineOf s)
  have h3 := strs_new (w.drewN n) (wordsOf (lineOf s))
  rw [← e2]
  rw [show Lib.splitB ⟨#[32]⟩ 0 (Lib.countB (lineOf s) ⟨#[32]⟩) (lineOf s) = wordsOf (lineOf s) from rfl]
  have HB := hide (show Below w.heap.size w ((w.drewN n).alloc (.cells ((wordsOf (lineOf s)).map Value.string).toArray 9)) from Below.alloc (show Below w.heap.size w (w.drewN n) from ⟨rfl, rfl, rfl, Nat.le_refl _, fun _ _ => rfl⟩) (Nat.le_refl _) _)
  have H3 := hide h3
  clear h3 e2
  generalize (w.drewN n).alloc (.cells ((wordsOf (lineOf s)).map Value.string).toArray 9) = w3 at *
  go_wp2
  go_ret3
  exact ⟨_, rfl, H3.out, HB.out⟩
end Go.Proofs.YtfobcnhibhbbaaaGreatDoor

namespace Go.Proofs.YtfobcnhibhbbaaaGreatDoor
open Go.RowKit
set_option maxRecDepth 100000

/-- The numbers that the words tell, if each tells one. -/
def tellAll : List ByteArray → Option (List Int)
  | [] => some []
  | a :: l => match tellsN a, tellAll l with | some n, some ns => some (n :: ns) | _, _ => none
theorem tellAll_app {a : List ByteArray} {x : ByteArray} {ns : List Int} {n : Int} (h : tellAll a = some ns) (hx : tellsN x = some n) : tellAll (a ++ [x]) = some (ns ++ [n]) := by
  induction a generalizing ns with
  | nil => simp [tellAll] at h; subst h; simp [tellAll, hx]
  | cons b l ih =>
    cases hb : tellsN b with
    | none => simp [tellAll, hb] at h
    | some m =>
      cases hl : tellAll l with
      | none => simp [tellAll, hb, hl] at h
      | some ms =>
        simp [tellAll, hb, hl] at h
        subst h
        simp [tellAll, hb, ih hl]
theorem tellAll_none {a : List ByteArray} {k : Nat} (hk : k < a.length) (hx : tellsN a[k] = none) : tellAll a = none := by
  induction a generalizing k with
  | nil => simp at hk
  | cons b l ih =>
    cases k with
    | zero => simp at hx; simp [tellAll, hx]
    | succ k =>
      have := ih (k := k) (by simpa using hk) (by simpa using hx)
      simp only [tellAll, this]
      cases tellsN b <;> rfl
def NumsOut (ws : List ByteArray) (v : Value) (b : Bool) (base : Nat) (w : World) : Prop := match tellAll ws with | some ns => b = true ∧ w.ownsRow base 3 1 v ns.length (ns.map (Value.int .i64)) | none => b = false ∧ v = .slice none 0 0
theorem NumsOut.all {ws : List ByteArray} {ns : List Int} {v : Value} {base : Nat} {w : World} (h : tellAll ws = some ns) (h2 : w.ownsRow base 3 1 v ns.length (ns.map (Value.int .i64))) : NumsOut ws v true base w := by
  unfold NumsOut
  rw [h]
  exact ⟨rfl, h2⟩
theorem NumsOut.no {ws : List ByteArray} {base : Nat} {w : World} (h : tellAll ws = none) : NumsOut ws (.slice none 0 0) false base w := by
  unfold NumsOut
  rw [h]
  exact ⟨rfl, rfl⟩
theorem tellAll_len {ws : List ByteArray} {ns : List Int} (h : tellAll ws = some ns) : ns.length = ws.length := by
  induction ws generalizing ns with
  | nil => simp [tellAll] at h; subst h; rfl
  | cons b l ih =>
    cases hb : tellsN b with
    | none => simp [tellAll, hb] at h
    | some m =>
      cases hl : tellAll l with
      | none => simp [tellAll, hb, hl] at h
      | some ms =>
        simp [tellAll, hb, hl] at h
        subst h
        simp [ih hl]
theorem strs_below {w w' : World} {p : Option Addr} {l : List ByteArray} (h : StrsAt w p l) (hb : Below w.heap.size w w') : StrsAt w' p l := fun h0 => by
  obtain ⟨b, off, c, fz, h1, h2, h3⟩ := h h0
  exact ⟨b, off, c, fz, h1, (hb.block b (Array.getElem?_eq_some_iff.1 h2).1).trans h2, h3⟩
theorem info3 : (Tryz.prog.info? 3).map (fun i => (i.zero, i.size, i.bytes)) = some (some (.int .i64 0), 1, 8) := by kernel_rfl

set_option maxHeartbeats 2000000 in
set_option maxRecDepth 100000 in
theorem nums_any (p : Option Addr) (cap : Nat) (ws : List ByteArray) (hws : ws.length ≤ 1000000) (w : World) (hS : StrsAt w p ws) :
    Calls Tryz.prog 46 #[.slice p ws.length cap] w fun e w' => ∃ v b, e = .returned (.tuple #[v, .bool b]) ∧ NumsOut ws v b w.heap.size w' ∧ Below w.heap.size w w' := by
  obtain ⟨i0, hi, hz0, hz1, hz2⟩ := info_parts info3
  have HS := hide hS
  clear hS
  go_enter Tryz.func46, Tryz.ntmps46
  go_wp2
  go_loopw [4, 6, 7, 8, 11] (fun v _ _ _ c wr => ∃ k : Nat, k ≤ ws.length ∧ c = .int .i64 k ∧ Hid (∃ ns, tellAll (ws.take k) = some ns ∧ wr.ownsRow w.heap.size 3 1 v ns.length (ns.map (Value.int .i64)) ∧ Below w.heap.size w wr)) (fun _ _ _ _ c _ => ws.length - (intOf c).toNat)
  case atStart => exact ⟨0, Nat.zero_le _, rfl, [], rfl, ⟨rfl, .inl ⟨rfl, rfl⟩⟩, Below.refl _ _⟩
  case round =>
    obtain ⟨k, hk, rfl, HR⟩ := hrel
    obtain ⟨ns, ha, hown, hb⟩ := HR.out
    clear HR
    have hlen := tellAll_len ha
    rw [List.length_take] at hlen
    have HA := hide ha
    have HO := hide hown
    have HB := hide hb
    clear ha hown hb
    by_cases hlt : k < ws.length
    · obtain ⟨g, off, rfl, hc⟩ := (strs_below HS.out HB.out).cell (by omega)
      have hck := hc k hlt
      clear hc
      have HT := hide (show ws.take (k + 1) = ws.take k ++ [ws[k]] by rw [List.take_add_one, List.getElem?_eq_getElem hlt]; rfl)
      have HN := hide (fun h => tellAll_none hlt h)
      have HK := hide (show ns.length = k by omega)
      generalize ws[k] = x at *
      go_wp2_with fail
      refine (number_any x _).mono ?_
      rintro e w1 ⟨rfl, rfl⟩
      cases hx : tellsN x with
      | none =>
        have HN2 := hide (HN.out hx)
        rw [show numR none = .tuple #[.int .i64 0, .bool false] from rfl]
        clear HN hx
        go_wp2
        go_ret2
        exact ⟨_, _, rfl, .no HN2.out, HB.out⟩
      | some n =>
        have HX := hide (tellAll_app HA.out hx)
        rw [show numR (some n) = .tuple #[.int .i64 n, .bool true] from rfl]
        clear HN hx
        go_wp2_with (at_builtin; refine wpList_append_own _ rfl _ _ 24 rfl w.heap.size 3 i0 (.int .i64 0) 1 8 Tryz.underlying24 hi hz0 hz1 hz2 rfl (by decide) _ _ _ rfl (HO.out.alloc _) ⟨w1.heap.size, 0, none⟩ 1 1 [.int .i64 n] rfl rfl ?c1 ?c2 ?c3 ?c4 ?c5 ?_)
        case c1 =>
          intro j u hj
          match j, hj with
          | 0, hj => simp at hj; subst hj; simp [Addr.add]
        case c2 => intro u hu; simp at hu; subst hu; rfl
        case c3 => unfold maxLen; omega
        case c4 => omega
        case c5 => have := HB.out.size; simp; omega
        intro v' w3 hown hgrow _
        have HV := hide (show ∃ ms, tellAll (ws.take (k + 1)) = some ms ∧ w3.ownsRow w.heap.size 3 1 v' ms.length (ms.map (Value.int .i64)) ∧ Below w.heap.size w w3 from ⟨ns ++ [n], by rw [HT.out, HX.out], (by have e : ns.length = k := HK.out; simpa [e] using hown), (HB.out.alloc HB.out.size _).grown hgrow (by have := HB.out.size; simp; omega) (fun j hj => (HO.out.lt j hj).1)⟩)
        clear hown hgrow HO HB HX HA HT
        go_wp2
        go_roundw
        case rel => exact ⟨k + 1, by omega, by go_num, HV⟩
        case measure => simp [intOf]; omega
    · obtain rfl : k = ws.length := by omega
      have HA2 := hide (show tellAll ws = some ns by have := HA.out; rwa [List.take_length] at this)
      go_wp2
      go_ret2
      exact ⟨_, _, rfl, .all HA2.out HO.out, HB.out⟩
end Go.Proofs.YtfobcnhibhbbaaaGreatDoor
