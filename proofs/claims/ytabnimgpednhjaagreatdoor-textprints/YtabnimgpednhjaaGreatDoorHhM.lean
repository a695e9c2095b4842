/- The plain text's digits. -/
import Derived.Test.YtabnimgpednhjaaGreatDoorJaM
import Derived.Laws.IdiomStrings
import Derived.Lib.ItoaLen
namespace Go.Proofs.YtabnimgpednhjaaGreatDoor
open Go.RowKit
set_option maxRecDepth 100000

def decB (u : Nat) : ByteArray := ⟨(Lib.decDigits u).toArray⟩
theorem conv_one (u : Nat) (h : u < 10) (w : World) : (convert 39 9 (.slice (some ⟨w.heap.size, 0, none⟩) 1 1)).run Tryz.prog (w.alloc (.cells #[.int .u8 (48 + (u : Int))] 5)) = .ok (.string (decB u)) (w.alloc (.cells #[.int .u8 (48 + (u : Int))] 5)) := by
  have := run_convert_bytes_back (P := Tryz.prog) (w.alloc (.cells #[.int .u8 (48 + (u : Int))] 5)) 39 9 5 ⟨w.heap.size, 0, none⟩ 1 [UInt8.ofNat (48 + u)] Tryz.underlying39 Tryz.underlying5 Tryz.underlying9 (by
    intro j hj
    match j, hj with
    | 0, _ =>
      have e : (48 + u) % 256 = 48 + u := by omega
      simp [Addr.add, e])
  unfold decB
  rw [Lib.decDigits_one h]
  exact this

set_option maxHeartbeats 1000000 in
set_option maxRecDepth 100000 in
theorem digits_small (u : Nat) (h : u < 10) (w : World) :
    Calls Tryz.prog 22 #[.int .i64 u] w fun e w' => e = .returned (.string (decB u)) ∧ Below w.heap.size w w' := by
  go_enter Tryz.func22, Tryz.ntmps22
  go_wp2
  rw [conv_one u h w]
  simp only [Result.andThen]
  rw [Oper.upon_value]
  go_wp2
  go_ret
  exact ⟨rfl, (Below.refl _ _).alloc (Nat.le_refl _) _⟩

theorem decB_big {u : Nat} (h : ¬ u < 10) : decB u = decB (u / 10) ++ decB (u % 10) := by
  unfold decB
  rw [Lib.decDigits, dif_neg h, Lib.decDigits_one (i := u % 10) (by omega)]
  simp [ByteArray.ext_iff]
theorem decB_size {u : Nat} (h : u ≤ 9223372036854775808) : (decB u).size ≤ 20 := by
  have e : (decB u).size = (Lib.decDigits u).length := rfl
  rw [e, Lib.decDigits_length]
  exact Lib.nDigits_le20 u (by omega)

set_option maxHeartbeats 1000000 in
set_option maxRecDepth 100000 in
theorem digits_nat (u : Nat) (h : u ≤ 9223372036854775807) (w : World) :
    Calls Tryz.prog 22 #[.int .i64 u] w fun e w' => e = .returned (.string (decB u)) ∧ Below w.heap.size w w' := by
  induction u using Nat.strongRecOn generalizing w with
  | _ u ih =>
    by_cases hs : u < 10
    · exact digits_small u hs w
    have HA := hide (ih (u / 10) (by omega) (by omega))
    have HB := hide (fun w => digits_small (u % 10) (by omega) w)
    have hu : (10 : Int) ≤ u := by omega
    have HD := hide (decB_big hs)
    have s1 := decB_size (u := u / 10) (by omega)
    have s2 := decB_size (u := u % 10) (by omega)
    clear ih
    go_enter Tryz.func22, Tryz.ntmps22
    go_wp2_with fail
    refine (HA.out _).mono ?_
    rintro e w1 ⟨rfl, hb1⟩
    have HB1 := hide hb1
    clear hb1
    go_wp2_with fail
    refine (HB.out _).mono ?_
    rintro e w2 ⟨rfl, hb2⟩
    have HB2 := hide hb2
    clear hb2
    go_wp2
    go_ret
    exact ⟨by rw [HD.out]; rfl, HB1.out.trans (HB2.out.mono HB1.out.size)⟩

theorem itoaB_pos (u : Nat) : itoaB (u : Int) = decB u := by unfold itoaB decB; rw [Lib.itoa_nonneg]
theorem itoaB_neg {u : Nat} (h : 1 ≤ u) : itoaB (-(u : Int)) = ⟨#[45]⟩ ++ decB u := by
  unfold itoaB decB
  rw [Lib.itoa_neg u h]
  simp [ByteArray.ext_iff]
theorem cat3 (a b c : ByteArray) : a ++ b ++ c = a ++ (b ++ c) := by simp [ByteArray.ext_iff]
theorem one45 : (ByteArray.mk #[45]).size = 1 := rfl

set_option maxHeartbeats 1000000 in
set_option maxRecDepth 100000 in
theorem digits_neg (u : Nat) (h1 : 1 ≤ u) (h : u ≤ 9223372036854775808) (w : World) :
    Calls Tryz.prog 22 #[.int .i64 (-(u : Int))] w fun e w' => e = .returned (.string (itoaB (-(u : Int)))) ∧ Below w.heap.size w w' := by
  rw [itoaB_neg h1]
  have s0 := one45
  by_cases hs : u < 10
  · have HA := hide (fun w => digits_nat u (by omega) w)
    have s1 := decB_size (u := u) (by omega)
    go_enter Tryz.func22, Tryz.ntmps22
    go_wp2_with fail
    refine (HA.out _).mono ?_
    rintro e w1 ⟨rfl, hb1⟩
    have HB1 := hide hb1
    clear hb1
    go_wp2
    go_ret
    exact ⟨rfl, HB1.out⟩
  · have HA := hide (fun w => digits_nat (u / 10) (by omega) w)
    have HB := hide (fun w => digits_nat (u % 10) (by omega) w)
    have HD := hide (decB_big hs)
    have s1 := decB_size (u := u / 10) (by omega)
    have s2 := decB_size (u := u % 10) (by omega)
    have s3 : (ByteArray.mk #[45] ++ decB (u / 10)).size ≤ 21 := by rw [ByteArray.size_append]; omega
    go_enter Tryz.func22, Tryz.ntmps22
    go_wp2_with fail
    refine (HA.out _).mono ?_
    rintro e w1 ⟨rfl, hb1⟩
    have HB1 := hide hb1
    clear hb1
    go_wp2_with fail
    refine (HB.out _).mono ?_
    rintro e w2 ⟨rfl, hb2⟩
    have HB2 := hide hb2
    clear hb2
    go_wp2
    go_ret
    exact ⟨by rw [HD.out, ← cat3]; rfl, HB1.out.trans (HB2.out.mono HB1.out.size)⟩

theorem digits_any (n : Int) (h0 : -9223372036854775808 ≤ n) (h1 : n ≤ 9223372036854775807) (w : World) :
    Calls Tryz.prog 22 #[.int .i64 n] w fun e w' => e = .returned (.string (itoaB n)) ∧ Below w.heap.size w w' := by
  by_cases hn : n < 0
  · obtain ⟨u, rfl⟩ : ∃ u : Nat, n = -(u : Int) := ⟨n.natAbs, by omega⟩
    exact digits_neg u (by omega) (by omega) w
  · obtain ⟨u, rfl⟩ : ∃ u : Nat, n = u := ⟨n.toNat, by omega⟩
    rw [itoaB_pos]
    exact digits_nat u (by omega) w
theorem itoaB_size {n : Int} (h0 : -9223372036854775808 ≤ n) (h1 : n ≤ 9223372036854775807) : (itoaB n).size ≤ 21 := Lib.itoa_length_le n h0 h1
end Go.Proofs.YtabnimgpednhjaaGreatDoor

namespace Go.Proofs.YtabnimgpednhjaaGreatDoor
open Go.RowKit
set_option maxRecDepth 100000

/-- A line so far, as the plain text writes it. -/
def wordN (s : ByteArray) (ns : List Int) : Nat → ByteArray
  | 0 => s
  | k + 1 => wordN s ns k ++ (⟨#[32]⟩ ++ match ns[k]? with | some n => itoaB n | none => ⟨#[]⟩)
theorem wordN_succ {s : ByteArray} {ns : List Int} {k : Nat} (h : k < ns.length) : wordN s ns (k + 1) = wordN s ns k ++ (⟨#[32]⟩ ++ itoaB ns[k]) := by
  simp [wordN, List.getElem?_eq_getElem h]
theorem wordN_size {s : ByteArray} {ns : List Int} (hb : ∀ n ∈ ns, -9223372036854775808 ≤ n ∧ n ≤ 9223372036854775807) (k : Nat) (hk : k ≤ ns.length) : (wordN s ns k).size ≤ s.size + 22 * k := by
  induction k with
  | zero => simp [wordN]
  | succ k ih =>
    have := ih (by omega)
    have h2 := hb ns[k] (List.getElem_mem hk)
    have := itoaB_size h2.1 h2.2
    rw [wordN_succ hk, ByteArray.size_append, ByteArray.size_append]
    have e : (ByteArray.mk #[32]).size = 1 := rfl
    omega
end Go.Proofs.YtabnimgpednhjaaGreatDoor

namespace Go.Proofs.YtabnimgpednhjaaGreatDoor
open Go.RowKit
set_option maxRecDepth 100000

theorem wordN_line (s : ByteArray) (ns : List Int) (k : Nat) (hk : k ≤ ns.length) : (wordN s ns k).data.toList = lineN (s :: ns.map itoaB) (k + 1) := by
  induction k with
  | zero => simp [wordN, lineN]
  | succ k ih =>
    have h2 : k + 1 < (s :: ns.map itoaB).length := by simp; omega
    rw [wordN_succ (show k < ns.length by omega), lineN_succ h2, ← ih (by omega)]
    simp

/-- The first line, its words, the text behind it, whether it is ended. -/
def lineOf (s : ByteArray) : ByteArray := ⟨(Lib.cut s.data.toList [10]).1.toArray⟩
def restOf (s : ByteArray) : ByteArray := ⟨(Lib.cut s.data.toList [10]).2.1.toArray⟩
def endsOf (s : ByteArray) : Bool := (Lib.cut s.data.toList [10]).2.2
def wordsOf (s : ByteArray) : List ByteArray := Lib.splitB ⟨#[32]⟩ 0 (Lib.countB s ⟨#[32]⟩) s
theorem wordsOf_len (s : ByteArray) : (wordsOf s).length = Lib.countB s ⟨#[32]⟩ + 1 := Lib.splitB_all ⟨#[32]⟩ (by decide) 0 _ s rfl
theorem lineOf_size (s : ByteArray) : (lineOf s).size ≤ s.size := by
  show (Lib.cut s.data.toList [10]).1.toArray.size ≤ s.data.size
  rw [List.size_toArray, ← Array.length_toList]
  unfold Lib.cut
  split
  · simp [List.length_take]; omega
  · exact Nat.le_refl _
theorem strs_new (w : World) (l : List ByteArray) : StrsAt (w.alloc (.cells (l.map Value.string).toArray 9)) (some ⟨w.heap.size, 0, none⟩) l := fun _ => ⟨w.heap.size, 0, _, _, rfl, heap_alloc_new w _, fun i hi => by simp [List.getElem?_eq_getElem hi]⟩

set_option maxHeartbeats 1000000 in
set_option maxRecDepth 100000 in
theorem next_any (s : ByteArray) (hs : s.size < 4294967281) (m : Int) (w : World) (hm : w.cell? ⟨2, 0, none⟩ = some (.int .i64 m)) :
    Calls Tryz.prog 26 #[.string s] w fun e w' => ∃ p, e = .returned (.tuple #[.slice p (wordsOf (lineOf s)).length (wordsOf (lineOf s)).length, .string (restOf s), .bool (endsOf s)]) ∧ StrsAt w' p (wordsOf (lineOf s)) ∧ Below w.heap.size w w' := by
  have HM := hide hm
  clear hm
  go_enter Tryz.func26, Tryz.ntmps26
  go_wp2_with fail
  refine (Tryz.strings_Cut s ⟨#[10]⟩ m _ hs HM.out).mono ?_
  rintro e w1 ⟨rfl, n, rfl⟩
  rw [show (⟨(Lib.cut s.data.toList (ByteArray.mk #[10]).data.toList).1.toArray⟩ : ByteArray) = lineOf s from rfl, show (⟨(Lib.cut s.data.toList (ByteArray.mk #[10]).data.toList).2.1.toArray⟩ : ByteArray) = restOf s from rfl, show (Lib.cut s.data.toList (ByteArray.mk #[10]).data.toList).2.2 = endsOf s from rfl]
  have hl := lineOf_size s
  go_wp2_with fail
  refine (Tryz.strings_Split (lineOf s) ⟨#[32]⟩ m (w.drewN n) (by omega) HM.out (by decide)).mono ?_
  rintro e w2 ⟨rfl, rfl⟩
  have e2 := wordsOf_len (lineOf s)
  have h3 := strs_new (w.drewN n) (wordsOf (lineOf s))
  rw [← e2]
  rw [show Lib.splitB ⟨#[32]⟩ 0 (Lib.countB (lineOf s) ⟨#[32]⟩) (lineOf s) = wordsOf (lineOf s) from rfl]
  have HB := hide (show Below w.heap.size w ((w.drewN n).alloc (.cells ((wordsOf (lineOf s)).map Value.string).toArray 9)) from Below.alloc (show Below w.heap.size w (w.drewN n) from ⟨rfl, rfl, rfl, Nat.le_refl _, fun _ _ => rfl⟩) (Nat.le_refl _) _)
  have H3 := hide h3
  clear h3 e2
  generalize (w.drewN n).alloc (.cells ((wordsOf (lineOf s)).map Value.string).toArray 9) = w3 at *
  go_wp2
  go_ret3
  exact ⟨_, rfl, H3.out, HB.out⟩
end Go.Proofs.YtabnimgpednhjaaGreatDoor

namespace Go.Proofs.YtabnimgpednhjaaGreatDoor
open Go.RowKit
set_option maxRecDepth 100000

/-- The numbers that the words tell, if each tells one. -/
def tellAll : List ByteArray → Option (List Int)
  | [] => some []
  | a :: l => match tellsN a, tellAll l with | some n, some ns => some (n :: ns) | _, _ => none
theorem tellAll_app {a : List ByteArray} {x : ByteArray} {ns : List Int} {n : Int} (h : tellAll a = some ns) (hx : tellsN x = some n) : tellAll (a ++ [x]) = some (ns ++ [n]) := by
  induction a generalizing ns with
  | nil => simp [tellAll] at h; subst h; simp [tellAll, hx]
  | cons b l ih =>
    cases hb : tellsN b with
    | none => simp [tellAll, hb] at h
    | some m =>
      cases hl : tellAll l with
      | none => simp [tellAll, hb, hl] at h
      | some ms =>
        simp [tellAll, hb, hl] at h
        subst h
        simp [tellAll, hb, ih hl]
theorem tellAll_none {a : List ByteArray} {k : Nat} (hk : k < a.length) (hx : tellsN a[k] = none) : tellAll a = none := by
  induction a generalizing k with
  | nil => simp at hk
  | cons b l ih =>
    cases k with
    | zero => simp at hx; simp [tellAll, hx]
    | succ k =>
      have := ih (k := k) (by simpa using hk) (by simpa using hx)
      simp only [tellAll, this]
      cases tellsN b <;> rfl
def NumsOut (ws : List ByteArray) (v : Value) (b : Bool) (base : Nat) (w : World) : Prop := match tellAll ws with | some ns => b = true ∧ w.ownsRow base 3 1 v ns.length (ns.map (Value.int .i64)) | none => b = false ∧ v = .slice none 0 0
theorem NumsOut.all {ws : List ByteArray} {ns : List Int} {v : Value} {base : Nat} {w : World} (h : tellAll ws = some ns) (h2 : w.ownsRow base 3 1 v ns.length (ns.map (Value.int .i64))) : NumsOut ws v true base w := by
  unfold NumsOut
  rw [h]
  exact ⟨rfl, h2⟩
theorem NumsOut.no {ws : List ByteArray} {base : Nat} {w : World} (h : tellAll ws = none) : NumsOut ws (.slice none 0 0) false base w := by
  unfold NumsOut
  rw [h]
  exact ⟨rfl, rfl⟩
theorem tellAll_len {ws : List ByteArray} {ns : List Int} (h : tellAll ws = some ns) : ns.length = ws.length := by
  induction ws generalizing ns with
  | nil => simp [tellAll] at h; subst h; rfl
  | cons b l ih =>
    cases hb : tellsN b with
    | none => simp [tellAll, hb] at h
    | some m =>
      cases hl : tellAll l with
      | none => simp [tellAll, hb, hl] at h
      | some ms =>
        simp [tellAll, hb, hl] at h
        subst h
        simp [ih hl]
theorem strs_below {w w' : World} {p : Option Addr} {l : List ByteArray} (h : StrsAt w p l) (hb : Below w.heap.size w w') : StrsAt w' p l := fun h0 => by
  obtain ⟨b, off, c, fz, h1, h2, h3⟩ := h h0
  exact ⟨b, off, c, fz, h1, (hb.block b (Array.getElem?_eq_some_iff.1 h2).1).trans h2, h3⟩
theorem info3 : (Tryz.prog.info? 3).map (fun i => (i.zero, i.size, i.bytes)) = some (some (.int .i64 0), 1, 8) := by kernel_rfl

set_option maxHeartbeats 2000000 in
set_option maxRecDepth 100000 in
theorem nums_any (p : Option Addr) (cap : Nat) (ws : List ByteArray) (hws : ws.length ≤ 1000000) (w : World) (hS : StrsAt w p ws) :
    Calls Tryz.prog 87 #[.slice p ws.length cap] w fun e w' => ∃ v b, e = .returned (.tuple #[v, .bool b]) ∧ NumsOut ws v b w.heap.size w' ∧ Below w.heap.size w w' := by
  obtain ⟨i0, hi, hz0, hz1, hz2⟩ := info_parts info3
  have HS := hide hS
  clear hS
  go_enter Tryz.func87, Tryz.ntmps87
  go_wp2
  go_loopw [4, 6, 7, 8, 11] (fun v _ _ _ c wr => ∃ k : Nat, k ≤ ws.length ∧ c = .int .i64 k ∧ Hid (∃ ns, tellAll (ws.take k) = some ns ∧ wr.ownsRow w.heap.size 3 1 v ns.length (ns.map (Value.int .i64)) ∧ Below w.heap.size w wr)) (fun _ _ _ _ c _ => ws.length - (intOf c).toNat)
  case atStart => exact ⟨0, Nat.zero_le _, rfl, [], rfl, ⟨rfl, .inl ⟨rfl, rfl⟩⟩, Below.refl _ _⟩
  case round =>
    obtain ⟨k, hk, rfl, HR⟩ := hrel
    obtain ⟨ns, ha, hown, hb⟩ := HR.out
    clear HR
    have hlen := tellAll_len ha
    rw [List.length_take] at hlen
    have HA := hide ha
    have HO := hide hown
    have HB := hide hb
    clear ha hown hb
    by_cases hlt : k < ws.length
    · obtain ⟨g, off, rfl, hc⟩ := (strs_below HS.out HB.out).cell (by omega)
      have hck := hc k hlt
      clear hc
      have HT := hide (show ws.take (k + 1) = ws.take k ++ [ws[k]] by rw [List.take_add_one, List.getElem?_eq_getElem hlt]; rfl)
      have HN := hide (fun h => tellAll_none hlt h)
      have HK := hide (show ns.length = k by omega)
      generalize ws[k] = x at *
      go_wp2_with fail
      refine (number_any x _).mono ?_
      rintro e w1 ⟨rfl, rfl⟩
      cases hx : tellsN x with
      | none =>
        have HN2 := hide (HN.out hx)
        rw [show numR none = .tuple #[.int .i64 0, .bool false] from rfl]
        clear HN hx
        go_wp2
        go_ret2
        exact ⟨_, _, rfl, .no HN2.out, HB.out⟩
      | some n =>
        have HX := hide (tellAll_app HA.out hx)
        rw [show numR (some n) = .tuple #[.int .i64 n, .bool true] from rfl]
        clear HN hx
        go_wp2_with (at_builtin; refine wpList_append_own _ rfl _ _ 24 rfl w.heap.size 3 i0 (.int .i64 0) 1 8 Tryz.underlying24 hi hz0 hz1 hz2 rfl (by decide) _ _ _ rfl (HO.out.alloc _) ⟨w1.heap.size, 0, none⟩ 1 1 [.int .i64 n] rfl rfl ?c1 ?c2 ?c3 ?c4 ?c5 ?_)
        case c1 =>
          intro j u hj
          match j, hj with
          | 0, hj => simp at hj; subst hj; simp [Addr.add]
        case c2 => intro u hu; simp at hu; subst hu; rfl
        case c3 => unfold maxLen; omega
        case c4 => omega
        case c5 => have := HB.out.size; simp; omega
        intro v' w3 hown hgrow _
        have HV := hide (show ∃ ms, tellAll (ws.take (k + 1)) = some ms ∧ w3.ownsRow w.heap.size 3 1 v' ms.length (ms.map (Value.int .i64)) ∧ Below w.heap.size w w3 from ⟨ns ++ [n], by rw [HT.out, HX.out], (by have e : ns.length = k := HK.out; simpa [e] using hown), (HB.out.alloc HB.out.size _).grown hgrow (by have := HB.out.size; simp; omega) (fun j hj => (HO.out.lt j hj).1)⟩)
        clear hown hgrow HO HB HX HA HT
        go_wp2
        go_roundw
        case rel => exact ⟨k + 1, by omega, by go_num, HV⟩
        case measure => simp [intOf]; omega
    · obtain rfl : k = ws.length := by omega
      have HA2 := hide (show tellAll ws = some ns by have := HA.out; rwa [List.take_length] at this)
      go_wp2
      go_ret2
      exact ⟨_, _, rfl, .all HA2.out HO.out, HB.out⟩
end Go.Proofs.YtabnimgpednhjaaGreatDoor
