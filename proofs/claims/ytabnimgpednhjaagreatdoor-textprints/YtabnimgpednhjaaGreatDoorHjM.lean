/- A text in pieces, cut at a sign: on lists of bytes. -/
import Derived.Lib.SplitLaws
import Derived.Lib.CutLaws
import Derived.Lib.CountLaws
import Derived.Test.YtabnimgpednhjaaGreatDoorProg
import Derived.Test.YtabnimgpednhjaaGreatDoorHhM
namespace Go.Proofs.YtabnimgpednhjaaGreatDoor
open Go

/-- The pieces of a list, cut at each c. -/
def splitL (c : UInt8) : List UInt8 → List (List UInt8)
  | [] => [[]]
  | b :: l => if b = c then [] :: splitL c l else match splitL c l with | [] => [[b]] | h :: t => (b :: h) :: t
theorem splitL_ne (c : UInt8) (l : List UInt8) : splitL c l ≠ [] := by
  cases l with
  | nil => simp [splitL]
  | cons b l =>
    unfold splitL
    split
    · simp
    · split <;> simp
theorem splitL_yes {b c : UInt8} (l : List UInt8) (h : b = c) : splitL c (b :: l) = [] :: splitL c l := by rw [splitL, if_pos h]
theorem splitL_no {b c : UInt8} {l x : List UInt8} {t : List (List UInt8)} (h : b ≠ c) (hs : splitL c l = x :: t) : splitL c (b :: l) = (b :: x) :: t := by rw [splitL, if_neg h, hs]
theorem splitL_one {c : UInt8} {l : List UInt8} (h : c ∉ l) : splitL c l = [l] := by
  induction l with
  | nil => rfl
  | cons b l ih => exact splitL_no (fun e => h (by rw [e]; exact List.mem_cons_self ..)) (ih (fun e => h (List.mem_cons_of_mem _ e)))
theorem splitL_app {c : UInt8} {x y : List UInt8} (h : c ∉ x) : splitL c (x ++ c :: y) = x :: splitL c y := by
  induction x with
  | nil => exact splitL_yes y rfl
  | cons b x ih => exact splitL_no (l := x ++ c :: y) (fun e => h (by rw [e]; exact List.mem_cons_self ..)) (ih (fun e => h (List.mem_cons_of_mem _ e)))
theorem splitL_snoc (c b : UInt8) (l : List UInt8) : ∀ (p : List (List UInt8)) (q : List UInt8), splitL c l = p ++ [q] → splitL c (l ++ [b]) = if b = c then p ++ [q] ++ [[]] else p ++ [q ++ [b]] := by
  induction l with
  | nil =>
    intro p q h
    have h1 : p = [] ∧ q = [] := by
      cases p with
      | nil => simpa [splitL] using h.symm
      | cons a p => simp [splitL] at h
    obtain ⟨rfl, rfl⟩ := h1
    by_cases hb : b = c
    · simp [splitL, hb]
    · simp [splitL, hb]
  | cons a l ih =>
    intro p q h
    show splitL c (a :: (l ++ [b])) = _
    by_cases ha : a = c
    · rw [splitL_yes l ha] at h
      rw [splitL_yes (l ++ [b]) ha]
      cases p with
      | nil =>
        have := splitL_ne c l
        simp at h
        exact absurd h.2 this
      | cons x p =>
        simp at h
        obtain ⟨rfl, h⟩ := h
        rw [ih p q h]
        split <;> simp
    · cases hs : splitL c l with
      | nil => exact absurd hs (splitL_ne c l)
      | cons x t =>
        rw [splitL_no ha hs] at h
        cases p with
        | nil =>
          simp at h
          obtain ⟨rfl, rfl⟩ := h
          have e := ih [] x (by rw [hs]; rfl)
          by_cases hb : b = c
          · rw [if_pos hb] at e ⊢
            rw [splitL_no ha e]; rfl
          · rw [if_neg hb] at e ⊢
            rw [splitL_no ha e]; rfl
        | cons y p =>
          simp at h
          obtain ⟨rfl, rfl⟩ := h
          have e := ih (x :: p) q (by rw [hs]; rfl)
          by_cases hb : b = c
          · rw [if_pos hb] at e ⊢
            rw [splitL_no ha e]; rfl
          · rw [if_neg hb] at e ⊢
            rw [splitL_no ha e]; rfl
/-- How long a list is, by its pieces. -/
theorem splitL_len (c : UInt8) (l : List UInt8) : ((splitL c l).map List.length).sum + (splitL c l).length = l.length + 1 := by
  induction l with
  | nil => rfl
  | cons b l ih =>
    unfold splitL
    split
    · simp; omega
    · cases hs : splitL c l with
      | nil => exact absurd hs (splitL_ne c l)
      | cons x t => rw [hs] at ih; simp at ih ⊢; omega

theorem index_one (c : UInt8) (l : List UInt8) : (Lib.index l [c] = -1 ∧ splitL c l = [l]) ∨ ∃ i : Nat, Lib.index l [c] = i ∧ i < l.length ∧ splitL c l = l.take i :: splitL c (l.drop (i + 1)) := by
  induction l with
  | nil => exact .inl ⟨rfl, rfl⟩
  | cons b l ih =>
    by_cases hb : b = c
    · refine .inr ⟨0, ?_, by simp, ?_⟩
      · unfold Lib.index
        rw [if_pos (by simp [hb])]
        rfl
      · exact splitL_yes l hb
    · have hp : ¬ ([c].isPrefixOf (b :: l) = true) := by
        simp [Ne.symm hb]
      have hi : Lib.index (b :: l) [c] = if Lib.index l [c] == -1 then -1 else Lib.index l [c] + 1 := by
        rw [Lib.index, if_neg hp]
      have hsp : splitL c (b :: l) = match splitL c l with | [] => [[b]] | h :: t => (b :: h) :: t := by
        rw [splitL, if_neg hb]
      rcases ih with ⟨h1, h2⟩ | ⟨i, h1, h2, h3⟩
      · refine .inl ⟨by rw [hi, h1]; rfl, by rw [hsp, h2]⟩
      · refine .inr ⟨i + 1, ?_, by simpa using h2, by rw [hsp, h3]; rfl⟩
        rw [hi, h1, if_neg (by simp)]
        simp
theorem cut_one (c : UInt8) (l : List UInt8) : (Lib.cut l [c] = (l, [], false) ∧ splitL c l = [l]) ∨ ((Lib.cut l [c]).2.2 = true ∧ splitL c l = (Lib.cut l [c]).1 :: splitL c (Lib.cut l [c]).2.1) := by
  rcases index_one c l with ⟨h1, h2⟩ | ⟨i, h1, _, h3⟩
  · refine .inl ⟨?_, h2⟩
    unfold Lib.cut
    rw [h1, if_neg (by decide)]
  · refine .inr ?_
    have e : Lib.cut l [c] = (l.take i, l.drop (i + 1), true) := by
      unfold Lib.cut
      rw [h1, if_pos (by omega)]
      simp
    rw [e]
    exact ⟨rfl, h3⟩
theorem split_one (c : UInt8) : ∀ (k : Nat) (s : ByteArray), Lib.countB s ⟨#[c]⟩ = k → (Lib.splitB ⟨#[c]⟩ 0 k s).map (·.data.toList) = splitL c s.data.toList := by
  intro k
  induction k with
  | zero =>
    intro s hk
    rcases index_one c s.data.toList with ⟨h1, h2⟩ | ⟨i, h1, _, _⟩
    · rw [h2]; rfl
    · have := Lib.countB_hit s ⟨#[c]⟩ i (Nat.le_refl 1) h1
      omega
  | succ k ih =>
    intro s hk
    rcases index_one c s.data.toList with ⟨h1, h2⟩ | ⟨i, h1, _, h3⟩
    · have := Lib.countB_miss s ⟨#[c]⟩ h1
      omega
    · have hc := Lib.countB_hit s ⟨#[c]⟩ i (Nat.le_refl 1) h1
      have hz : (⟨#[c]⟩ : ByteArray).size = 1 := rfl
      rw [hz] at hc
      rw [Lib.splitB_hit ⟨#[c]⟩ 0 k s i h1, List.map_cons, hz, ih _ (by omega), h3, Nat.add_zero, Lib.extract_from_zero, Lib.extract_to_end]
end Go.Proofs.YtabnimgpednhjaaGreatDoor

namespace Go.Proofs.YtabnimgpednhjaaGreatDoor
open Go.RowKit
set_option maxRecDepth 100000

/-- The numbers of a text's first line, if it is ended and begins with a word. -/
def readN (s f : ByteArray) : Option (List Int) := match wordsOf (lineOf s) with | a :: l => if endsOf s = true ∧ a.toList = f.toList then tellAll l else none | [] => none
theorem own_mono {w : World} {base base' : Nat} {e : TypeId} {v : Value} {n : Nat} {xs : List Value} (h : w.ownsRow base' e 1 v n xs) (hb : base ≤ base') : w.ownsRow base e 1 v n xs := by
  refine ⟨h.1, ?_⟩
  rcases h.2 with hn | ⟨g, cap, cur, hv, hbg, rest⟩
  · exact .inl hn
  · exact .inr ⟨g, cap, cur, hv, by omega, rest⟩
theorem StrsAt.tail {w : World} {b off : Nat} {a : ByteArray} {l : List ByteArray} (h : StrsAt w (some ⟨b, off, none⟩) (a :: l)) : StrsAt w (some ⟨b, off + 1, none⟩) l := fun _ => by
  obtain ⟨g, o, c, fz, h1, h2, h3⟩ := h (by simp)
  cases h1
  exact ⟨b, off + 1, c, fz, rfl, h2, fun i hi => by have := h3 (i + 1) (by simpa using hi); rw [show off + 1 + i = off + (i + 1) by omega, this]; rfl⟩
end Go.Proofs.YtabnimgpednhjaaGreatDoor

namespace Go.Proofs.YtabnimgpednhjaaGreatDoor
open Go.RowKit
set_option maxRecDepth 100000

/-- Where the piece that holds the byte i begins; the pieces that end ahead of i. -/
def fromN (s : ByteArray) (c : Int) : Nat → Nat
  | 0 => 0
  | k + 1 => if byt s k = c then k + 1 else fromN s c k
def cutN (s : ByteArray) (c : Int) : Nat → List ByteArray
  | 0 => []
  | k + 1 => if byt s k = c then cutN s c k ++ [s.extract (fromN s c k) k] else cutN s c k
def cutAll (s : ByteArray) (c : Int) : List ByteArray := cutN s c s.size ++ [s.extract (fromN s c s.size) s.size]
theorem fromN_le (s : ByteArray) (c : Int) (k : Nat) : fromN s c k ≤ k := by
  induction k with
  | zero => exact Nat.le_refl _
  | succ k ih => unfold fromN; split <;> omega
theorem cutN_len (s : ByteArray) (c : Int) (k : Nat) : (cutN s c k).length ≤ k := by
  induction k with
  | zero => exact Nat.le_refl _
  | succ k ih =>
    unfold cutN
    split
    · simp; omega
    · omega

theorem appendStr {w : World} {ops : Array Oper} {rest : List Oper} {o : Oper} {a : Act} {Q : Exit → Act → World → Prop} (hgd : o.guard = none) (x y : Operand)
    (ho : o.op = .call { callee := .builtin .append, args := #[x, y], argTypes := #[66, 66] })
    (base : Nat) (v : Value) (l : List ByteArray) (hv : a.eval x = v) (hown : w.ownsRow base 9 1 v l.length (l.map Value.string)) (s : ByteArray) (hy : a.eval y = .slice (some ⟨w.heap.size, 0, none⟩) 1 1)
    (hb : l.length ≤ 1000000000000) (hbase : base ≤ w.heap.size)
    (hK : ∀ v' w', w'.ownsRow base 9 1 v' (l ++ [s]).length ((l ++ [s]).map Value.string) → Below base w w' → wpList Tryz.prog ops Q rest (a.put o.dst v') w') : wpList Tryz.prog ops Q (o :: rest) a (w.alloc (.cells #[.string s] 9)) := by
  obtain ⟨i0, hi, hz0, hz1, hz2⟩ := info_parts info9
  refine wpList_append_own _ hgd x y 66 ho base 9 i0 (.string ⟨#[]⟩) 1 16 Tryz.underlying66 hi hz0 hz1 hz2 rfl (by decide) v l.length _ hv (hown.alloc _) ⟨w.heap.size, 0, none⟩ 1 1 [.string s] hy rfl ?_ ?_ (by unfold maxLen; omega) (by omega) (by simp; omega) ?_
  · intro j u hj
    match j, hj with
    | 0, hj => simp at hj; subst hj; simp [Addr.add]
  · intro u hu; simp at hu; subst hu; rfl
  · intro v' w' h1 h2 _
    exact hK v' w' (by simpa using h1) (((Below.refl base w).alloc hbase _).grown h2 (by simp; omega) (fun j hj => (hown.lt j hj).1))

set_option maxHeartbeats 2000000 in
set_option maxRecDepth 100000 in
theorem cut_any (s : ByteArray) (c : Int) (hs : s.size ≤ 100000000000) (w : World) :
    Calls Tryz.prog 28 #[.string s, .int .u8 c] w fun e w' => ∃ v, e = .returned v ∧ w'.ownsRow w.heap.size 9 1 v (cutAll s c).length ((cutAll s c).map Value.string) ∧ Below w.heap.size w w' := by
  go_enter Tryz.func28, Tryz.ntmps28
  go_wp2
  go_loopw [5, 6, 7] (fun v f i wr => ∃ k : Nat, k ≤ s.size ∧ i = .int .i64 k ∧ f = .int .i64 (fromN s c k : Nat) ∧ Hid (wr.ownsRow w.heap.size 9 1 v (cutN s c k).length ((cutN s c k).map Value.string) ∧ Below w.heap.size w wr)) (fun _ _ i _ => s.size - (intOf i).toNat)
  case atStart => exact ⟨0, Nat.zero_le _, rfl, rfl, ⟨rfl, .inl ⟨rfl, rfl⟩⟩, Below.refl _ _⟩
  case round =>
    obtain ⟨k, hk, rfl, rfl, HR⟩ := hrel
    have hf := fromN_le s c k
    have HN := hide (cutN_len s c k)
    by_cases hlt : k < s.size
    · have hg := byt_get hlt
      by_cases hc : byt s k = c
      · have HF := hide (show fromN s c (k + 1) = k + 1 by simp [fromN, hc])
        have HC := hide (show cutN s c (k + 1) = cutN s c k ++ [s.extract (fromN s c k) k] by simp [cutN, hc])
        subst hc
        generalize fromN s (byt s k) k = f at *
        go_wp2_with (at_builtin; refine appendStr rfl _ _ rfl w.heap.size _ _ rfl HR.out.1 _ rfl (by have := HN.out; omega) HR.out.2.size ?_)
        intro v' w3 hown hb3
        have HV := hide (show w3.ownsRow w.heap.size 9 1 v' (cutN s (byt s k) (k + 1)).length ((cutN s (byt s k) (k + 1)).map Value.string) ∧ Below w.heap.size w w3 from ⟨by rw [HC.out]; simpa using hown, HR.out.2.trans hb3⟩)
        clear hown hb3 HR HC
        go_wp2
        go_roundw
        case rel => exact ⟨k + 1, by omega, by go_num, by rw [HF.out]; go_num, HV⟩
        case measure => simp [intOf]; omega
      · have HF := hide (show fromN s c (k + 1) = fromN s c k by simp [fromN, hc])
        have HC := hide (show cutN s c (k + 1) = cutN s c k by simp [cutN, hc])
        go_wp2
        go_roundw
        case rel => exact ⟨k + 1, by omega, by go_num, by rw [HF.out], by rw [HC.out]; exact HR⟩
        case measure => simp [intOf]; omega
    · obtain rfl : k = s.size := by omega
      go_wp2_with (at_builtin; refine appendStr rfl _ _ rfl w.heap.size _ _ rfl HR.out.1 _ rfl (by have := HN.out; omega) HR.out.2.size ?_)
      intro v' w3 hown hb3
      have HV := hide (show w3.ownsRow w.heap.size 9 1 v' (cutAll s c).length ((cutAll s c).map Value.string) ∧ Below w.heap.size w w3 from ⟨by unfold cutAll; simpa using hown, HR.out.2.trans hb3⟩)
      clear hown hb3 HR
      go_wp2
      go_ret
      exact ⟨_, rfl, HV.out.1, HV.out.2⟩
end Go.Proofs.YtabnimgpednhjaaGreatDoor
