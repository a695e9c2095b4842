/- A text in pieces, cut at a sign: on lists of bytes. -/
import Derived.Lib.SplitLaws
import Derived.Lib.CutLaws
import Derived.Lib.CountLaws
import Derived.Test.YtagaemlgompggaaGreatDoorProg
namespace Go.Proofs.YtagaemlgompggaaGreatDoor
open Go

/-- The pieces of a list, cut at each c. -/
def splitL (c : UInt8) : List UInt8 → List (List UInt8)
  | [] => [[]]
  | b :: l => if b = c then [] :: splitL c l else match splitL c l with | [] => [[b]] | h :: t => (b :: h) :: t
theorem splitL_ne (c : UInt8) (l : List UInt8) : splitL c l ≠ [] := by
  cases l with
  | nil => simp [splitL]
  | cons b l =>
    unfold splitL
    split
    · simp
    · split <;> simp
theorem splitL_yes {b c : UInt8} (l : List UInt8) (h : b = c) : splitL c (b :: l) = [] :: splitL c l := by rw [splitL, if_pos h]
theorem splitL_no {b c : UInt8} {l x : List UInt8} {t : List (List UInt8)} (h : b ≠ c) (hs : splitL c l = x :: t) : splitL c (b :: l) = (b :: x) :: t := by rw [splitL, if_neg h, hs]
theorem splitL_one {c : UInt8} {l : List UInt8} (h : c ∉ l) : splitL c l = [l] := by
  induction l with
  | nil => rfl
  | cons b l ih => exact splitL_no (fun e => h (by rw [e]; exact List.mem_cons_self ..)) (ih (fun e => h (List.mem_cons_of_mem _ e)))
theorem splitL_app {c : UInt8} {x y : List UInt8} (h : c ∉ x) : splitL c (x ++ c :: y) = x :: splitL c y := by
  induction x with
  | nil => exact splitL_yes y rfl
  | cons b x ih => exact splitL_no (l := x ++ c :: y) (fun e => h (by rw [e]; exact List.mem_cons_self ..)) (ih (fun e => h (List.mem_cons_of_mem _ e)))
theorem splitL_snoc (c b : UInt8) (l : List UInt8) : ∀ (p : List (List UInt8)) (q : List UInt8), splitL c l = p ++ [q] → splitL c (l ++ [b]) = if b = c then p ++ [q] ++ [[]] else p ++ [q ++ [b]] := by
  induction l with
  | nil =>
    intro p q h
    have h1 : p = [] ∧ q = [] := by
      cases p with
      | nil => simpa [splitL] using h.symm
      | cons a p => simp [splitL] at h
    obtain ⟨rfl, rfl⟩ := h1
    by_cases hb : b = c
    · simp [splitL, hb]
    · simp [splitL, hb]
  | cons a l ih =>
    intro p q h
    show splitL c (a :: (l ++ [b])) = _
    by_cases ha : a = c
    · rw [splitL_yes l ha] at h
      rw [splitL_yes (l ++ [b]) ha]
      cases p with
      | nil =>
        have := splitL_ne c l
        simp at h
        exact absurd h.2 this
      | cons x p =>
        simp at h
        obtain ⟨rfl, h⟩ := h
        rw [ih p q h]
        split <;> simp
    · cases hs : splitL c l with
      | nil => exact absurd hs (splitL_ne c l)
      | cons x t =>
        rw [splitL_no ha hs] at h
        cases p with
        | nil =>
          simp at h
          obtain ⟨rfl, rfl⟩ := h
          have e := ih [] x (by rw [hs]; rfl)
          by_cases hb : b = c
          · rw [if_pos hb] at e ⊢
            rw [splitL_no ha e]; rfl
          · rw [if_neg hb] at e ⊢
            rw [splitL_no ha e]; rfl
        | cons y p =>
          simp at h
          obtain ⟨rfl, rfl⟩ := h
          have e := ih (x :: p) q (by rw [hs]; rfl)
          by_cases hb : b = c
          · rw [if_pos hb] at e ⊢
            rw [splitL_no ha e]; rfl
          · rw [if_neg hb] at e ⊢
            rw [splitL_no ha e]; rfl
/-- How long a list is, by its pieces. -/
theorem splitL_len (c : UInt8) (l : List UInt8) : ((splitL c l).map List.length).sum + (splitL c l).length = l.length + 1 := by
  induction l with
  | nil => rfl
  | cons b l ih =>
    unfold splitL
    split
    · simp; omega
    · cases hs : splitL c l with
      | nil => exact absurd hs (splitL_ne c l)
      | cons x t => rw [hs] at ih; simp at ih ⊢; omega

theorem index_one (c : UInt8) (l : List UInt8) : (Lib.index l [c] = -1 ∧ splitL c l = [l]) ∨ ∃ i : Nat, Lib.index l [c] = i ∧ i < l.length ∧ splitL c l = l.take i :: splitL c (l.drop (i + 1)) := by
  induction l with
  | nil => exact .inl ⟨rfl, rfl⟩
  | cons b l ih =>
    by_cases hb : b = c
    · refine .inr ⟨0, ?_, by simp, ?_⟩
      · unfold Lib.index
        rw [if_pos (by simp [hb])]
        rfl
      · exact splitL_yes l hb
    · have hp : ¬ ([c].isPrefixOf (b :: l) = true) := by
        simp [Ne.symm hb]
      have hi : Lib.index (b :: l) [c] = if Lib.index l [c] == -1 then -1 else Lib.index l [c] + 1 := by
        rw [Lib.index, if_neg hp]
      have hsp : splitL c (b :: l) = match splitL c l with | [] => [[b]] | h :: t => (b :: h) :: t := by
        rw [splitL, if_neg hb]
      rcases ih with ⟨h1, h2⟩ | ⟨i, h1, h2, h3⟩
      · refine .inl ⟨by rw [hi, h1]; rfl, by rw [hsp, h2]⟩
      · refine .inr ⟨i + 1, ?_, by simpa using h2, by rw [hsp, h3]; rfl⟩
        rw [hi, h1, if_neg (by simp)]
        simp
theorem cut_one (c : UInt8) (l : List UInt8) : (Lib.cut l [c] = (l, [], false) ∧ splitL c l = [l]) ∨ ((Lib.cut l [c]).2.2 = true ∧ splitL c l = (Lib.cut l [c]).1 :: splitL c (Lib.cut l [c]).2.1) := by
  rcases index_one c l with ⟨h1, h2⟩ | ⟨i, h1, _, h3⟩
  · refine .inl ⟨?_, h2⟩
    unfold Lib.cut
    rw [h1, if_neg (by decide)]
  · refine .inr ?_
    have e : Lib.cut l [c] = (l.take i, l.drop (i + 1), true) := by
      unfold Lib.cut
      rw [h1, if_pos (by omega)]
      simp
    rw [e]
    exact ⟨rfl, h3⟩
theorem split_one (c : UInt8) : ∀ (k : Nat) (s : ByteArray), Lib.countB s ⟨#[c]⟩ = k → (Lib.splitB ⟨#[c]⟩ 0 k s).map (·.data.toList) = splitL c s.data.toList := by
  intro k
  induction k with
  | zero =>
    intro s hk
    rcases index_one c s.data.toList with ⟨h1, h2⟩ | ⟨i, h1, _, _⟩
    · rw [h2]; rfl
    · have := Lib.countB_hit s ⟨#[c]⟩ i (Nat.le_refl 1) h1
      omega
  | succ k ih =>
    intro s hk
    rcases index_one c s.data.toList with ⟨h1, h2⟩ | ⟨i, h1, _, h3⟩
    · have := Lib.countB_miss s ⟨#[c]⟩ h1
      omega
    · have hc := Lib.countB_hit s ⟨#[c]⟩ i (Nat.le_refl 1) h1
      have hz : (⟨#[c]⟩ : ByteArray).size = 1 := rfl
      rw [hz] at hc
      rw [Lib.splitB_hit ⟨#[c]⟩ 0 k s i h1, List.map_cons, hz, ih _ (by omega), h3, Nat.add_zero, Lib.extract_from_zero, Lib.extract_to_end]
end Go.Proofs.YtagaemlgompggaaGreatDoor
