/- A trace's text: what the code reads of it, and the plain text, by its pieces. -/
import Derived.Test.YtabnimgpednhjaaGreatDoorHjM
import Derived.Test.YtabnimgpednhjaaGreatDoorKbM
namespace Go.Proofs.YtabnimgpednhjaaGreatDoor
open Go.RowKit
set_option maxRecDepth 100000

abbrev bl (s : ByteArray) : List UInt8 := s.data.toList
theorem bl_mk (l : List UInt8) : bl ⟨l.toArray⟩ = l := by simp [bl]
theorem ba_eq {a b : ByteArray} (h : bl a = bl b) : a = b := ByteArray.ext (Array.toList_inj.1 h)

/-- The plain text's Cut. -/
theorem cut_split (s : ByteArray) (c : UInt8) : (cutAll s (c.toNat : Int)).map bl = splitL c (bl s) := by
  have key : ∀ k, k ≤ s.size → splitL c ((bl s).take k) = (cutN s (c.toNat : Int) k).map bl ++ [bl (s.extract (fromN s (c.toNat : Int) k) k)] := by
    intro k
    induction k with
    | zero =>
      intro _
      have e : bl (s.extract (fromN s (c.toNat : Int) 0) 0) = [] := by show (s.extract _ 0).data.toList = []; rw [Lib.extract_data]; simp
      rw [e]
      simp [cutN, splitL]
    | succ k ih =>
      intro hk
      have hlt : k < (bl s).length := by rw [← Lib.size_eq]; omega
      have hf := fromN_le s (c.toNat : Int) k
      have hb : byt s k = (((bl s)[k]).toNat : Int) := by
        unfold byt
        rw [List.getD, List.getElem?_eq_getElem hlt]
        rfl
      have hbc : byt s k = (c.toNat : Int) ↔ (bl s)[k] = c := by
        rw [hb]
        constructor
        · intro h
          exact UInt8.toNat_inj.1 (by omega)
        · intro h; rw [h]
      have hs := splitL_snoc c (bl s)[k] ((bl s).take k) _ _ (ih (by omega))
      rw [List.take_succ_eq_append_getElem hlt, hs]
      by_cases h : byt s k = (c.toNat : Int)
      · rw [if_pos (hbc.1 h)]
        have e1 : cutN s (c.toNat : Int) (k + 1) = cutN s (c.toNat : Int) k ++ [s.extract (fromN s (c.toNat : Int) k) k] := by simp [cutN, h]
        have e2 : fromN s (c.toNat : Int) (k + 1) = k + 1 := by simp [fromN, h]
        have e3 : bl (s.extract (k + 1) (k + 1)) = [] := by show (s.extract _ _).data.toList = []; rw [Lib.extract_data]; simp
        rw [e1, e2, e3]
        simp
      · rw [if_neg (fun e => h (hbc.2 e))]
        have e1 : cutN s (c.toNat : Int) (k + 1) = cutN s (c.toNat : Int) k := by simp [cutN, h]
        have e2 : fromN s (c.toNat : Int) (k + 1) = fromN s (c.toNat : Int) k := by simp [fromN, h]
        rw [e1, e2]
        congr 2
        show (s.extract _ k).data.toList ++ [s.data.toList[k]] = (s.extract _ (k + 1)).data.toList
        rw [Lib.extract_data, Lib.extract_data, show k + 1 - fromN s (c.toNat : Int) k = (k - fromN s (c.toNat : Int) k) + 1 by omega]
        rw [List.take_succ_eq_append_getElem (by rw [List.length_drop]; have : (bl s).length = s.data.toList.length := rfl; omega)]
        congr 2
        rw [List.getElem_drop]
        congr 1
        omega
  have h := key s.size (Nat.le_refl _)
  rw [List.take_of_length_le (by rw [← Lib.size_eq]; exact Nat.le_refl _)] at h
  unfold cutAll
  rw [h]
  simp
theorem words_split (s : ByteArray) : (wordsOf s).map bl = splitL 32 (bl s) := split_one 32 _ s rfl
theorem line_split (s : ByteArray) : (endsOf s = false ∧ splitL 10 (bl s) = [bl s]) ∨ (endsOf s = true ∧ splitL 10 (bl s) = bl (lineOf s) :: splitL 10 (bl (restOf s))) := by
  rcases cut_one 10 (bl s) with ⟨h1, h2⟩ | ⟨h1, h2⟩
  · exact .inl ⟨by unfold endsOf; rw [h1], h2⟩
  · refine .inr ⟨h1, ?_⟩
    rw [h2]
    unfold lineOf restOf
    rw [bl_mk, bl_mk]
end Go.Proofs.YtabnimgpednhjaaGreatDoor

namespace Go.Proofs.YtabnimgpednhjaaGreatDoor
open Go.RowKit Go.Deep
set_option maxRecDepth 100000

theorem cut_rest (l : List UInt8) (h : (Lib.cut l [10]).2.2 = true) : (Lib.cut l [10]).2.1.length < l.length := by
  cases l with
  | nil => exact absurd h (by decide)
  | cons b l =>
    unfold Lib.cut at h ⊢
    split at h
    · rename_i h1
      rw [if_pos h1]
      simp only [List.length_drop, List.length_cons, List.length_nil]
      omega
    · cases h
theorem rest_size {s : ByteArray} (h : endsOf s = true) : (restOf s).size < s.size := by
  show (Lib.cut s.data.toList [10]).2.1.toArray.size < s.data.size
  rw [List.size_toArray, ← Array.length_toList]
  exact cut_rest _ h
/-- What all lines make of a model; or which line may not stand there. -/
def readF : Nat → Md → ByteArray → Nat → Except Nat Md
 | 0, m, _, _ => .ok m
 | f + 1, m, s, k => if s.size = 0 then .ok m else if endsOf s = true then match m.line (wordsOf (lineOf s)) with | none => .error k | some m' => readF f m' (restOf s) (k + 1) else .error k
def readM (m : Md) (s : ByteArray) (k : Nat) : Except Nat Md := readF s.size m s k
theorem readF_more : ∀ (f g : Nat) (m : Md) (s : ByteArray) (k : Nat), s.size ≤ f → s.size ≤ g → readF f m s k = readF g m s k := by
 intro f
 induction f with
 | zero =>
   intro g m s k h1 _
   cases g with
   | zero => rfl
   | succ g => unfold readF; rw [if_pos (by omega)]
 | succ f ih =>
   intro g m s k h1 h2
   cases g with
   | zero => unfold readF; rw [if_pos (by omega)]
   | succ g =>
     unfold readF
     by_cases h0 : s.size = 0
     · rw [if_pos h0, if_pos h0]
     · rw [if_neg h0, if_neg h0]
       by_cases he : endsOf s = true
       · rw [if_pos he, if_pos he]
         cases m.line (wordsOf (lineOf s)) with
         | none => rfl
         | some m' => exact ih g m' (restOf s) (k + 1) (by have := rest_size he; omega) (by have := rest_size he; omega)
       · rw [if_neg he, if_neg he]
theorem readM_eq (m : Md) (s : ByteArray) (k : Nat) : readM m s k = if s.size = 0 then .ok m else if endsOf s = true then match m.line (wordsOf (lineOf s)) with | none => .error k | some m' => readM m' (restOf s) (k + 1) else .error k := by
 have h1 : readM m s k = readF (s.size + 1) m s k := readF_more _ _ _ _ _ (Nat.le_refl _) (by omega)
 rw [h1, readF]
 by_cases h0 : s.size = 0
 · rw [if_pos h0, if_pos h0]
 · rw [if_neg h0, if_neg h0]
   by_cases he : endsOf s = true
   · rw [if_pos he, if_pos he]
     cases m.line (wordsOf (lineOf s)) with
     | none => rfl
     | some m' => exact readF_more _ _ _ _ _ (by have := rest_size he; omega) (Nat.le_refl _)
   · rw [if_neg he, if_neg he]
theorem readM_nil {m : Md} {s : ByteArray} {k : Nat} (h : s.size = 0) : readM m s k = .ok m := by rw [readM_eq, if_pos h]
theorem readM_no {m : Md} {s : ByteArray} {k : Nat} (h0 : s.size ≠ 0) (he : endsOf s = false) : readM m s k = .error k := by rw [readM_eq, if_neg h0, if_neg (by simp [he])]
theorem readM_none {m : Md} {s : ByteArray} {k : Nat} (h0 : s.size ≠ 0) (he : endsOf s = true) (hl : m.line (wordsOf (lineOf s)) = none) : readM m s k = .error k := by rw [readM_eq, if_neg h0, if_pos he, hl]
theorem readM_some {m m' : Md} {s : ByteArray} {k : Nat} (h0 : s.size ≠ 0) (he : endsOf s = true) (hl : m.line (wordsOf (lineOf s)) = some m') : readM m s k = readM m' (restOf s) (k + 1) := by rw [readM_eq, if_neg h0, if_pos he, hl]
def Md0 : Md := ⟨[], [], [], [], [], 0⟩
/-- What the text's reading ends with. -/
def parseR (s : ByteArray) : Md × Nat × Int :=
  if 10000 < s.size then (Md0, 0, 2) else match readM Md0 s 1 with
  | .error k => (Md0, k, 1)
  | .ok m => if Ev.checkE m.ns m.is m.xs m.bs m.hs = 0 then (m, 0, 0) else (Md0, 0, Ev.checkE m.ns m.is m.xs m.bs m.hs)
def Md.within (m : Md) (k : Nat) : Prop := m.ns.length ≤ k ∧ m.is.length ≤ k ∧ m.xs.length ≤ k ∧ m.bs.length ≤ k ∧ m.hs.length ≤ k
theorem Md.node_within {m m' : Md} {ws : List ByteArray} {k : Nat} (h : m.node ws = some m') (hm : m.within k) : m'.within (k + 1) := by
  unfold Md.node at h
  split at h
  · split at h
    · cases h
      obtain ⟨h1, h2, h3, h4, h5⟩ := hm
      refine ⟨by simp; omega, by show m.is.length ≤ _; omega, by show m.xs.length ≤ _; omega, by show m.bs.length ≤ _; omega, by show m.hs.length ≤ _; omega⟩
    · cases h
  · cases h
theorem Md.line_within {m m' : Md} {ws : List ByteArray} {k : Nat} (h : m.line ws = some m') (hm : m.within k) : m'.within (k + 1) := by
  unfold Md.line at h
  split at h
  · cases h
  · split at h
    · cases h
    · split at h
      · split at h
        · cases h
          obtain ⟨h1, h2, h3, h4, h5⟩ := hm
          refine ⟨by show m.ns.length ≤ _; omega, by simp; omega, by show m.xs.length ≤ _; omega, by show m.bs.length ≤ _; omega, by show m.hs.length ≤ _; omega⟩
        · cases h
      · split at h
        · cases h
          obtain ⟨h1, h2, h3, h4, h5⟩ := hm
          refine ⟨by show m.ns.length ≤ _; omega, by show m.is.length ≤ _; omega, by simp; omega, by show m.bs.length ≤ _; omega, by show m.hs.length ≤ _; omega⟩
        · cases h
      · split at h
        · cases h
          obtain ⟨h1, h2, h3, h4, h5⟩ := hm
          refine ⟨by show m.ns.length ≤ _; omega, by show m.is.length ≤ _; omega, by show m.xs.length ≤ _; omega, by simp; omega, by show m.hs.length ≤ _; omega⟩
        · cases h
      · split at h
        · cases h
          obtain ⟨h1, h2, h3, h4, h5⟩ := hm
          refine ⟨by show m.ns.length ≤ _; omega, by show m.is.length ≤ _; omega, by show m.xs.length ≤ _; omega, by show m.bs.length ≤ _; omega, by simp; omega⟩
        · cases h
      · exact Md.node_within h hm
theorem Md.within.few {m : Md} {k : Nat} (h : m.within k) (hk : k ≤ 100000) : m.few := by
  obtain ⟨h1, h2, h3, h4, h5⟩ := h
  exact ⟨by omega, by omega, by omega, by omega, by omega⟩
theorem count_size (s : ByteArray) : (wordsOf s).length ≤ s.size + 1 := by
  have h := congrArg List.length (words_split s)
  rw [List.length_map] at h
  rw [h, Lib.size_eq]
  have : _ + (splitL 32 (bl s)).length = s.data.toList.length + 1 := splitL_len 32 (bl s)
  omega
theorem words_pos (s : ByteArray) : 1 ≤ (wordsOf s).length := by rw [wordsOf_len]; omega
end Go.Proofs.YtabnimgpednhjaaGreatDoor
