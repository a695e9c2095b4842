/- The plain text's reading of a text, by its pieces. -/
import Derived.Test.YtabnimgpednhjaaDoorKcM
namespace Go.Proofs.YtabnimgpednhjaaDoor
open Go.RowKit Go.Deep
set_option maxRecDepth 100000

theorem map_bl_inj : ∀ {a b : List ByteArray}, a.map bl = b.map bl → a = b
  | [], [], _ => rfl
  | [], _ :: _, h => by simp at h
  | _ :: _, [], h => by simp at h
  | x :: a, y :: b, h => by
    simp only [List.map_cons, List.cons.injEq] at h
    rw [ba_eq h.1, map_bl_inj h.2]
theorem words_cut (s : ByteArray) : wordsOf s = cutAll s 32 := map_bl_inj ((words_split s).trans (cut_split s 32).symm)
theorem cut_ne (s : ByteArray) (c : Int) : cutAll s c ≠ [] := by unfold cutAll; simp
theorem pieces_end {s : ByteArray} (h : endsOf s = false) : cutAll s 10 = [s] := by
  rcases line_split s with ⟨_, h2⟩ | ⟨h1, _⟩
  · exact map_bl_inj ((cut_split s 10).trans h2)
  · rw [h] at h1; cases h1
theorem pieces_more {s : ByteArray} (h : endsOf s = true) : cutAll s 10 = lineOf s :: cutAll (restOf s) 10 := by
  rcases line_split s with ⟨h1, _⟩ | ⟨_, h2⟩
  · rw [h] at h1; cases h1
  · refine map_bl_inj ((cut_split s 10).trans ?_)
    rw [h2, List.map_cons, show (10 : Int) = ((10 : UInt8).toNat : Int) from rfl, cut_split]
/-- The same reading, over the pieces. -/
def readP : Md → List ByteArray → Nat → Except Nat Md
  | m, [], _ => .ok m
  | m, [z], k => if z.size = 0 then .ok m else .error k
  | m, a :: b :: r, k => match m.line (cutAll a 32) with | none => .error k | some m' => readP m' (b :: r) (k + 1)
theorem readP_none {m : Md} {a : ByteArray} {r : List ByteArray} {k : Nat} (hr : r ≠ []) (h : m.line (cutAll a 32) = none) : readP m (a :: r) k = .error k := by
  cases r with
  | nil => exact absurd rfl hr
  | cons b r => rw [readP, h]
theorem readP_some {m m' : Md} {a : ByteArray} {r : List ByteArray} {k : Nat} (hr : r ≠ []) (h : m.line (cutAll a 32) = some m') : readP m (a :: r) k = readP m' r (k + 1) := by
  cases r with
  | nil => exact absurd rfl hr
  | cons b r => rw [readP, h]
theorem read_pieces : ∀ (n : Nat) (m : Md) (s : ByteArray) (k : Nat), s.size ≤ n → readM m s k = readP m (cutAll s 10) k := by
  intro n
  induction n with
  | zero =>
    intro m s k h
    have h0 : s.size = 0 := by omega
    have he : endsOf s = false := by
      cases e : endsOf s
      · rfl
      · have := rest_size e; omega
    rw [readM_nil h0, pieces_end he, readP, if_pos h0]
  | succ n ih =>
    intro m s k h
    cases he : endsOf s with
    | false =>
      rw [pieces_end he, readP]
      by_cases h0 : s.size = 0
      · rw [readM_nil h0, if_pos h0]
      · rw [readM_no h0 he, if_neg h0]
    | true =>
      have hr := rest_size he
      have h0 : s.size ≠ 0 := by omega
      rw [pieces_more he]
      cases hl : m.line (wordsOf (lineOf s)) with
      | none => rw [readM_none h0 he hl, readP_none (cut_ne _ _) (by rw [← words_cut]; exact hl)]
      | some m' => rw [readM_some h0 he hl, readP_some (cut_ne _ _) (by rw [← words_cut]; exact hl), ih m' (restOf s) (k + 1) (by omega)]
/-- What a word tells, -1 where it tells nothing. -/
def undig (w : ByteArray) : Int := (tellsN w).getD (-1)
theorem undig_bd (w : ByteArray) : -1 ≤ undig w ∧ undig w < 1000000000 := by
  unfold undig
  by_cases hs : noNum w
  · rw [tells_bad hs]; decide
  · rw [tells_good hs]
    split
    · rename_i hd
      have h1 := numN_bd hd
      have h9 : w.size ≤ 9 := by
        apply Classical.byContradiction
        intro e
        exact hs (.inr (.inl (by omega)))
      have := pow9 h9
      simp only [Option.getD_some]
      omega
    · decide
theorem tells_iff {w : ByteArray} {n : Int} : tellsN w = some n ↔ undig w = n ∧ 0 ≤ n := by
  unfold undig
  by_cases hs : noNum w
  · rw [tells_bad hs]
    constructor
    · intro h; cases h
    · intro h; simp at h; omega
  · rw [tells_good hs]
    split
    · rename_i hd
      have h1 := numN_bd hd
      simp only [Option.some.injEq, Option.getD_some]
      omega
    · constructor
      · intro h; cases h
      · intro h; simp at h; omega
theorem tellAll_iff {ws : List ByteArray} {ns : List Int} : tellAll ws = some ns ↔ ns = ws.map undig ∧ ∀ w ∈ ws, 0 ≤ undig w := by
  induction ws generalizing ns with
  | nil => simp [tellAll, eq_comm]
  | cons a l ih =>
    cases ha : tellsN a with
    | none =>
      have : undig a = -1 := by unfold undig; rw [ha]; rfl
      simp only [tellAll, ha]
      constructor
      · intro h; cases h
      · intro h; have := h.2 a (List.mem_cons_self ..); omega
    | some n =>
      obtain ⟨h1, h2⟩ := tells_iff.1 ha
      cases hl : tellAll l with
      | none =>
        simp only [tellAll, ha, hl]
        constructor
        · intro h; cases h
        · intro h
          have := ih.2 ⟨rfl, fun w hw => h.2 w (List.mem_cons_of_mem _ hw)⟩
          rw [hl] at this
          cases this
      | some ms =>
        obtain ⟨h3, h4⟩ := ih.1 hl
        simp only [tellAll, ha, hl, Option.some.injEq, List.map_cons, h1, ← h3]
        constructor
        · rintro rfl
          refine ⟨rfl, fun w hw => ?_⟩
          rcases List.mem_cons.1 hw with rfl | hw
          · omega
          · exact h4 w hw
        · rintro ⟨rfl, _⟩
          rfl
/-- The numbers behind the first words; do they all tell one? -/
def valsN (d : Nat) (ws : List ByteArray) (k : Nat) : List Int := ((ws.take k).drop d).map undig
def fineN (d : Nat) (ws : List ByteArray) (k : Nat) : Bool := ((ws.take k).drop d).all fun w => decide (0 ≤ undig w)
theorem valsN_succ {d : Nat} {ws : List ByteArray} {k : Nat} (h0 : d ≤ k) (h : k < ws.length) : valsN d ws (k + 1) = valsN d ws k ++ [undig ws[k]] := by
  unfold valsN
  rw [List.take_succ_eq_append_getElem h, List.drop_append_of_le_length (by rw [List.length_take]; omega), List.map_append]
  rfl
theorem fineN_succ {d : Nat} {ws : List ByteArray} {k : Nat} (h0 : d ≤ k) (h : k < ws.length) : fineN d ws (k + 1) = (fineN d ws k && decide (0 ≤ undig ws[k])) := by
  unfold fineN
  rw [List.take_succ_eq_append_getElem h, List.drop_append_of_le_length (by rw [List.length_take]; omega), List.all_append]
  simp
theorem valsN_low {d : Nat} {ws : List ByteArray} {k : Nat} (h0 : k ≤ d) : valsN d ws k = [] := by
  unfold valsN
  rw [List.drop_eq_nil_of_le (by rw [List.length_take]; omega)]
  rfl
theorem fineN_low {d : Nat} {ws : List ByteArray} {k : Nat} (h0 : k ≤ d) : fineN d ws k = true := by
  unfold fineN
  rw [List.drop_eq_nil_of_le (by rw [List.length_take]; omega)]
  rfl
theorem valsN_len (d : Nat) (ws : List ByteArray) (k : Nat) : (valsN d ws k).length ≤ k := by
  unfold valsN
  rw [List.length_map, List.length_drop, List.length_take]
  omega
theorem vals_tell {d : Nat} {ws : List ByteArray} (h : fineN d ws ws.length = true) : tellAll (ws.drop d) = some (valsN d ws ws.length) := by
  unfold valsN
  unfold fineN at h
  rw [List.take_length] at h ⊢
  exact tellAll_iff.2 ⟨rfl, fun w hw => by simpa using List.all_eq_true.1 h w hw⟩
theorem vals_no {d : Nat} {ws : List ByteArray} (h : fineN d ws ws.length = false) : tellAll (ws.drop d) = none := by
  cases e : tellAll (ws.drop d) with
  | none => rfl
  | some ns =>
    obtain ⟨_, h2⟩ := tellAll_iff.1 e
    unfold fineN at h
    rw [List.take_length] at h
    rw [List.all_eq_true.2 (fun w hw => by simpa using h2 w hw)] at h
    cases h
/-- The last of the kinds' words that a word is. -/
def lastW (b : ByteArray) : Nat → Nat
  | 0 => 0
  | k + 1 => if 1 ≤ k ∧ kindB k = b then k else lastW b k
theorem kind_all : ((List.range 24).all fun j => j == 0 || (lastW (kindB j) 24 == j && kindN (kindB j) == j)) = true := by kernel_rfl
theorem lastW_no {b : ByteArray} {n : Nat} (h : ∀ j, 1 ≤ j → j < n → kindB j ≠ b) : lastW b n = 0 := by
  induction n with
  | zero => rfl
  | succ n ih =>
    unfold lastW
    rw [if_neg (fun e => h n e.1 (by omega) e.2)]
    exact ih (fun j h1 h2 => h j h1 (by omega))
theorem findW_no {b : ByteArray} {f k : Nat} (h : ∀ j, k ≤ j → j < k + f → kindB j ≠ b) : findW kindB b f k = 0 := by
  induction f generalizing k with
  | zero => rfl
  | succ f ih =>
    unfold findW
    rw [if_neg (h k (Nat.le_refl _) (by omega))]
    exact ih (fun j h1 h2 => h j (by omega) (by omega))
theorem last_kind (b : ByteArray) : lastW b 24 = kindN b := by
  by_cases h : ∃ j, 1 ≤ j ∧ j < 24 ∧ kindB j = b
  · obtain ⟨j, h1, h2, rfl⟩ := h
    have := List.all_eq_true.1 kind_all j (by simpa using h2)
    simp only [Bool.or_eq_true, Bool.and_eq_true, beq_iff_eq] at this
    rcases this with h3 | h3
    · omega
    · rw [h3.1, h3.2]
  · rw [lastW_no (fun j h1 h2 e => h ⟨j, h1, h2, e⟩)]
    unfold kindN
    exact (findW_no (fun j h1 h2 e => h ⟨j, h1, by omega, e⟩)).symm
theorem kindN_le (b : ByteArray) : kindN b ≤ 23 := by
  rw [← last_kind]
  have : ∀ n, lastW b (n + 1) ≤ n := by
    intro n
    induction n with
    | zero => unfold lastW; split <;> simp [lastW]
    | succ n ih =>
      unfold lastW
      split
      · omega
      · omega
  exact this 23
/-- The kind that the second word names. -/
def kindW (ws : List ByteArray) : Nat := match ws with | _ :: b :: _ => kindN b | _ => 0
/-- A line, as the plain text takes it. -/
theorem line_pair1 {m : Md} {a : ByteArray} {r : List ByteArray} (hs : sortN a = 1) (hf : fineN 1 (a :: r) (a :: r).length = true) (hl : (valsN 1 (a :: r) (a :: r).length).length = 2) (h : ¬ 1 < m.last) :
    m.line (a :: r) = some { m with is := m.is ++ [((valsN 1 (a :: r) (a :: r).length).getD 0 0, (valsN 1 (a :: r) (a :: r).length).getD 1 0)], last := 1 } := by
  have ht : tellAll r = some _ := vals_tell hf
  generalize valsN 1 (a :: r) (a :: r).length = v at *
  match v, hl with
  | [x, y], _ => simp [Md.line, hs, h, ht]
theorem line_pair2 {m : Md} {a : ByteArray} {r : List ByteArray} (hs : sortN a = 2) (hf : fineN 1 (a :: r) (a :: r).length = true) (hl : (valsN 1 (a :: r) (a :: r).length).length = 2) (h : ¬ 2 < m.last) :
    m.line (a :: r) = some { m with xs := m.xs ++ [((valsN 1 (a :: r) (a :: r).length).getD 0 0, (valsN 1 (a :: r) (a :: r).length).getD 1 0)], last := 2 } := by
  have ht : tellAll r = some _ := vals_tell hf
  generalize valsN 1 (a :: r) (a :: r).length = v at *
  match v, hl with
  | [x, y], _ => simp [Md.line, hs, h, ht]
theorem line_mark3 {m : Md} {a : ByteArray} {r : List ByteArray} (hs : sortN a = 3) (hf : fineN 1 (a :: r) (a :: r).length = true) (hl : (valsN 1 (a :: r) (a :: r).length).length = 1) (h : ¬ 3 < m.last) :
    m.line (a :: r) = some { m with bs := m.bs ++ [(valsN 1 (a :: r) (a :: r).length).getD 0 0], last := 3 } := by
  have ht : tellAll r = some _ := vals_tell hf
  generalize valsN 1 (a :: r) (a :: r).length = v at *
  match v, hl with
  | [x], _ => simp [Md.line, hs, h, ht]
theorem line_mark4 {m : Md} {a : ByteArray} {r : List ByteArray} (hs : sortN a = 4) (hf : fineN 1 (a :: r) (a :: r).length = true) (hl : (valsN 1 (a :: r) (a :: r).length).length = 1) (h : ¬ 4 < m.last) :
    m.line (a :: r) = some { m with hs := m.hs ++ [(valsN 1 (a :: r) (a :: r).length).getD 0 0], last := 4 } := by
  have ht : tellAll r = some _ := vals_tell hf
  generalize valsN 1 (a :: r) (a :: r).length = v at *
  match v, hl with
  | [x], _ => simp [Md.line, hs, h, ht]
theorem line_nope {m : Md} {a : ByteArray} {r : List ByteArray} (hs : sortN a ≠ 0) (h : ¬ (fineN 1 (a :: r) (a :: r).length = true ∧ (valsN 1 (a :: r) (a :: r).length).length = (if 2 < sortN a then 1 else 2) ∧ ¬ sortN a < m.last)) : m.line (a :: r) = none := by
  by_cases hlow : sortN a < m.last
  · simp [Md.line, hlow]
  · have hb := sortN_bd a
    cases hf : fineN 1 (a :: r) (a :: r).length with
    | false =>
      have ht : tellAll r = none := vals_no hf
      have : sortN a = 1 ∨ sortN a = 2 ∨ sortN a = 3 ∨ sortN a = 4 := by omega
      rcases this with e | e | e | e <;> (rw [e] at hlow; simp [Md.line, e, hlow, ht])
    | true =>
      have ht : tellAll r = some _ := vals_tell hf
      have hl : (valsN 1 (a :: r) (a :: r).length).length ≠ (if 2 < sortN a then 1 else 2) := fun e => h ⟨hf, e, hlow⟩
      generalize valsN 1 (a :: r) (a :: r).length = v at *
      have : sortN a = 1 ∨ sortN a = 2 ∨ sortN a = 3 ∨ sortN a = 4 := by omega
      rcases this with e | e | e | e <;> rw [e] at hlow hl <;> (rcases v with _ | ⟨x, _ | ⟨y, _ | ⟨z, q⟩⟩⟩) <;> simp at hl <;> simp [Md.line, e, hlow, ht]
theorem line_node0 {m : Md} {a : ByteArray} {r : List ByteArray} (hs : sortN a = 0) (hf : fineN 2 (a :: r) (a :: r).length = true) (hu : undig a = (m.ns.length : Int)) (hk : kindW (a :: r) ≠ 0) (hl : (valsN 2 (a :: r) (a :: r).length).length = manyN (kindW (a :: r))) (h : ¬ 0 < m.last) :
    m.line (a :: r) = some { m with ns := m.ns ++ [mkNd (kindW (a :: r)) (valsN 2 (a :: r) (a :: r).length)], last := 0 } := by
  cases r with
  | nil => exact absurd rfl hk
  | cons b rest =>
    have ht : tellAll rest = some _ := vals_tell hf
    have hk' : kindN b ≠ 0 := hk
    have hl' : (valsN 2 (a :: b :: rest) (a :: b :: rest).length).length = manyN (kindN b) := hl
    have h0 : m.last = 0 := by omega
    show m.line (a :: b :: rest) = some { m with ns := m.ns ++ [mkNd (kindN b) _], last := 0 }
    generalize valsN 2 (a :: b :: rest) (a :: b :: rest).length = v at *
    have hrb : readB rest (manyN (kindN b)) = true := by unfold readB; rw [ht]; simpa using hl'
    have hta : tellsN a = some (m.ns.length : Int) := tells_iff.2 ⟨hu, by omega⟩
    simp only [Md.line, hs, h0, Nat.lt_irrefl, if_false, Md.node]
    rw [if_pos ⟨hta, hk', hrb⟩, ht]
    rfl
theorem line_nope0 {m : Md} {a : ByteArray} {r : List ByteArray} (hs : sortN a = 0) (h : ¬ (fineN 2 (a :: r) (a :: r).length = true ∧ undig a = (m.ns.length : Int) ∧ kindW (a :: r) ≠ 0 ∧ (valsN 2 (a :: r) (a :: r).length).length = manyN (kindW (a :: r)) ∧ ¬ 0 < m.last)) : m.line (a :: r) = none := by
  by_cases h0 : 0 < m.last
  · simp [Md.line, hs, h0]
  · have h0' : m.last = 0 := by omega
    simp only [Md.line, hs, h0', Nat.lt_irrefl, if_false]
    cases r with
    | nil => rfl
    | cons b rest =>
      simp only [Md.node]
      rw [if_neg]
      rintro ⟨h1, h2, h3⟩
      apply h
      obtain ⟨h4, _⟩ := tells_iff.1 h1
      unfold readB at h3
      cases ht : tellAll rest with
      | none => rw [ht] at h3; cases h3
      | some ns =>
        rw [ht] at h3
        have h5 : ns.length = manyN (kindN b) := by simpa using h3
        have hf : fineN 2 (a :: b :: rest) (a :: b :: rest).length = true := by
          cases e : fineN 2 (a :: b :: rest) (a :: b :: rest).length
          · have : tellAll rest = none := vals_no e
            rw [ht] at this; cases this
          · rfl
        have hv : tellAll rest = some (valsN 2 (a :: b :: rest) (a :: b :: rest).length) := vals_tell hf
        rw [ht] at hv
        cases hv
        exact ⟨hf, h4, h2, h5, h0⟩
end Go.Proofs.YtabnimgpednhjaaDoor
