/- A trace's text: what the code reads of it, and the plain text, by its pieces. -/
import Derived.Test.YtagaemlgompggaaGreatDoorIa
import Derived.Test.YtagaemlgompggaaGreatDoorHsM
namespace Go.Proofs.YtagaemlgompggaaGreatDoor
open Go.RowKit
set_option maxRecDepth 100000

abbrev bl (s : ByteArray) : List UInt8 := s.data.toList
theorem bl_mk (l : List UInt8) : bl ⟨l.toArray⟩ = l := by simp [bl]
theorem ba_eq {a b : ByteArray} (h : bl a = bl b) : a = b := ByteArray.ext (Array.toList_inj.1 h)

/-- The plain text's Cut. -/
theorem cut_split (s : ByteArray) (c : UInt8) : (cutAll s (c.toNat : Int)).map bl = splitL c (bl s) := by
  have key : ∀ k, k ≤ s.size → splitL c ((bl s).take k) = (cutN s (c.toNat : Int) k).map bl ++ [bl (s.extract (fromN s (c.toNat : Int) k) k)] := by
    intro k
    induction k with
    | zero =>
      intro _
      have e : bl (s.extract (fromN s (c.toNat : Int) 0) 0) = [] := by show (s.extract _ 0).data.toList = []; rw [Lib.extract_data]; simp
      rw [e]
      simp [cutN, splitL]
    | succ k ih =>
      intro hk
      have hlt : k < (bl s).length := by rw [← Lib.size_eq]; omega
      have hf := fromN_le s (c.toNat : Int) k
      have hb : byt s k = (((bl s)[k]).toNat : Int) := by
        unfold byt
        rw [List.getD, List.getElem?_eq_getElem hlt]
        rfl
      have hbc : byt s k = (c.toNat : Int) ↔ (bl s)[k] = c := by
        rw [hb]
        constructor
        · intro h
          exact UInt8.toNat_inj.1 (by omega)
        · intro h; rw [h]
      have hs := splitL_snoc c (bl s)[k] ((bl s).take k) _ _ (ih (by omega))
      rw [List.take_succ_eq_append_getElem hlt, hs]
      by_cases h : byt s k = (c.toNat : Int)
      · rw [if_pos (hbc.1 h)]
        have e1 : cutN s (c.toNat : Int) (k + 1) = cutN s (c.toNat : Int) k ++ [s.extract (fromN s (c.toNat : Int) k) k] := by simp [cutN, h]
        have e2 : fromN s (c.toNat : Int) (k + 1) = k + 1 := by simp [fromN, h]
        have e3 : bl (s.extract (k + 1) (k + 1)) = [] := by show (s.extract _ _).data.toList = []; rw [Lib.extract_data]; simp
        rw [e1, e2, e3]
        simp
      · rw [if_neg (fun e => h (hbc.2 e))]
        have e1 : cutN s (c.toNat : Int) (k + 1) = cutN s (c.toNat : Int) k := by simp [cutN, h]
        have e2 : fromN s (c.toNat : Int) (k + 1) = fromN s (c.toNat : Int) k := by simp [fromN, h]
        rw [e1, e2]
        congr 2
        show (s.extract _ k).data.toList ++ [s.data.toList[k]] = (s.extract _ (k + 1)).data.toList
        rw [Lib.extract_data, Lib.extract_data, show k + 1 - fromN s (c.toNat : Int) k = (k - fromN s (c.toNat : Int) k) + 1 by omega]
        rw [List.take_succ_eq_append_getElem (by rw [List.length_drop]; have : (bl s).length = s.data.toList.length := rfl; omega)]
        congr 2
        rw [List.getElem_drop]
        congr 1
        omega
  have h := key s.size (Nat.le_refl _)
  rw [List.take_of_length_le (by rw [← Lib.size_eq]; exact Nat.le_refl _)] at h
  unfold cutAll
  rw [h]
  simp
theorem words_split (s : ByteArray) : (wordsOf s).map bl = splitL 32 (bl s) := split_one 32 _ s rfl
theorem line_split (s : ByteArray) : (endsOf s = false ∧ splitL 10 (bl s) = [bl s]) ∨ (endsOf s = true ∧ splitL 10 (bl s) = bl (lineOf s) :: splitL 10 (bl (restOf s))) := by
  rcases cut_one 10 (bl s) with ⟨h1, h2⟩ | ⟨h1, h2⟩
  · exact .inl ⟨by unfold endsOf; rw [h1], h2⟩
  · refine .inr ⟨h1, ?_⟩
    rw [h2]
    unfold lineOf restOf
    rw [bl_mk, bl_mk]
end Go.Proofs.YtagaemlgompggaaGreatDoor

namespace Go.Proofs.YtagaemlgompggaaGreatDoor
open Go.RowKit
set_option maxRecDepth 100000

abbrev mk (l : List UInt8) : ByteArray := ⟨l.toArray⟩
theorem mk_bl (s : ByteArray) : mk (bl s) = s := ba_eq (bl_mk _)
theorem map_mk (l : List ByteArray) : (l.map bl).map mk = l := by
  rw [List.map_map]
  have : (mk ∘ bl) = id := by funext s; exact mk_bl s
  rw [this, List.map_id]
def undig (w : List UInt8) : Int := (tellsN (mk w)).getD (-1)
/-- The numbers of a line; its first word. -/
def rowP (x : List UInt8) : List Int := ((splitL 32 x).drop 1).map undig
def headP (x : List UInt8) : List UInt8 := (splitL 32 x).headD []
/-- What a line tells behind a word. -/
def lineP (x : List UInt8) (f : ByteArray) : Option (List Int) := if headP x = bl f then tellAll (((splitL 32 x).drop 1).map mk) else none

theorem tellAll_some {l : List (List UInt8)} {ns : List Int} (h : tellAll (l.map mk) = some ns) : ns = l.map undig ∧ ∀ w ∈ l, tellsN (mk w) ≠ none := by
  induction l generalizing ns with
  | nil => simp [tellAll] at h; exact ⟨by simp [h], fun w hw => by cases hw⟩
  | cons a l ih =>
    simp only [List.map_cons, tellAll] at h
    cases ha : tellsN (mk a) with
    | none => rw [ha] at h; simp at h
    | some n =>
      cases hl : tellAll (l.map mk) with
      | none => rw [ha, hl] at h; simp at h
      | some ms =>
        rw [ha, hl] at h
        simp at h
        obtain ⟨h1, h2⟩ := ih hl
        refine ⟨?_, fun w hw => ?_⟩
        · rw [← h, h1]; simp [undig, ha]
        · rcases List.mem_cons.1 hw with rfl | hw
          · rw [ha]; simp
          · exact h2 w hw
theorem tellAll_all {l : List (List UInt8)} (h : ∀ w ∈ l, tellsN (mk w) ≠ none) : tellAll (l.map mk) = some (l.map undig) := by
  induction l with
  | nil => rfl
  | cons a l ih =>
    have h1 := h a (List.mem_cons_self ..)
    have h2 := ih (fun w hw => h w (List.mem_cons_of_mem _ hw))
    simp only [List.map_cons, tellAll]
    cases ha : tellsN (mk a) with
    | none => exact absurd ha h1
    | some n => rw [h2]; simp [undig, ha]
theorem undig_none {w : List UInt8} (h : 0 ≤ undig w) : tellsN (mk w) ≠ none := by
  intro e
  unfold undig at h
  rw [e] at h
  simp at h
theorem lineP_some {x : List UInt8} {f : ByteArray} {ns : List Int} (h : lineP x f = some ns) : headP x = bl f ∧ ns = rowP x := by
  unfold lineP at h
  split at h
  · rename_i h1
    exact ⟨h1, (tellAll_some h).1⟩
  · cases h
theorem lineP_good {x : List UInt8} {f : ByteArray} (h : headP x = bl f) (hn : ∀ n ∈ rowP x, 0 ≤ n) : lineP x f = some (rowP x) := by
  unfold lineP
  rw [if_pos h]
  exact tellAll_all fun w hw => undig_none (hn _ (List.mem_map.2 ⟨w, hw, rfl⟩))
theorem toList_bl {a f : ByteArray} : a.toList = f.toList ↔ bl a = bl f := by rw [ByteArray.toList_eq, ByteArray.toList_eq]
theorem read_line (s f : ByteArray) : readN s f = if endsOf s = true then lineP (bl (lineOf s)) f else none := by
  have hw := words_split (lineOf s)
  unfold readN lineP headP
  rw [← hw]
  cases h : wordsOf (lineOf s) with
  | nil =>
    have := wordsOf_len (lineOf s)
    rw [h] at this
    simp at this
  | cons a l =>
    simp only [List.map_cons, List.headD_cons, List.drop_succ_cons, List.drop_zero]
    rw [map_mk]
    by_cases he : endsOf s = true
    · rw [if_pos he]
      by_cases hf : bl a = bl f
      · rw [if_pos ⟨he, toList_bl.2 hf⟩, if_pos hf]
      · rw [if_neg (fun h => hf (toList_bl.1 h.2)), if_neg hf]
    · rw [if_neg he, if_neg (fun h => he h.1)]

def insP : List (List UInt8) → Option (List (List Int))
  | [] => none
  | [x] => if x = [] then some [] else none
  | x :: y :: r => match lineP x inB with | some ns => (insP (y :: r)).map (ns :: ·) | none => none
theorem size_bl (s : ByteArray) : s.size = (bl s).length := Lib.size_eq s
theorem ins_pieces : ∀ (f : Nat) (s : ByteArray), s.size ≤ f → insN f s = insP (splitL 10 (bl s)) := by
  intro f
  induction f with
  | zero =>
    intro s hs
    have h0 : s.size = 0 := by omega
    have hb : bl s = [] := by rw [size_bl] at h0; exact List.length_eq_zero_iff.1 h0
    rw [insN_nil 0 h0, hb]
    rfl
  | succ f ih =>
    intro s hs
    by_cases h0 : s.size = 0
    · have hb : bl s = [] := by rw [size_bl] at h0; exact List.length_eq_zero_iff.1 h0
      rw [insN_nil _ h0, hb]
      rfl
    · have hb : bl s ≠ [] := fun e => h0 (by rw [size_bl, e]; rfl)
      have hrl := read_line s inB
      rcases line_split s with ⟨h1, h2⟩ | ⟨h1, h2⟩
      · rw [h1] at hrl
        rw [insN_none f h0 (by simpa using hrl), h2]
        simp [insP, hb]
      · rw [h1, if_pos rfl] at hrl
        have hlt := restOf_lt h0 h1
        have hI := ih (restOf s) (by omega)
        rw [h2]
        cases hr : splitL 10 (bl (restOf s)) with
        | nil => exact absurd hr (splitL_ne _ _)
        | cons y r =>
          rw [hr] at hI
          unfold insP
          cases hl : lineP (bl (lineOf s)) inB with
          | none => rw [hl] at hrl; rw [insN_none f h0 hrl]
          | some ns => rw [hl] at hrl; rw [insN_some f h0 hrl, hI]

def parseP : List (List UInt8) → Option (List Int × List (List Int))
  | x :: y :: r => match lineP x startB with
    | none => none
    | some st => match insP (y :: r) with
      | none => none
      | some ins => if fitL st ins = 0 then some (st, ins) else none
  | _ => none
theorem parse_pieces (s : ByteArray) : parseF s = if 3489 < s.size then none else parseP (splitL 10 (bl s)) := by
  unfold parseF
  by_cases hb : 3489 < s.size
  · rw [if_pos hb, if_pos hb]
  · rw [if_neg hb, if_neg hb, read_line s startB, ins_pieces s.size (restOf s) (restOf_le s)]
    rcases line_split s with ⟨h1, h2⟩ | ⟨h1, h2⟩
    · rw [h1, h2]
      simp [parseP]
    · rw [h1, h2, if_pos rfl]
      cases hr : splitL 10 (bl (restOf s)) with
      | nil => exact absurd hr (splitL_ne _ _)
      | cons y r => rfl

/-- What the plain text makes of the pieces. -/
def plainP : List (List UInt8) → Option (List Int × List (List Int))
  | x :: y :: r => if (y :: r).getLast (by simp) = [] ∧ headP x = bl startB ∧ (∀ z ∈ (y :: r).dropLast, headP z = bl inB) then
      if fitL (rowP x) ((y :: r).dropLast.map rowP) = 0 then some (rowP x, (y :: r).dropLast.map rowP) else none
    else none
  | _ => none
theorem insP_some : ∀ {L : List (List UInt8)} {ins : List (List Int)} (hL : L ≠ []), insP L = some ins → L.getLast hL = [] ∧ (∀ z ∈ L.dropLast, headP z = bl inB) ∧ ins = L.dropLast.map rowP
  | [], _, hL, _ => absurd rfl hL
  | [x], ins, _, h => by
    unfold insP at h
    split at h
    · rename_i hx
      simp at h
      exact ⟨hx, fun z hz => by simp at hz, by simp [← h]⟩
    · cases h
  | x :: y :: r, ins, _, h => by
    unfold insP at h
    split at h
    · rename_i ns hl
      obtain ⟨ms, h1, h2⟩ := Option.map_eq_some_iff.1 h
      obtain ⟨a, b, c⟩ := insP_some (L := y :: r) (by simp) h1
      obtain ⟨d, e⟩ := lineP_some hl
      refine ⟨by simpa using a, fun z hz => ?_, ?_⟩
      · rw [List.dropLast_cons_cons] at hz
        rcases List.mem_cons.1 hz with rfl | hz
        · exact d
        · exact b z hz
      · rw [List.dropLast_cons_cons, ← h2, c, e]
        rfl
    · cases h
theorem insP_good : ∀ {L : List (List UInt8)} (hL : L ≠ []), L.getLast hL = [] → (∀ z ∈ L.dropLast, headP z = bl inB ∧ ∀ n ∈ rowP z, 0 ≤ n) → insP L = some (L.dropLast.map rowP)
  | [], hL, _, _ => absurd rfl hL
  | [x], _, h, _ => by
    have hx : x = [] := h
    simp [insP, hx]
  | x :: y :: r, _, h, hz => by
    rw [List.dropLast_cons_cons] at hz ⊢
    unfold insP
    have h1 := hz x (List.mem_cons_self ..)
    rw [lineP_good h1.1 h1.2, insP_good (L := y :: r) (by simp) (by simpa using h) (fun z hm => hz z (List.mem_cons_of_mem _ hm))]
    rfl
theorem fitL_near {st : List Int} {ins : List (List Int)} (h : fitL st ins = 0) : ins.length ≤ 41 ∧ ∀ l ∈ st :: ins, l.length ≤ 20 ∧ ∀ n ∈ l, 0 ≤ n ∧ n ≤ 255 := by
  have e := fitL_rows ⟨none, st, 0⟩ (ins.map fun l => ⟨none, l, 0⟩)
  have hm : (ins.map fun l => (⟨none, l, 0⟩ : Row)).map Row.ns = ins := by
    rw [List.map_map]
    have : (Row.ns ∘ fun l => (⟨none, l, 0⟩ : Row)) = id := rfl
    rw [this, List.map_id]
  rw [hm] at e
  obtain ⟨h1, h2⟩ := fitE_zero (e.symm.trans h)
  rw [List.length_map] at h1
  refine ⟨h1, fun l hl => ?_⟩
  rcases List.mem_cons.1 hl with rfl | hl
  · exact h2 _ (List.mem_cons_self ..)
  · exact h2 ⟨none, l, 0⟩ (List.mem_cons_of_mem _ (List.mem_map.2 ⟨l, hl, rfl⟩))
theorem plain_parse (L : List (List UInt8)) : plainP L = parseP L := by
  match L with
  | [] => rfl
  | [_] => rfl
  | x :: y :: r =>
    unfold plainP parseP
    dsimp only
    by_cases hc : (y :: r).getLast (by simp) = [] ∧ headP x = bl startB ∧ (∀ z ∈ (y :: r).dropLast, headP z = bl inB)
    · rw [if_pos hc]
      obtain ⟨h1, h2, h3⟩ := hc
      by_cases hf : fitL (rowP x) ((y :: r).dropLast.map rowP) = 0
      · rw [if_pos hf]
        obtain ⟨_, hn⟩ := fitL_near hf
        rw [lineP_good h2 (fun n hm => ((hn _ (List.mem_cons_self ..)).2 n hm).1), insP_good (by simp) h1 (fun z hz => ⟨h3 z hz, fun n hm => ((hn _ (List.mem_cons_of_mem _ (List.mem_map.2 ⟨z, hz, rfl⟩))).2 n hm).1⟩)]
        simp only
        rw [if_pos hf]
      · rw [if_neg hf]
        cases hl : lineP x startB with
        | none => rfl
        | some st =>
          cases hi : insP (y :: r) with
          | none => rfl
          | some ins =>
            simp only
            rw [(lineP_some hl).2, (insP_some (by simp) hi).2.2, if_neg hf]
    · rw [if_neg hc]
      cases hl : lineP x startB with
      | none => rfl
      | some st =>
        cases hi : insP (y :: r) with
        | none => rfl
        | some ins =>
          obtain ⟨a, b, _⟩ := insP_some (by simp) hi
          exact absurd ⟨a, (lineP_some hl).1, b⟩ hc
end Go.Proofs.YtagaemlgompggaaGreatDoor
