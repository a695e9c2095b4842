/- What is printed is read as it was, and nothing else is: lists alone. -/
import Derived.Test.YtabnimgpednhjaaDoorKk
import Derived.Test.YtabnimgpednhjaaDoorKhM
import Derived.Lib.ItoaMem
namespace Go.Proofs.YtabnimgpednhjaaDoor
open Go.RowKit Go.Deep
set_option maxRecDepth 100000

/-! Numbers: what a word tells is written as it stood. -/
theorem numN_low {s : ByteArray} (h0 : 49 ≤ byt s 0) (j : Nat) (h : digN s (j + 1) = true) : (10 : Int) ^ j ≤ numN s (j + 1) := by
  induction j with
  | zero => simp only [numN]; simp; omega
  | succ j ih =>
    simp only [digN, Bool.and_eq_true, decide_eq_true_eq] at h ih
    have := ih h.1
    rw [numN]
    have e : (10 : Int) ^ (j + 1) = 10 * 10 ^ j := by rw [Int.pow_succ, Int.mul_comm]
    omega
theorem byt_at {s : ByteArray} {k : Nat} (h : k < (bl s).length) : (((bl s)[k]).toNat : Int) = byt s k := by
  unfold byt
  rw [List.getD, List.getElem?_eq_getElem h]
  rfl
theorem dec_num {s : ByteArray} (k : Nat) (hk : k + 1 ≤ (bl s).length) (h : digN s (k + 1) = true) (h0 : k = 0 ∨ byt s 0 ≠ 48) : Lib.decDigits (numN s (k + 1)).toNat = (bl s).take (k + 1) := by
  induction k with
  | zero =>
    have hd := h
    simp only [digN, Bool.and_eq_true, decide_eq_true_eq, true_and] at hd
    have hb := byt_at (s := s) (k := 0) (by omega)
    have hn : (numN s (0 + 1)).toNat = (bl s)[0].toNat - 48 := by simp only [numN]; omega
    rw [hn, Lib.decDigits_one (by omega), List.take_succ_eq_append_getElem (by omega)]
    simp only [List.take_zero, List.nil_append, List.cons.injEq, and_true]
    rw [show 48 + ((bl s)[0].toNat - 48) = (bl s)[0].toNat by omega]
    exact UInt8.ofNat_toNat
  | succ k ih =>
    have h0' : byt s 0 ≠ 48 := h0.resolve_left (by omega)
    have hd := h
    rw [digN, Bool.and_eq_true, Bool.and_eq_true, decide_eq_true_eq, decide_eq_true_eq] at hd
    have hfirst : 49 ≤ byt s 0 := by
      have : ∀ j, digN s (j + 1) = true → 48 ≤ byt s 0 := by
        intro j
        induction j with
        | zero => intro h; simp only [digN, Bool.and_eq_true, decide_eq_true_eq] at h; omega
        | succ j ih => intro h; rw [digN, Bool.and_eq_true] at h; exact ih h.1
      have := this _ h
      omega
    have hi := ih (by omega) hd.1 (.inr h0')
    have hb := byt_at (s := s) (k := k + 1) (by omega)
    have hlow := numN_low hfirst k hd.1
    have hp : (1 : Int) ≤ 10 ^ k := by
      have : (1 : Nat) ≤ 10 ^ k := Nat.one_le_pow _ _ (by decide)
      have e : ((10 ^ k : Nat) : Int) = (10 : Int) ^ k := by simp
      omega
    have hn : (numN s (k + 1 + 1)).toNat = 10 * (numN s (k + 1)).toNat + ((bl s)[k + 1].toNat - 48) := by rw [numN]; omega
    have hge : ¬ (numN s (k + 1 + 1)).toNat < 10 := by omega
    rw [Lib.decDigits, dif_neg hge, List.take_succ_eq_append_getElem (by omega), ← hi]
    have e1 : (numN s (k + 1 + 1)).toNat / 10 = (numN s (k + 1)).toNat := by omega
    have e2 : 48 + (numN s (k + 1 + 1)).toNat % 10 = (bl s)[k + 1].toNat := by omega
    rw [e1, e2]
    congr 1
    simp only [List.cons.injEq, and_true]
    exact UInt8.ofNat_toNat
theorem itoa_of_tells {s : ByteArray} {n : Int} (h : tellsN s = some n) : itoaB n = s := by
  unfold tellsN at h
  split at h
  · cases h
  rename_i hs
  split at h
  · rename_i hd
    have hn : numN s s.size = n := Option.some.inj h
    have hlen : (bl s).length = s.size := Array.length_toList
    obtain ⟨k, hk⟩ : ∃ k, s.size = k + 1 := ⟨s.size - 1, by omega⟩
    rw [hk] at hd hn
    have hh := dec_num (s := s) k (by omega) hd (by
      by_cases h0 : k = 0
      · exact .inl h0
      · exact .inr (fun e => hs (.inr (.inr ⟨by omega, e⟩))))
    rw [hn, List.take_of_length_le (by omega)] at hh
    have h0 : 0 ≤ n := by have := (numN_bd hd).1; omega
    apply ba_eq
    unfold itoaB
    rw [bl_mk]
    obtain ⟨u, rfl⟩ : ∃ u : Nat, n = u := ⟨n.toNat, by omega⟩
    rw [Lib.itoa_nonneg]
    simpa using hh
  · cases h
theorem all_of_tells {ws : List ByteArray} {ns : List Int} (h : tellAll ws = some ns) : ws = ns.map itoaB := by
  induction ws generalizing ns with
  | nil => simp [tellAll] at h; subst h; rfl
  | cons a l ih =>
    unfold tellAll at h
    split at h
    · rename_i n ms h1 h2
      cases h
      rw [List.map_cons, itoa_of_tells h1, ← ih h2]
    · cases h
theorem itoa_byte : ((List.range 256).all fun n => tellsN (itoaB (n : Int)) == some (n : Int) && (bl (itoaB (n : Int))).all (fun b => b != 32 && b != 10) && sortN (itoaB (n : Int)) == 0) = true := by kernel_rfl
/-- A word that holds neither a blank nor a line's end. -/
def Word (w : ByteArray) : Prop := (32 : UInt8) ∉ bl w ∧ (10 : UInt8) ∉ bl w
theorem itoa_near {n : Int} (h0 : 0 ≤ n) (h1 : n ≤ 255) : tellsN (itoaB n) = some n ∧ Word (itoaB n) ∧ sortN (itoaB n) = 0 := by
  obtain ⟨k, rfl⟩ : ∃ k : Nat, n = k := ⟨n.toNat, by omega⟩
  have h := List.all_eq_true.1 itoa_byte k (List.mem_range.2 (by omega))
  simp only [Bool.and_eq_true, beq_iff_eq, List.all_eq_true, bne_iff_ne] at h
  exact ⟨h.1.1, ⟨fun e => (h.1.2 _ e).1 rfl, fun e => (h.1.2 _ e).2 rfl⟩, h.2⟩
theorem kind_byte : ((List.range 24).all fun j => j == 0 || (kindN (kindB j) == j && (bl (kindB j)).all (fun b => b != 32 && b != 10))) = true := by kernel_rfl
theorem kind_near {j : Nat} (h0 : 1 ≤ j) (h1 : j ≤ 23) : kindN (kindB j) = j ∧ Word (kindB j) := by
  have h := List.all_eq_true.1 kind_byte j (List.mem_range.2 (by omega))
  simp only [Bool.or_eq_true, Bool.and_eq_true, beq_iff_eq, List.all_eq_true, bne_iff_ne] at h
  rcases h with h | h
  · omega
  · exact ⟨h.1, fun e => (h.2 _ e).1 rfl, fun e => (h.2 _ e).2 rfl⟩
theorem sort_byte : ((List.range 5).all fun j => j == 0 || (sortN (sortB j) == j && (bl (sortB j)).all (fun b => b != 32 && b != 10))) = true := by kernel_rfl
theorem sort_near {j : Nat} (h0 : 1 ≤ j) (h1 : j ≤ 4) : sortN (sortB j) = j ∧ Word (sortB j) := by
  have h := List.all_eq_true.1 sort_byte j (List.mem_range.2 (by omega))
  simp only [Bool.or_eq_true, Bool.and_eq_true, beq_iff_eq, List.all_eq_true, bne_iff_ne] at h
  rcases h with h | h
  · omega
  · exact ⟨h.1, fun e => (h.2 _ e).1 rfl, fun e => (h.2 _ e).2 rfl⟩
theorem findW_is {B : Nat → ByteArray} {s : ByteArray} {f k j : Nat} (h : findW B s f k = j) (hj : j ≠ 0) : B j = s := by
  induction f generalizing k with
  | zero => exact absurd h.symm hj
  | succ f ih =>
    unfold findW at h
    split at h
    · rename_i e; rw [← h]; exact e
    · exact ih h
/-! Words and lines. -/
def joinL (c : UInt8) : List (List UInt8) → List UInt8
  | [] => []
  | [x] => x
  | x :: y :: t => x ++ c :: joinL c (y :: t)
theorem joinL_cons (c : UInt8) (x : List UInt8) {t : List (List UInt8)} (h : t ≠ []) : joinL c (x :: t) = x ++ c :: joinL c t := by
  cases t with
  | nil => exact absurd rfl h
  | cons y t => rfl
theorem joinL_head (c b : UInt8) (x : List UInt8) (t : List (List UInt8)) : joinL c ((b :: x) :: t) = b :: joinL c (x :: t) := by
  cases t with
  | nil => rfl
  | cons y t => rfl
theorem join_split (c : UInt8) (l : List UInt8) : joinL c (splitL c l) = l := by
  induction l with
  | nil => rfl
  | cons b l ih =>
    by_cases h : b = c
    · rw [splitL_yes l h, joinL_cons c [] (splitL_ne c l), ih, h]
      rfl
    · cases hs : splitL c l with
      | nil => exact absurd hs (splitL_ne c l)
      | cons x t =>
        rw [hs] at ih
        rw [splitL_no h hs, joinL_head, ih]
theorem split_inj {c : UInt8} {a b : List UInt8} (h : splitL c a = splitL c b) : a = b := by rw [← join_split c a, h, join_split]
def lnW (ws : List ByteArray) : List UInt8 := lineN ws ws.length
theorem lineN_flat (ws : List ByteArray) : ∀ k, k ≤ ws.length → ∀ a : ByteArray, lineN (a :: ws) (k + 1) = bl a ++ (ws.take k).flatMap (fun w => 32 :: bl w) := by
  intro k
  induction k with
  | zero => intro _ a; simp [lineN]
  | succ k ih =>
    intro hk a
    rw [lineN_succ (k := k + 1) (by simp; omega), ih (by omega) a, if_neg (by omega), List.take_succ_eq_append_getElem (by omega), List.flatMap_append]
    simp [List.append_assoc]
theorem lnW_cons (a : ByteArray) (ws : List ByteArray) : lnW (a :: ws) = bl a ++ ws.flatMap (fun w => 32 :: bl w) := by
  unfold lnW
  rw [List.length_cons, lineN_flat ws ws.length (Nat.le_refl _), List.take_length]
theorem lnW_join : ∀ (ws : List ByteArray), ws ≠ [] → lnW ws = joinL 32 (ws.map bl)
  | [], h => absurd rfl h
  | [a], _ => by rw [lnW_cons]; simp [joinL]
  | a :: b :: t, _ => by
    have ih := lnW_join (b :: t) (by simp)
    rw [List.map_cons, joinL_cons 32 _ (by simp), ← ih, lnW_cons, lnW_cons, List.flatMap_cons, List.cons_append]
theorem split_words {a : List UInt8} {ws : List (List UInt8)} (ha : (32 : UInt8) ∉ a) (hw : ∀ w ∈ ws, (32 : UInt8) ∉ w) : splitL 32 (a ++ ws.flatMap (fun w => 32 :: w)) = a :: ws := by
  induction ws generalizing a with
  | nil => simpa using splitL_one ha
  | cons w ws ih =>
    rw [List.flatMap_cons]
    show splitL 32 (a ++ (32 :: w ++ _)) = _
    rw [List.cons_append, splitL_app ha, ih (hw w (List.mem_cons_self ..)) (fun x hx => hw x (List.mem_cons_of_mem _ hx))]
/-- Words that can stand on a line. -/
def Line (ws : List ByteArray) : Prop := ws ≠ [] ∧ ∀ w ∈ ws, Word w
theorem Line.split {ws : List ByteArray} (h : Line ws) : splitL 32 (lnW ws) = ws.map bl := by
  cases ws with
  | nil => exact absurd rfl h.1
  | cons a t =>
    have := split_words (a := bl a) (ws := t.map bl) (h.2 a (List.mem_cons_self ..)).1 (fun w hw => by
      obtain ⟨x, hx, rfl⟩ := List.mem_map.1 hw
      exact (h.2 x (List.mem_cons_of_mem _ hx)).1)
    rw [lnW_cons, List.map_cons, ← this, List.flatMap_map]
theorem Line.ten {ws : List ByteArray} (h : Line ws) : (10 : UInt8) ∉ lnW ws := by
  cases ws with
  | nil => exact absurd rfl h.1
  | cons a t =>
    rw [lnW_cons]
    intro e
    rcases List.mem_append.1 e with e | e
    · exact (h.2 a (List.mem_cons_self ..)).2 e
    · obtain ⟨w, hw, hm⟩ := List.mem_flatMap.1 e
      rcases List.mem_cons.1 hm with e | e
      · exact absurd e (by decide)
      · exact (h.2 w (List.mem_cons_of_mem _ hw)).2 e
/-- A text of lines. -/
def textW (L : List (List ByteArray)) : List UInt8 := L.flatMap fun ws => lnW ws ++ [10]
theorem textW_cons (ws : List ByteArray) (L : List (List ByteArray)) : textW (ws :: L) = lnW ws ++ 10 :: textW L := by
  unfold textW
  rw [List.flatMap_cons, List.append_assoc]
  rfl
theorem textW_app (L : List (List ByteArray)) (ws : List ByteArray) : textW (L ++ [ws]) = textW L ++ (lnW ws ++ [10]) := by
  unfold textW
  rw [List.flatMap_append]
  simp
/-- What lines make of a model. -/
def foldL (m : Md) : List (List ByteArray) → Option Md
  | [] => some m
  | ws :: L => match m.line ws with | none => none | some m' => foldL m' L
theorem foldL_app {m m' : Md} {L : List (List ByteArray)} {ws : List ByteArray} (h : foldL m L = some m') : foldL m (L ++ [ws]) = m'.line ws := by
  induction L generalizing m with
  | nil =>
    simp only [foldL, Option.some.injEq] at h
    subst h
    rw [List.nil_append, foldL]
    cases m.line ws <;> rfl
  | cons x L ih =>
    rw [List.cons_append, foldL]
    rw [foldL] at h
    cases hx : m.line x with
    | none => rw [hx] at h; cases h
    | some m1 => rw [hx] at h; exact ih h
theorem size_bl (s : ByteArray) : s.size = (bl s).length := Array.length_toList.symm
theorem read_text {L : List (List ByteArray)} {m m' : Md} (k : Nat) (hL : ∀ ws ∈ L, Line ws) (h : foldL m L = some m') (s : ByteArray) (hs : bl s = textW L) : readM m s k = .ok m' := by
  induction L generalizing m k s with
  | nil =>
    simp only [foldL, Option.some.injEq] at h
    subst h
    exact readM_nil (by rw [size_bl, hs]; rfl)
  | cons ws L ih =>
    rw [textW_cons] at hs
    have hw := hL ws (List.mem_cons_self ..)
    have h0 : s.size ≠ 0 := by rw [size_bl, hs, List.length_append, List.length_cons]; omega
    have hsp := splitL_app (y := textW L) hw.ten
    rw [← hs] at hsp
    rcases line_split s with ⟨_, h2⟩ | ⟨he, h2⟩
    · rw [h2] at hsp
      exact absurd (List.cons.inj hsp).2.symm (splitL_ne _ _)
    · rw [h2] at hsp
      obtain ⟨e1, e2⟩ := List.cons.inj hsp
      have e3 : wordsOf (lineOf s) = ws := map_bl_inj (by rw [words_split, e1, hw.split])
      rw [foldL] at h
      cases hx : m.line ws with
      | none => rw [hx] at h; cases h
      | some m1 =>
        rw [hx] at h
        rw [readM_some h0 he (by rw [e3]; exact hx)]
        exact ih (k + 1) (fun q hq => hL q (List.mem_cons_of_mem _ hq)) h (restOf s) (split_inj e2)
theorem text_read : ∀ (n : Nat) (s : ByteArray) (m m' : Md) (k : Nat), s.size ≤ n → readM m s k = .ok m' → ∃ L, bl s = textW L ∧ foldL m L = some m' := by
  intro n
  induction n with
  | zero =>
    intro s m m' k hn h
    have h0 : s.size = 0 := by omega
    rw [readM_nil h0] at h
    cases h
    exact ⟨[], List.length_eq_zero_iff.1 (by rw [← size_bl]; exact h0), rfl⟩
  | succ n ih =>
    intro s m m' k hn h
    by_cases h0 : s.size = 0
    · rw [readM_nil h0] at h
      cases h
      exact ⟨[], List.length_eq_zero_iff.1 (by rw [← size_bl]; exact h0), rfl⟩
    · rcases line_split s with ⟨he, _⟩ | ⟨he, h2⟩
      · rw [readM_no h0 he] at h
        cases h
      · cases hl : m.line (wordsOf (lineOf s)) with
        | none => rw [readM_none h0 he hl] at h; cases h
        | some m1 =>
          rw [readM_some h0 he hl] at h
          have hr := rest_size he
          obtain ⟨L, hL, hf⟩ := ih (restOf s) m1 m' (k + 1) (by omega) h
          have hne : wordsOf (lineOf s) ≠ [] := fun e => by
            have := words_split (lineOf s)
            rw [e] at this
            exact splitL_ne _ _ this.symm
          refine ⟨wordsOf (lineOf s) :: L, ?_, by rw [foldL, hl]; exact hf⟩
          rw [textW_cons, lnW_join _ hne, words_split, join_split, ← hL]
          conv => lhs; rw [← join_split 10 (bl s), h2, joinL_cons 10 _ (splitL_ne _ _), join_split]
/-! The text of a model, a line more. -/
theorem linesT_more {s : ByteArray} {L M : List (List Int)} (k : Nat) (hk : k ≤ L.length) : linesT s (L ++ M) k = linesT s L k := by
  induction k with
  | zero => rfl
  | succ k ih =>
    rw [linesT_succ (by simp; omega), linesT_succ (by omega), ih (by omega), List.getElem_append_left (by omega)]
theorem linesT_app (s : ByteArray) (L : List (List Int)) (r : List Int) : linesT s (L ++ [r]) (L.length + 1) = linesT s L L.length ++ lineT s r := by
  rw [linesT_succ (by simp), linesT_more _ (Nat.le_refl _)]
  simp
theorem nodesT_more {ns ms : List Ev.Nd} (k : Nat) (hk : k ≤ ns.length) : nodesT (ns ++ ms) k = nodesT ns k := by
  induction k with
  | zero => rfl
  | succ k ih =>
    rw [nodesT_succ (by simp; omega), nodesT_succ (by omega), ih (by omega), List.getElem_append_left (by omega)]
theorem nodesT_app (ns : List Ev.Nd) (x : Ev.Nd) : nodesT (ns ++ [x]) (ns.length + 1) = nodesT ns ns.length ++ nodeT ns.length x := by
  rw [nodesT_succ (by simp), nodesT_more _ (Nat.le_refl _)]
  simp
theorem pairL_app (l : List (Int × Int)) (p : Int × Int) : pairL (l ++ [p]) = pairL l ++ [[p.1, p.2]] := by simp [pairL]
theorem markL_app (l : List Int) (n : Int) : markL (l ++ [n]) = markL l ++ [[n]] := by simp [markL]
theorem pairs_more (s : ByteArray) (l : List (Int × Int)) (p : Int × Int) : linesT s (pairL (l ++ [p])) (l ++ [p]).length = linesT s (pairL l) l.length ++ lineT s [p.1, p.2] := by
  have h := linesT_app s (pairL l) [p.1, p.2]
  have e : (pairL l).length = l.length := by simp [pairL]
  rw [pairL_app, List.length_append, ← e]
  exact h
theorem marks_more (s : ByteArray) (l : List Int) (n : Int) : linesT s (markL (l ++ [n])) (l ++ [n]).length = linesT s (markL l) l.length ++ lineT s [n] := by
  have h := linesT_app s (markL l) [n]
  have e : (markL l).length = l.length := by simp [markL]
  rw [markL_app, List.length_append, ← e]
  exact h
theorem lineT_lnW (s : ByteArray) (ns : List Int) : lineT s ns = lnW (s :: ns.map itoaB) ++ [10] := by
  unfold lineT lnW
  rw [List.length_cons, List.length_map]
theorem nodeT_lnW (i : Nat) (x : Ev.Nd) : nodeT i x = lnW (wordsD (i : Int) (toD x) (manyN (toD x).k)) ++ [10] := rfl
theorem words_at (k : Nat) (ns : List Int) (hl : ns.length = manyN (k : Int)) (i : Nat) (hi : i < ns.length) : (toD (mkNd k ns)).at' (offN (k : Int) i) = ns[i] := by
  have hb := takes_bd (k : Int)
  have hg : ∀ j (h : j < ns.length), ns.getD j 0 = ns[j] := fun j h => by rw [List.getD, List.getElem?_eq_getElem h]; rfl
  have hm : ns.length = 1 + (Ev.takes (k : Int)).toNat + if hasN (k : Int) then 1 else 0 := hl
  unfold offN
  by_cases h : i ≤ (Ev.takes (k : Int)).toNat
  · rw [if_pos h]
    have h4 : i = 0 ∨ i = 1 ∨ i = 2 ∨ i = 3 := by omega
    rcases h4 with rfl | rfl | rfl | rfl
    · show ns.getD 0 0 = _; exact hg 0 hi
    · show (if 1 ≤ (Ev.takes (k : Int)).toNat then ns.getD 1 0 else 0) = _; rw [if_pos h]; exact hg 1 hi
    · show (if 2 ≤ (Ev.takes (k : Int)).toNat then ns.getD 2 0 else 0) = _; rw [if_pos h]; exact hg 2 hi
    · show (if 3 ≤ (Ev.takes (k : Int)).toNat then ns.getD 3 0 else 0) = _; rw [if_pos h]; exact hg 3 hi
  · rw [if_neg h]
    show (if hasN (k : Int) = true then ns.getD ((Ev.takes (k : Int)).toNat + 1) 0 else 0) = _
    have hh : hasN (k : Int) = true := by
      cases e : hasN (k : Int) with
      | true => rfl
      | false => rw [e] at hm; simp at hm; omega
    rw [if_pos hh]
    rw [hh] at hm
    simp at hm
    obtain rfl : i = (Ev.takes (k : Int)).toNat + 1 := by omega
    exact hg _ hi
theorem words_mk (k : Nat) (num : Int) (ns : List Int) (hl : ns.length = manyN (k : Int)) : wordsD num (toD (mkNd k ns)) (manyN (toD (mkNd k ns)).k) = itoaB num :: kindB k :: ns.map itoaB := by
  have e : (toD (mkNd k ns)).k = k := by show ((k : Int)).toNat = k; simp
  unfold wordsD
  rw [e]
  show itoaB num :: kindB k :: (List.range (manyN (k : Int))).map (fun i => itoaB ((toD (mkNd k ns)).at' (offN (k : Int) i))) = _
  congr 2
  apply List.ext_getElem
  · simp [hl]
  · intro i h1 h2
    simp only [List.getElem_map, List.getElem_range]
    rw [words_at k ns hl i (by simpa using h2)]
/-- What is so of a model while it is read: what stands behind is not there yet. -/
structure Rd (m : Md) (P : List UInt8) : Prop where
  text : modelT m.ns m.is m.xs m.bs m.hs = P
  low : (m.last ≤ 3 → m.hs = []) ∧ (m.last ≤ 2 → m.bs = []) ∧ (m.last ≤ 1 → m.xs = []) ∧ (m.last ≤ 0 → m.is = [])
theorem Rd.line {m m' : Md} {P : List UInt8} {ws : List ByteArray} (h : Rd m P) (hl : m.line ws = some m') : Rd m' (P ++ (lnW ws ++ [10])) := by
  obtain ⟨ht, l3, l2, l1, l0⟩ := h
  cases ws with
  | nil => cases hl
  | cons a r =>
    unfold Md.line at hl
    dsimp only at hl
    split at hl
    · cases hl
    rename_i hlast
    split at hl
    · rename_i hs
      split at hl
      · rename_i x y htl
        cases hl
        have ha : sortB 1 = a := findW_is hs (by decide)
        have hr := all_of_tells htl
        rw [hs] at hlast
        refine ⟨?_, fun _ => l3 (by omega), fun _ => l2 (by omega), fun _ => l1 (by omega), fun (h : 1 ≤ 0) => by omega⟩
        subst hr ha
        rw [← ht]
        unfold modelT
        dsimp only
        rw [l3 (by omega), l2 (by omega), l1 (by omega), pairs_more, lineT_lnW]
        simp [linesT, List.append_assoc]
      · cases hl
    · rename_i hs
      split at hl
      · rename_i x y htl
        cases hl
        have ha : sortB 2 = a := findW_is hs (by decide)
        have hr := all_of_tells htl
        rw [hs] at hlast
        refine ⟨?_, fun _ => l3 (by omega), fun _ => l2 (by omega), fun (h : 2 ≤ 1) => by omega, fun (h : 2 ≤ 0) => by omega⟩
        subst hr ha
        rw [← ht]
        unfold modelT
        dsimp only
        rw [l3 (by omega), l2 (by omega), pairs_more, lineT_lnW]
        simp [linesT, List.append_assoc]
      · cases hl
    · rename_i hs
      split at hl
      · rename_i x htl
        cases hl
        have ha : sortB 3 = a := findW_is hs (by decide)
        have hr := all_of_tells htl
        rw [hs] at hlast
        refine ⟨?_, fun _ => l3 (by omega), fun (h : 3 ≤ 2) => by omega, fun (h : 3 ≤ 1) => by omega, fun (h : 3 ≤ 0) => by omega⟩
        subst hr ha
        rw [← ht]
        unfold modelT
        dsimp only
        rw [l3 (by omega), marks_more, lineT_lnW]
        simp [linesT, List.append_assoc]
      · cases hl
    · rename_i hs
      split at hl
      · rename_i x htl
        cases hl
        have ha : sortB 4 = a := findW_is hs (by decide)
        have hr := all_of_tells htl
        refine ⟨?_, fun (h : 4 ≤ 3) => by omega, fun (h : 4 ≤ 2) => by omega, fun (h : 4 ≤ 1) => by omega, fun (h : 4 ≤ 0) => by omega⟩
        subst hr ha
        rw [← ht]
        unfold modelT
        dsimp only
        rw [marks_more, lineT_lnW]
        simp [List.append_assoc]
      · cases hl
    · rename_i n1 n2 n3 n4
      have hb := sortN_bd a
      have hs : sortN a = 0 := by
        have h1 : sortN a ≠ 1 := n1
        have h2 : sortN a ≠ 2 := n2
        have h3 : sortN a ≠ 3 := n3
        have h4 : sortN a ≠ 4 := n4
        omega
      rw [hs] at hl hlast
      unfold Md.node at hl
      dsimp only at hl
      split at hl
      · rename_i a' b rest hab
        cases hab
        split at hl
        · rename_i hc
          cases hl
          obtain ⟨c1, c2, c3⟩ := hc
          cases hta : tellAll rest with
          | none => unfold readB at c3; rw [hta] at c3; cases c3
          | some ns =>
            have hlen : ns.length = manyN ((kindN b : Nat) : Int) := by unfold readB at c3; rw [hta] at c3; simpa using c3
            have hr := all_of_tells hta
            have ha := itoa_of_tells c1
            have hb2 : kindB (kindN b) = b := findW_is (show findW kindB b 23 1 = kindN b from rfl) c2
            refine ⟨?_, fun _ => l3 (by omega), fun _ => l2 (by omega), fun _ => l1 (by omega), fun _ => l0 (by omega)⟩
            rw [← ht]
            unfold modelT
            dsimp only [Option.getD]
            have hw := words_mk (kindN b) (m.ns.length : Int) ns hlen
            rw [l3 (by omega), l2 (by omega), l1 (by omega), l0 (by omega), List.length_append, List.length_cons, List.length_nil, Nat.zero_add, nodesT_app, nodeT_lnW, hw, ha, hb2, ← hr]
            simp [linesT]
        · cases hl
      · cases hl
theorem Rd.fold {L : List (List ByteArray)} {m m' : Md} {P : List UInt8} (h : Rd m P) (hf : foldL m L = some m') : Rd m' (P ++ textW L) := by
  induction L generalizing m P with
  | nil =>
    simp only [foldL, Option.some.injEq] at hf
    subst hf
    simpa [textW] using h
  | cons ws L ih =>
    rw [foldL] at hf
    cases hx : m.line ws with
    | none => rw [hx] at hf; cases hf
    | some m1 =>
      rw [hx] at hf
      have := ih (h.line hx) hf
      rw [textW_cons]
      simpa [List.append_assoc] using this
/-- What is read is written as it stood. -/
theorem read_back {s : ByteArray} {m : Md} {k : Nat} (h : readM Md0 s k = .ok m) : modelT m.ns m.is m.xs m.bs m.hs = bl s := by
  obtain ⟨L, hL, hf⟩ := text_read s.size s Md0 m k (Nat.le_refl _) h
  have h0 : Rd Md0 [] := ⟨rfl, fun _ => rfl, fun _ => rfl, fun _ => rfl, fun _ => rfl⟩
  have := (h0.fold hf).text
  rw [this, hL]
  rfl
/-! What is written is read as it was. -/
def Reach (m : Md) (P : List UInt8) : Prop := ∃ L, (∀ ws ∈ L, Line ws) ∧ textW L = P ∧ foldL Md0 L = some m
theorem Reach.line {m m' : Md} {P : List UInt8} {ws : List ByteArray} (h : Reach m P) (hw : Line ws) (hl : m.line ws = some m') : Reach m' (P ++ (lnW ws ++ [10])) := by
  obtain ⟨L, h1, h2, h3⟩ := h
  refine ⟨L ++ [ws], fun q hq => ?_, by rw [textW_app, h2], by rw [foldL_app h3, hl]⟩
  rcases List.mem_append.1 hq with hq | hq
  · exact h1 q hq
  · rw [List.mem_singleton.1 hq]; exact hw
theorem tellAll_map {ns : List Int} (h : ∀ n ∈ ns, 0 ≤ n ∧ n ≤ 255) : tellAll (ns.map itoaB) = some ns := by
  induction ns with
  | nil => rfl
  | cons a l ih =>
    have ha := h a (List.mem_cons_self ..)
    rw [List.map_cons, tellAll, (itoa_near ha.1 ha.2).1, ih (fun n hn => h n (List.mem_cons_of_mem _ hn))]
theorem line_near {s : ByteArray} (hs : Word s) {ns : List Int} (h : ∀ n ∈ ns, 0 ≤ n ∧ n ≤ 255) : Line (s :: ns.map itoaB) := by
  refine ⟨by simp, fun w hw => ?_⟩
  rcases List.mem_cons.1 hw with rfl | hw
  · exact hs
  · obtain ⟨n, hn, rfl⟩ := List.mem_map.1 hw
    exact (itoa_near (h n hn).1 (h n hn).2).2.1
/-- The numbers of a node's line. -/
def valsD (x : Ev.Nd) : List Int := (List.range (manyN x.kind)).map fun i => (toD x).at' (offN x.kind i)
theorem vals_near {i : Nat} {x : Ev.Nd} (h : NdOk i x) (hi : i ≤ 80) : ∀ n ∈ valsD x, 0 ≤ n ∧ n ≤ 255 := by
  intro n hn
  obtain ⟨j, _, rfl⟩ := List.mem_map.1 hn
  obtain ⟨h1, h2, h3, h4, h5, h6⟩ := h
  have ho : 1 ≤ offN x.kind j ∧ offN x.kind j ≤ 5 := by
    have := takes_bd x.kind
    unfold offN
    split <;> omega
  generalize offN x.kind j = o at ho
  have h5' : o = 1 ∨ o = 2 ∨ o = 3 ∨ o = 4 ∨ o = 5 := by omega
  rcases h5' with rfl | rfl | rfl | rfl | rfl
  · show 0 ≤ x.width ∧ x.width ≤ 255; omega
  · show 0 ≤ x.a ∧ x.a ≤ 255; split at h3 <;> omega
  · show 0 ≤ x.b ∧ x.b ≤ 255; split at h4 <;> omega
  · show 0 ≤ x.c ∧ x.c ≤ 255; split at h5 <;> omega
  · show 0 ≤ x.n ∧ x.n ≤ 255; split at h6 <;> omega
theorem mk_vals {i : Nat} {x : Ev.Nd} (h : NdOk i x) : mkNd x.kind.toNat (valsD x) = x := by
  obtain ⟨h1, _, h3, h4, h5, h6⟩ := h
  have hb := takes_bd x.kind
  have ek : ((x.kind.toNat : Nat) : Int) = x.kind := by omega
  have hg : ∀ j, j < manyN x.kind → (valsD x).getD j 0 = (toD x).at' (offN x.kind j) := fun j hj => by
    unfold valsD
    rw [List.getD, List.getElem?_map, List.getElem?_range hj]
    rfl
  have hm : manyN x.kind = 1 + (Ev.takes x.kind).toNat + if hasN x.kind then 1 else 0 := rfl
  have ho : ∀ j, j ≤ (Ev.takes x.kind).toNat → (valsD x).getD j 0 = (toD x).at' (j + 1) := fun j hj => by
    rw [hg j (by rw [hm]; split <;> omega)]
    unfold offN
    rw [if_pos hj]
  obtain ⟨kd, wd, a, b, c, n⟩ := x
  unfold mkNd
  dsimp only at *
  rw [ek]
  congr 1
  · exact ho 0 (by omega)
  · by_cases ht : 1 ≤ (Ev.takes kd).toNat
    · rw [if_pos ht]; exact ho 1 ht
    · rw [if_neg ht]; rw [if_neg (by omega)] at h3; exact h3.symm
  · by_cases ht : 2 ≤ (Ev.takes kd).toNat
    · rw [if_pos ht]; exact ho 2 ht
    · rw [if_neg ht]; rw [if_neg (by omega)] at h4; exact h4.symm
  · by_cases ht : 3 ≤ (Ev.takes kd).toNat
    · rw [if_pos ht]; exact ho 3 ht
    · rw [if_neg ht]; rw [if_neg (by omega)] at h5; exact h5.symm
  · by_cases ht : hasN kd = true
    · rw [if_pos ht, hg _ (by rw [hm, if_pos ht]; omega)]
      unfold offN
      rw [if_neg (by omega)]
      rfl
    · rw [if_neg ht]; rw [if_neg ht] at h6; exact h6.symm
theorem node_line {ns : List Ev.Nd} {x : Ev.Nd} (h : NdOk ns.length x) (hn : ns.length ≤ 80) :
    Line (wordsD (ns.length : Int) (toD x) (manyN (toD x).k)) ∧ (⟨ns, [], [], [], [], 0⟩ : Md).line (wordsD (ns.length : Int) (toD x) (manyN (toD x).k)) = some ⟨ns ++ [x], [], [], [], [], 0⟩ := by
  have h1 := h.kind
  have ek : ((x.kind.toNat : Nat) : Int) = x.kind := by omega
  have hv := vals_near h hn
  have hw : wordsD (ns.length : Int) (toD x) (manyN (toD x).k) = itoaB (ns.length : Int) :: kindB x.kind.toNat :: (valsD x).map itoaB := by
    unfold wordsD valsD
    show itoaB _ :: kindB x.kind.toNat :: (List.range (manyN ((x.kind.toNat : Nat) : Int))).map (fun i => itoaB ((toD x).at' (offN ((x.kind.toNat : Nat) : Int) i))) = _
    rw [ek, List.map_map]
    rfl
  have hi := itoa_near (n := (ns.length : Int)) (by omega) (by omega)
  have hk := kind_near (j := x.kind.toNat) (by omega) (by omega)
  rw [hw]
  refine ⟨⟨by simp, fun w hw => ?_⟩, ?_⟩
  · rcases List.mem_cons.1 hw with rfl | hw
    · exact hi.2.1
    · exact (line_near hk.2 hv).2 w hw
  · unfold Md.line
    dsimp only
    rw [hi.2.2, if_neg (by omega)]
    have hl : (valsD x).length = manyN x.kind := by unfold valsD; rw [List.length_map, List.length_range]
    have hr : readB ((valsD x).map itoaB) (manyN ((x.kind.toNat : Nat) : Int)) = true := by
      unfold readB
      rw [tellAll_map hv, ek]
      simpa using hl
    show (if tellsN (itoaB (ns.length : Int)) = some (ns.length : Int) ∧ kindN (kindB x.kind.toNat) ≠ 0 ∧ readB ((valsD x).map itoaB) (manyN ((kindN (kindB x.kind.toNat) : Nat) : Int)) = true then some (⟨ns ++ [mkNd (kindN (kindB x.kind.toNat)) ((tellAll ((valsD x).map itoaB)).getD [])], [], [], [], [], 0⟩ : Md) else none) = _
    rw [hk.1, if_pos ⟨hi.1, by omega, hr⟩, tellAll_map hv]
    show some (⟨ns ++ [mkNd x.kind.toNat (valsD x)], [], [], [], [], 0⟩ : Md) = _
    rw [mk_vals h]
theorem reach_nodes {ns : List Ev.Nd} (hl : ns.length ≤ 80) (h : ∀ (i : Nat) (hi : i < ns.length), NdOk i ns[i]) : ∀ k, k ≤ ns.length → Reach ⟨ns.take k, [], [], [], [], 0⟩ (nodesT ns k) := by
  intro k
  induction k with
  | zero => intro _; exact ⟨[], fun q hq => absurd hq (List.not_mem_nil), rfl, rfl⟩
  | succ k ih =>
    intro hk
    have hlen : (ns.take k).length = k := by rw [List.length_take]; omega
    have hx := h k (by omega)
    have := node_line (ns := ns.take k) (x := ns[k]) (by rw [hlen]; exact hx) (by omega)
    rw [nodesT_succ (by omega), nodeT_lnW, List.take_succ_eq_append_getElem (by omega)]
    rw [hlen] at this
    exact (ih (by omega)).line this.1 this.2
theorem pair_small {l : List (Int × Int)} (h : ∀ p ∈ l, (0 ≤ p.1 ∧ p.1 < 80) ∧ 0 ≤ p.2 ∧ p.2 < 80) {k : Nat} (hk : k < l.length) : ∀ n ∈ [l[k].1, l[k].2], 0 ≤ n ∧ n ≤ 255 := by
  have := h l[k] (List.getElem_mem hk)
  intro n hn
  simp only [List.mem_cons, List.not_mem_nil, or_false] at hn
  rcases hn with rfl | rfl <;> omega
theorem mark_small {l : List Int} (h : ∀ n ∈ l, 0 ≤ n ∧ n < 80) {k : Nat} (hk : k < l.length) : ∀ n ∈ [l[k]], 0 ≤ n ∧ n ≤ 255 := by
  have := h l[k] (List.getElem_mem hk)
  intro n hn
  simp only [List.mem_cons, List.not_mem_nil, or_false] at hn
  subst hn
  omega
theorem pairs_at {s : ByteArray} {l : List (Int × Int)} {k : Nat} (hk : k < l.length) : linesT s (pairL l) (k + 1) = linesT s (pairL l) k ++ (lnW (s :: [l[k].1, l[k].2].map itoaB) ++ [10]) := by
  rw [linesT_succ (by simp [pairL]; omega), lineT_lnW]
  simp [pairL]
theorem marks_at {s : ByteArray} {l : List Int} {k : Nat} (hk : k < l.length) : linesT s (markL l) (k + 1) = linesT s (markL l) k ++ (lnW (s :: [l[k]].map itoaB) ++ [10]) := by
  rw [linesT_succ (by simp [markL]; omega), lineT_lnW]
  simp [markL]
theorem reach_is {ns : List Ev.Nd} {is : List (Int × Int)} {P : List UInt8} (h : ∀ p ∈ is, (0 ≤ p.1 ∧ p.1 < 80) ∧ 0 ≤ p.2 ∧ p.2 < 80) (h0 : Reach ⟨ns, [], [], [], [], 0⟩ P) : ∀ k, k ≤ is.length → ∃ l, l ≤ 1 ∧ Reach ⟨ns, is.take k, [], [], [], l⟩ (P ++ linesT (sortB 1) (pairL is) k) := by
  intro k
  induction k with
  | zero => intro _; exact ⟨0, by omega, by simpa [linesT] using h0⟩
  | succ k ih =>
    intro hk
    obtain ⟨l, hl, hr⟩ := ih (by omega)
    have hn := pair_small h (show k < is.length by omega)
    refine ⟨1, by omega, ?_⟩
    rw [pairs_at (by omega), ← List.append_assoc]
    refine hr.line (line_near (sort_near (by decide) (by decide)).2 hn) ?_
    unfold Md.line
    dsimp only
    rw [(sort_near (j := 1) (by decide) (by decide)).1, if_neg (by omega)]
    rw [tellAll_map hn, List.take_succ_eq_append_getElem (by omega)]
    rfl
theorem reach_xs {ns : List Ev.Nd} {is xs : List (Int × Int)} {l0 : Nat} {P : List UInt8} (h : ∀ p ∈ xs, (0 ≤ p.1 ∧ p.1 < 80) ∧ 0 ≤ p.2 ∧ p.2 < 80) (hl0 : l0 ≤ 1) (h0 : Reach ⟨ns, is, [], [], [], l0⟩ P) : ∀ k, k ≤ xs.length → ∃ l, l ≤ 2 ∧ Reach ⟨ns, is, xs.take k, [], [], l⟩ (P ++ linesT (sortB 2) (pairL xs) k) := by
  intro k
  induction k with
  | zero => intro _; exact ⟨l0, by omega, by simpa [linesT] using h0⟩
  | succ k ih =>
    intro hk
    obtain ⟨l, hl, hr⟩ := ih (by omega)
    have hn := pair_small h (show k < xs.length by omega)
    refine ⟨2, by omega, ?_⟩
    rw [pairs_at (by omega), ← List.append_assoc]
    refine hr.line (line_near (sort_near (by decide) (by decide)).2 hn) ?_
    unfold Md.line
    dsimp only
    rw [(sort_near (j := 2) (by decide) (by decide)).1, if_neg (by omega)]
    rw [tellAll_map hn, List.take_succ_eq_append_getElem (by omega)]
    rfl
theorem reach_bs {ns : List Ev.Nd} {is xs : List (Int × Int)} {bs : List Int} {l0 : Nat} {P : List UInt8} (h : ∀ n ∈ bs, 0 ≤ n ∧ n < 80) (hl0 : l0 ≤ 2) (h0 : Reach ⟨ns, is, xs, [], [], l0⟩ P) : ∀ k, k ≤ bs.length → ∃ l, l ≤ 3 ∧ Reach ⟨ns, is, xs, bs.take k, [], l⟩ (P ++ linesT (sortB 3) (markL bs) k) := by
  intro k
  induction k with
  | zero => intro _; exact ⟨l0, by omega, by simpa [linesT] using h0⟩
  | succ k ih =>
    intro hk
    obtain ⟨l, hl, hr⟩ := ih (by omega)
    have hn := mark_small h (show k < bs.length by omega)
    refine ⟨3, by omega, ?_⟩
    rw [marks_at (by omega), ← List.append_assoc]
    refine hr.line (line_near (sort_near (by decide) (by decide)).2 hn) ?_
    unfold Md.line
    dsimp only
    rw [(sort_near (j := 3) (by decide) (by decide)).1, if_neg (by omega)]
    rw [tellAll_map hn, List.take_succ_eq_append_getElem (by omega)]
    rfl
theorem reach_hs {ns : List Ev.Nd} {is xs : List (Int × Int)} {bs hs : List Int} {l0 : Nat} {P : List UInt8} (h : ∀ n ∈ hs, 0 ≤ n ∧ n < 80) (hl0 : l0 ≤ 3) (h0 : Reach ⟨ns, is, xs, bs, [], l0⟩ P) : ∀ k, k ≤ hs.length → ∃ l, l ≤ 4 ∧ Reach ⟨ns, is, xs, bs, hs.take k, l⟩ (P ++ linesT (sortB 4) (markL hs) k) := by
  intro k
  induction k with
  | zero => intro _; exact ⟨l0, by omega, by simpa [linesT] using h0⟩
  | succ k ih =>
    intro hk
    obtain ⟨l, hl, hr⟩ := ih (by omega)
    have hn := mark_small h (show k < hs.length by omega)
    refine ⟨4, by omega, ?_⟩
    rw [marks_at (by omega), ← List.append_assoc]
    refine hr.line (line_near (sort_near (by decide) (by decide)).2 hn) ?_
    unfold Md.line
    dsimp only
    rw [(sort_near (j := 4) (by decide) (by decide)).1, if_neg (by omega)]
    rw [tellAll_map hn, List.take_succ_eq_append_getElem (by omega)]
    rfl
theorem back_read {ns : List Ev.Nd} {is xs : List (Int × Int)} {bs hs : List Int} (h : MdOk ns is xs bs hs) (s : ByteArray) (hs' : bl s = modelT ns is xs bs hs) (k : Nat) : ∃ l, readM Md0 s k = .ok ⟨ns, is, xs, bs, hs, l⟩ := by
  have r0 := reach_nodes h.len.1 h.ns ns.length (Nat.le_refl _)
  rw [List.take_length] at r0
  obtain ⟨l1, b1, r1⟩ := reach_is h.is r0 is.length (Nat.le_refl _)
  rw [List.take_length] at r1
  obtain ⟨l2, b2, r2⟩ := reach_xs h.xs b1 r1 xs.length (Nat.le_refl _)
  rw [List.take_length] at r2
  obtain ⟨l3, b3, r3⟩ := reach_bs h.bs b2 r2 bs.length (Nat.le_refl _)
  rw [List.take_length] at r3
  obtain ⟨l4, _, L, e1, e2, e3⟩ := reach_hs h.hs b3 r3 hs.length (Nat.le_refl _)
  rw [List.take_length] at e3
  exact ⟨l4, read_text k e1 e3 s (by rw [hs', e2]; rfl)⟩
end Go.Proofs.YtabnimgpednhjaaDoor
