/- A board of clauses, with watches: lists alone. -/
import Derived.Test.YtdlfjijfdibocaaUaM
namespace Go.Proofs.Ytdlfjijfdibocaa.Pf

/-- A board: its clauses; its steps (number, level, clause); and who watches a number. -/
structure Bd where
  cl : List (List Int)
  sp : List (Int × Int × Int)
  level : Int
  lost : Bool
  spread : Nat
  wt : Int → List (Nat × Int)
def Bd.st (B : Bd) : List Int := B.sp.map (·.1)
def Bd.zero (B : Bd) : List Int := (B.sp.filter (fun s => s.2.1 == 0)).map (·.1)
def Bd.so (B : Bd) (n : Int) : Bool := decide (n ∈ B.st)
def upd {α : Type} (f : Int → α) (k : Int) (v : α) : Int → α := fun x => if x = k then v else f x
def Bd.put (B : Bd) (n c : Int) : Bd := { B with sp := B.sp ++ [(n, B.level, c)] }
theorem so_iff {B : Bd} {n : Int} : B.so n = true ↔ n ∈ B.st := by simp [Bd.so]
theorem so_no {B : Bd} {n : Int} : B.so n = false ↔ n ∉ B.st := by simp [Bd.so]
theorem upd_same {α : Type} (f : Int → α) (k : Int) (v : α) : upd f k v k = v := by simp [upd]
theorem upd_ne {α : Type} (f : Int → α) {k x : Int} (v : α) (h : x ≠ k) : upd f k v x = f x := by simp [upd, h]
theorem st_put (B : Bd) (n c : Int) : (B.put n c).st = B.st ++ [n] := by simp [Bd.put, Bd.st]
theorem zero_put (B : Bd) (n c : Int) : (B.put n c).zero = if B.level = 0 then B.zero ++ [n] else B.zero := by
  unfold Bd.put Bd.zero
  by_cases h : B.level = 0
  · simp [List.filter_append, h]
  · simp [List.filter_append, h]
theorem zero_sub {B : Bd} {n : Int} (h : n ∈ B.zero) : n ∈ B.st := by
  obtain ⟨s, hs, rfl⟩ := List.mem_map.1 h
  exact List.mem_map.2 ⟨s, (List.mem_filter.1 hs).1, rfl⟩

def Num (V x : Int) : Prop := x ≠ 0 ∧ -V ≤ x ∧ x ≤ V
theorem Num.neg {V x : Int} (h : Num V x) : Num V (-x) := ⟨by have := h.1; omega, by have := h.2.2; omega, by have := h.2.1; omega⟩
/-- A number that a clause watches: one of its first two. -/
def Wat (n : Int) : List Int → Prop
  | a :: b :: _ => n = a ∨ n = b
  | _ => False
theorem Wat.mem {n : Int} {c : List Int} (h : Wat n c) : n ∈ c := by
  match c, h with
  | a :: b :: r, h => rcases h with rfl | rfl <;> simp
structure Wf (V : Int) (B : Bd) : Prop where
  cl : ∀ c ∈ B.cl, c.Nodup ∧ 1 ≤ c.length ∧ c.length ≤ 200 ∧ ∀ x ∈ c, Num V x
  sn : B.st.Nodup
  sc : ∀ n ∈ B.st, -n ∉ B.st
  sr : ∀ n ∈ B.st, Num V n
  sp : B.spread ≤ B.sp.length
  wi : ∀ n, ∀ p ∈ B.wt n, ∃ c, B.cl[p.1]? = some c ∧ Wat n c ∧ p.2 ∈ c ∧ p.2 ≠ n
  wd : ∀ n, ((B.wt n).map (·.1)).Nodup
  wa : ∀ i c, B.cl[i]? = some c → ∀ n, Wat n c → ∃ o, (i, o) ∈ B.wt n
  lv : ∀ s ∈ B.sp, 0 ≤ s.2.1 ∧ s.2.1 ≤ B.level
/-- What the numbers of D, gone on from, have brought. -/
structure Cmp (B : Bd) (D : List Int) : Prop where
  one : ∀ c ∈ B.cl, c.length = 1 → ∀ x ∈ c, x ∈ B.zero
  dn : ∀ n ∈ D, ∀ c ∈ B.cl, Wat (-n) c → ∃ m ∈ c, m ∈ B.st
  dz : ∀ n ∈ D, n ∈ B.zero → ∀ c ∈ B.cl, Wat (-n) c → ∃ m ∈ c, m ∈ B.zero
/-- What is so must be, by what was chosen; and that of level 0 by nothing but the clauses. -/
structure Snd (B : Bd) (ch : Int → Prop) : Prop where
  st : ∀ n ∈ B.st, UP B.cl ch n
  zs : ∀ n ∈ B.zero, UP B.cl (fun _ => False) n

/-- A board that has gone on from all leaves nothing. -/
theorem sat_of {V : Int} {B : Bd} (h : Wf V B) (k : Cmp B B.st) : Sat B.cl (· ∈ B.st) := by
  intro c hc
  obtain ⟨hnd, hl, _, _⟩ := h.cl c hc
  match c, hl, hnd, hc with
  | [x], _, _, hc => exact .inl ⟨x, by simp, zero_sub (k.one _ hc rfl x (by simp))⟩
  | a :: b :: r, _, hnd, hc =>
    by_cases ha : -a ∈ B.st
    · exact .inl (k.dn _ ha _ hc (by rw [Int.neg_neg]; exact .inl rfl))
    · by_cases hb : -b ∈ B.st
      · exact .inl (k.dn _ hb _ hc (by rw [Int.neg_neg]; exact .inr rfl))
      · exact .inr ⟨a, by simp, b, by simp, by simp at hnd; exact fun e => hnd.1.1 e, ha, hb⟩

/-- A clause's watch turned from a number that is not so, if there is one to turn to: the clause then, and that one. -/
def Bd.turnC (B : Bd) (nt : Int) : List Int → List Int × Option Int
  | a :: b :: r =>
    let o := if a = nt then b else a
    if B.so o then (o :: nt :: r, none) else
      match r.findIdx? (fun x => !B.so (-x)) with
      | none => (o :: nt :: r, none)
      | some j => (o :: r.getD j 0 :: r.set j nt, some (r.getD j 0))
  | c => (c, none)
theorem turnC_fst {nt a b : Int} {r : List Int} (hw : Wat nt (a :: b :: r)) (hn : (a :: b :: r).Nodup) :
    ∃ o, o = (if a = nt then b else a) ∧ o ≠ nt ∧ Wat o (a :: b :: r) ∧ (∀ y, y ∈ o :: nt :: r ↔ y ∈ a :: b :: r) ∧ (o :: nt :: r).Nodup ∧ (∀ y, Wat y (a :: b :: r) ↔ (y = o ∨ y = nt)) := by
  have hab : a ≠ b := by intro e; subst e; simp at hn
  rcases hw with rfl | rfl
  · refine ⟨b, by simp, fun e => hab e.symm, .inr rfl, fun y => by simp only [List.mem_cons]; constructor <;> (rintro (h | h | h) <;> simp [h]), ?_, fun y => ?_⟩
    · simp at hn ⊢
      exact ⟨⟨fun e => hab e.symm, hn.2.1⟩, hn.1.2, hn.2.2⟩
    · show (y = nt ∨ y = b) ↔ _
      constructor <;> (rintro (h | h) <;> simp [h])
  · exact ⟨a, by simp [hab], hab, .inl rfl, fun y => Iff.rfl, hn, fun y => Iff.rfl⟩
structure Turned (B : Bd) (nt : Int) (c c' : List Int) (o : Int) (t : Option Int) : Prop where
  mem : ∀ y, y ∈ c' ↔ y ∈ c
  nd : c'.Nodup
  len : c'.length = c.length
  fst : c'.getD 0 0 = o
  ne : o ≠ nt
  old : ∀ y, Wat y c ↔ (y = o ∨ y = nt)
  no : t = none → (∀ y, Wat y c' ↔ (y = o ∨ y = nt)) ∧ (o ∈ B.st ∨ ∀ y ∈ c', y ≠ o → y ≠ nt → -y ∈ B.st)
  yes : ∀ x, t = some x → x ∈ c ∧ x ≠ o ∧ x ≠ nt ∧ -x ∉ B.st ∧ ∀ y, Wat y c' ↔ (y = o ∨ y = x)
theorem nodup_inj {r : List Int} (hn : r.Nodup) {a b : Nat} (ha : a < r.length) (hb : b < r.length) (e : r[a] = r[b]) : a = b := by
  rw [List.nodup_iff_pairwise_ne, List.pairwise_iff_getElem] at hn
  rcases Nat.lt_trichotomy a b with h | h | h
  · exact absurd e (hn a b ha hb h)
  · exact h
  · exact absurd e.symm (hn b a hb ha h)
theorem set_mem {r : List Int} {j : Nat} (hj : j < r.length) (v y : Int) (hn : r.Nodup) (hv : v ∉ r) : y ∈ r.set j v ↔ (y = v ∨ (y ∈ r ∧ y ≠ r[j])) := by
  constructor
  · intro h
    obtain ⟨k, hk, rfl⟩ := List.getElem_of_mem h
    rw [List.length_set] at hk
    rw [List.getElem_set]
    split
    · exact .inl rfl
    · rename_i hjk
      refine .inr ⟨List.getElem_mem hk, fun e => hjk ?_⟩
      exact (nodup_inj hn hk hj e).symm
  · rintro (rfl | ⟨h, hne⟩)
    · exact List.mem_set hj y
    · obtain ⟨k, hk, rfl⟩ := List.getElem_of_mem h
      have hjk : j ≠ k := fun e => hne (by subst e; rfl)
      exact List.mem_iff_getElem.2 ⟨k, by rw [List.length_set]; exact hk, by rw [List.getElem_set_ne hjk]⟩
theorem set_nodup {r : List Int} (j : Nat) (v : Int) (hn : r.Nodup) (hv : v ∉ r) : (r.set j v).Nodup := by
  rw [List.nodup_iff_pairwise_ne, List.pairwise_iff_getElem] at *
  intro a b ha hb hab
  rw [List.length_set] at ha hb
  rw [List.getElem_set, List.getElem_set]
  split
  · split
    · omega
    · intro e; exact hv (e ▸ List.getElem_mem hb)
  · split
    · intro e; exact hv (e ▸ List.getElem_mem ha)
    · exact hn a b ha hb hab
theorem turned {B : Bd} {nt : Int} {c : List Int} (hw : Wat nt c) (hn : c.Nodup) : ∃ o, Turned B nt c (B.turnC nt c).1 o (B.turnC nt c).2 := by
  match c, hw, hn with
  | a :: b :: r, hw, hn =>
    obtain ⟨o, ho, h1, h2, h3, h4, h5⟩ := turnC_fst hw hn
    unfold Bd.turnC
    simp only [← ho]
    have hl : ∀ l : List Int, l.length = r.length → (o :: nt :: l).length = (a :: b :: r).length := fun l hl => by simp [hl]
    by_cases hs : B.so o = true
    · rw [if_pos hs]
      exact ⟨o, h3, h4, by simp, by simp, h1, h5, fun _ => ⟨fun y => Iff.rfl, .inl (so_iff.1 hs)⟩, fun x h => by cases h⟩
    · rw [if_neg hs]
      cases hf : r.findIdx? (fun x => !B.so (-x)) with
      | none =>
        refine ⟨o, h3, h4, by simp, by simp, h1, h5, fun _ => ⟨fun y => Iff.rfl, .inr fun y hy hyo hyn => ?_⟩, fun x h => by cases h⟩
        have hyr : y ∈ r := by simpa [hyo, hyn] using hy
        have := List.findIdx?_eq_none_iff.1 hf y hyr
        simpa [Bd.so] using this
      | some j =>
        obtain ⟨hj, hp, _⟩ := List.findIdx?_eq_some_iff_getElem.1 hf
        have hg : r.getD j 0 = r[j] := by simp [List.getD, List.getElem?_eq_getElem hj]
        simp only [hg]
        have hx : -r[j] ∉ B.st := by simpa [Bd.so] using hp
        have hnr : r.Nodup := by simp at h4; exact h4.2.2
        have hor : o ∉ r := by simp at h4; exact h4.1.2
        have htr : nt ∉ r := by simp at h4; exact h4.2.1
        have hxm := List.getElem_mem hj
        have hxo : r[j] ≠ o := fun e => hor (e ▸ hxm)
        have hxn : r[j] ≠ nt := fun e => htr (e ▸ hxm)
        refine ⟨o, fun y => ?_, ?_, by simp, by simp, h1, h5, (fun h => by cases h), fun x h => ?_⟩
        · rw [← h3 y]
          simp only [List.mem_cons, set_mem hj nt y hnr htr]
          constructor
          · rintro (h | h | h | ⟨h, _⟩) <;> simp [h]
          · rintro (h | h | h)
            · simp [h]
            · simp [h]
            · by_cases e : y = r[j]
              · simp [e]
              · simp [h, e]
        · simp only [List.nodup_cons, List.mem_cons, set_mem hj nt _ hnr htr, not_or]
          exact ⟨⟨fun e => hxo e.symm, h1, fun h => hor h.1⟩, ⟨hxn, fun h => h.2 rfl⟩, set_nodup j nt hnr htr⟩
        · injection h with h
          subst h
          exact ⟨(h3 _).1 (by simp), hxo, hxn, hx, fun y => Iff.rfl⟩
end Go.Proofs.Ytdlfjijfdibocaa.Pf
