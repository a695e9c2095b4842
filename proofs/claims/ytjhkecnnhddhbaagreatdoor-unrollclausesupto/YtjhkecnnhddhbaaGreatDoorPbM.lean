/- Putting in what must be: lists alone. -/
import Derived.Test.YtjhkecnnhddhbaaGreatDoorCaM
import Derived.Test.YtjhkecnnhddhbaaGreatDoorCeM
import Derived.Maps.OwnSet
import Derived.Deep.RegionLaw
import Derived.Deep.RegionHeld3
import Derived.Deep.QuietTactic
import Derived.BigQuiet
namespace Go.Proofs.YtjhkecnnhddhbaaGreatDoor.Pf
def UP (L : List (List Int)) (A : Int → Prop) (n : Int) : Prop := ∀ P : Int → Prop, (∀ n, A n → P n) → (∀ (n : Int) (c : List Int), c ∈ L → n ∈ c → (∀ m ∈ c, m ≠ n → P (-m)) → P n) → P n
theorem UP.base {L : List (List Int)} {A : Int → Prop} {n : Int} (h : A n) : UP L A n := fun _ h1 _ => h1 n h
theorem UP.unit {L : List (List Int)} {A : Int → Prop} {n : Int} (c : List Int) (hc : c ∈ L) (hn : n ∈ c) (h : ∀ m ∈ c, m ≠ n → UP L A (-m)) : UP L A n := fun P h1 h2 => h2 n c hc hn fun m hm hne => h m hm hne P h1 h2
theorem UP.ind {L : List (List Int)} {A P : Int → Prop} (hb : ∀ n, A n → P n) (hu : ∀ (n : Int) (c : List Int), c ∈ L → n ∈ c → (∀ m ∈ c, m ≠ n → UP L A (-m)) → (∀ m ∈ c, m ≠ n → P (-m)) → P n) {n : Int} (h : UP L A n) : P n :=
 (h (fun n => UP L A n ∧ P n) (fun n h => ⟨UP.base h, hb n h⟩) fun n c hc hn ih => ⟨UP.unit c hc hn fun m hm hne => (ih m hm hne).1, hu n c hc hn (fun m hm hne => (ih m hm hne).1) fun m hm hne => (ih m hm hne).2⟩).2
theorem UP.out {L : List (List Int)} {A : Int → Prop} {n : Int} (h : UP L A n) : A n ∨ ∃ c, c ∈ L ∧ n ∈ c ∧ ∀ m ∈ c, m ≠ n → UP L A (-m) := UP.ind (P := fun n => A n ∨ ∃ c, c ∈ L ∧ n ∈ c ∧ ∀ m ∈ c, m ≠ n → UP L A (-m)) (fun _ h => .inl h) (fun _ c hc hn h _ => .inr ⟨c, hc, hn, h⟩) h
def Confl (L : List (List Int)) (A : Int → Prop) : Prop := (∃ n, A n ∧ A (-n)) ∨ ∃ c ∈ L, ∀ m ∈ c, UP L A (-m)
theorem UP.more {L M : List (List Int)} {A : Int → Prop} (h : ∀ c ∈ L, ∃ d ∈ M, ∀ x, x ∈ d ↔ x ∈ c) {n : Int} (hn : UP L A n) : UP M A n := UP.ind (P := UP M A) (fun _ ha => UP.base ha) (fun _ c hc hm _ ih => by
 obtain ⟨d, hd, hx⟩ := h c hc
 exact UP.unit d hd ((hx _).2 hm) fun m hm' hne => ih m ((hx _).1 hm') hne) hn
end Go.Proofs.YtjhkecnnhddhbaaGreatDoor.Pf

namespace Go.Proofs.YtjhkecnnhddhbaaGreatDoor.Pf
structure Bd where
 cl : List (List Int)
 sp : List (Int × Int × Int)
 level : Int
 lost : Bool
 spread : Nat
 wt : Int → List (Nat × Int)
def Bd.st (B : Bd) : List Int := B.sp.map (·.1)
def Bd.zero (B : Bd) : List Int := (B.sp.filter (fun s => s.2.1 == 0)).map (·.1)
def Bd.so (B : Bd) (n : Int) : Bool := decide (n ∈ B.st)
def upd {α : Type} (f : Int → α) (k : Int) (v : α) : Int → α := fun x => if x = k then v else f x
def Bd.put (B : Bd) (n c : Int) : Bd := { B with sp := B.sp ++ [(n, B.level, c)] }
theorem so_iff {B : Bd} {n : Int} : B.so n = true ↔ n ∈ B.st := by simp [Bd.so]
theorem upd_same {α : Type} (f : Int → α) (k : Int) (v : α) : upd f k v k = v := by simp [upd]
theorem upd_ne {α : Type} (f : Int → α) {k x : Int} (v : α) (h : x ≠ k) : upd f k v x = f x := by simp [upd, h]
theorem st_put (B : Bd) (n c : Int) : (B.put n c).st = B.st ++ [n] := by simp [Bd.put, Bd.st]
theorem zero_put (B : Bd) (n c : Int) : (B.put n c).zero = if B.level = 0 then B.zero ++ [n] else B.zero := by
 unfold Bd.put Bd.zero
 by_cases h : B.level = 0
 · simp [List.filter_append, h]
 · simp [List.filter_append, h]
def Num (V x : Int) : Prop := x ≠ 0 ∧ -V ≤ x ∧ x ≤ V
def Wat (n : Int) : List Int → Prop
 | a :: b :: _ => n = a ∨ n = b
 | _ => False
theorem Wat.mem {n : Int} {c : List Int} (h : Wat n c) : n ∈ c := by
 match c, h with
 | a :: b :: r, h => rcases h with rfl | rfl <;> simp
structure Wf (V : Int) (B : Bd) : Prop where
 cl : ∀ c ∈ B.cl, c.Nodup ∧ 1 ≤ c.length ∧ c.length ≤ 200 ∧ ∀ x ∈ c, Num V x
 sn : B.st.Nodup
 sc : ∀ n ∈ B.st, -n ∉ B.st
 sr : ∀ n ∈ B.st, Num V n
 sp : B.spread ≤ B.sp.length
 wi : ∀ n, ∀ p ∈ B.wt n, ∃ c, B.cl[p.1]? = some c ∧ Wat n c ∧ p.2 ∈ c ∧ p.2 ≠ n
 wd : ∀ n, ((B.wt n).map (·.1)).Nodup
 wa : ∀ i c, B.cl[i]? = some c → ∀ n, Wat n c → ∃ o, (i, o) ∈ B.wt n
 lv : ∀ s ∈ B.sp, 0 ≤ s.2.1 ∧ s.2.1 ≤ B.level
structure Cmp (B : Bd) (D : List Int) : Prop where
 one : ∀ c ∈ B.cl, c.length = 1 → ∀ x ∈ c, x ∈ B.zero
 dn : ∀ n ∈ D, ∀ c ∈ B.cl, Wat (-n) c → ∃ m ∈ c, m ∈ B.st
 dz : ∀ n ∈ D, n ∈ B.zero → ∀ c ∈ B.cl, Wat (-n) c → ∃ m ∈ c, m ∈ B.zero
structure Snd (B : Bd) (ch : Int → Prop) : Prop where
 st : ∀ n ∈ B.st, UP B.cl ch n
 zs : ∀ n ∈ B.zero, UP B.cl (fun _ => False) n
def Bd.turnC (B : Bd) (nt : Int) : List Int → List Int × Option Int
 | a :: b :: r =>
   let o := if a = nt then b else a
   if B.so o then (o :: nt :: r, none) else
     match r.findIdx? (fun x => !B.so (-x)) with
     | none => (o :: nt :: r, none)
     | some j => (o :: r.getD j 0 :: r.set j nt, some (r.getD j 0))
 | c => (c, none)
theorem turnC_fst {nt a b : Int} {r : List Int} (hw : Wat nt (a :: b :: r)) (hn : (a :: b :: r).Nodup) :
   ∃ o, o = (if a = nt then b else a) ∧ o ≠ nt ∧ Wat o (a :: b :: r) ∧ (∀ y, y ∈ o :: nt :: r ↔ y ∈ a :: b :: r) ∧ (o :: nt :: r).Nodup ∧ (∀ y, Wat y (a :: b :: r) ↔ (y = o ∨ y = nt)) := by
 have hab : a ≠ b := by intro e; subst e; simp at hn
 rcases hw with rfl | rfl
 · refine ⟨b, by simp, fun e => hab e.symm, .inr rfl, fun y => by simp only [List.mem_cons]; constructor <;> (rintro (h | h | h) <;> simp [h]), ?_, fun y => ?_⟩
   · simp at hn ⊢
     exact ⟨⟨fun e => hab e.symm, hn.2.1⟩, hn.1.2, hn.2.2⟩
   · show (y = nt ∨ y = b) ↔ _
     constructor <;> (rintro (h | h) <;> simp [h])
 · exact ⟨a, by simp [hab], hab, .inl rfl, fun y => Iff.rfl, hn, fun y => Iff.rfl⟩
structure Turned (B : Bd) (nt : Int) (c c' : List Int) (o : Int) (t : Option Int) : Prop where
 mem : ∀ y, y ∈ c' ↔ y ∈ c
 nd : c'.Nodup
 len : c'.length = c.length
 fst : c'.getD 0 0 = o
 ne : o ≠ nt
 old : ∀ y, Wat y c ↔ (y = o ∨ y = nt)
 no : t = none → (∀ y, Wat y c' ↔ (y = o ∨ y = nt)) ∧ (o ∈ B.st ∨ ∀ y ∈ c', y ≠ o → y ≠ nt → -y ∈ B.st)
 yes : ∀ x, t = some x → x ∈ c ∧ x ≠ o ∧ x ≠ nt ∧ -x ∉ B.st ∧ ∀ y, Wat y c' ↔ (y = o ∨ y = x)
theorem nodup_inj {r : List Int} (hn : r.Nodup) {a b : Nat} (ha : a < r.length) (hb : b < r.length) (e : r[a] = r[b]) : a = b := by
 rw [List.nodup_iff_pairwise_ne, List.pairwise_iff_getElem] at hn
 rcases Nat.lt_trichotomy a b with h | h | h
 · exact absurd e (hn a b ha hb h)
 · exact h
 · exact absurd e.symm (hn b a hb ha h)
theorem set_mem {r : List Int} {j : Nat} (hj : j < r.length) (v y : Int) (hn : r.Nodup) (hv : v ∉ r) : y ∈ r.set j v ↔ (y = v ∨ (y ∈ r ∧ y ≠ r[j])) := by
 constructor
 · intro h
   obtain ⟨k, hk, rfl⟩ := List.getElem_of_mem h
   rw [List.length_set] at hk
   rw [List.getElem_set]
   split
   · exact .inl rfl
   · rename_i hjk
     refine .inr ⟨List.getElem_mem hk, fun e => hjk ?_⟩
     exact (nodup_inj hn hk hj e).symm
 · rintro (rfl | ⟨h, hne⟩)
   · exact List.mem_set hj y
   · obtain ⟨k, hk, rfl⟩ := List.getElem_of_mem h
     have hjk : j ≠ k := fun e => hne (by subst e; rfl)
     exact List.mem_iff_getElem.2 ⟨k, by rw [List.length_set]; exact hk, by rw [List.getElem_set_ne hjk]⟩
theorem set_nodup {r : List Int} (j : Nat) (v : Int) (hn : r.Nodup) (hv : v ∉ r) : (r.set j v).Nodup := by
 rw [List.nodup_iff_pairwise_ne, List.pairwise_iff_getElem] at *
 intro a b ha hb hab
 rw [List.length_set] at ha hb
 rw [List.getElem_set, List.getElem_set]
 split
 · split
   · omega
   · intro e; exact hv (e ▸ List.getElem_mem hb)
 · split
   · intro e; exact hv (e ▸ List.getElem_mem ha)
   · exact hn a b ha hb hab
theorem turned {B : Bd} {nt : Int} {c : List Int} (hw : Wat nt c) (hn : c.Nodup) : ∃ o, Turned B nt c (B.turnC nt c).1 o (B.turnC nt c).2 := by
 match c, hw, hn with
 | a :: b :: r, hw, hn =>
   obtain ⟨o, ho, h1, h2, h3, h4, h5⟩ := turnC_fst hw hn
   unfold Bd.turnC
   simp only [← ho]
   have hl : ∀ l : List Int, l.length = r.length → (o :: nt :: l).length = (a :: b :: r).length := fun l hl => by simp [hl]
   by_cases hs : B.so o = true
   · rw [if_pos hs]
     exact ⟨o, h3, h4, by simp, by simp, h1, h5, fun _ => ⟨fun y => Iff.rfl, .inl (so_iff.1 hs)⟩, fun x h => by cases h⟩
   · rw [if_neg hs]
     cases hf : r.findIdx? (fun x => !B.so (-x)) with
     | none =>
       refine ⟨o, h3, h4, by simp, by simp, h1, h5, fun _ => ⟨fun y => Iff.rfl, .inr fun y hy hyo hyn => ?_⟩, fun x h => by cases h⟩
       have hyr : y ∈ r := by simpa [hyo, hyn] using hy
       have := List.findIdx?_eq_none_iff.1 hf y hyr
       simpa [Bd.so] using this
     | some j =>
       obtain ⟨hj, hp, _⟩ := List.findIdx?_eq_some_iff_getElem.1 hf
       have hg : r.getD j 0 = r[j] := by simp [List.getD, List.getElem?_eq_getElem hj]
       simp only [hg]
       have hx : -r[j] ∉ B.st := by simpa [Bd.so] using hp
       have hnr : r.Nodup := by simp at h4; exact h4.2.2
       have hor : o ∉ r := by simp at h4; exact h4.1.2
       have htr : nt ∉ r := by simp at h4; exact h4.2.1
       have hxm := List.getElem_mem hj
       have hxo : r[j] ≠ o := fun e => hor (e ▸ hxm)
       have hxn : r[j] ≠ nt := fun e => htr (e ▸ hxm)
       refine ⟨o, fun y => ?_, ?_, by simp, by simp, h1, h5, (fun h => by cases h), fun x h => ?_⟩
       · rw [← h3 y]
         simp only [List.mem_cons, set_mem hj nt y hnr htr]
         constructor
         · rintro (h | h | h | ⟨h, _⟩) <;> simp [h]
         · rintro (h | h | h)
           · simp [h]
           · simp [h]
           · by_cases e : y = r[j]
             · simp [e]
             · simp [h, e]
       · simp only [List.nodup_cons, List.mem_cons, set_mem hj nt _ hnr htr, not_or]
         exact ⟨⟨fun e => hxo e.symm, h1, fun h => hor h.1⟩, ⟨hxn, fun h => h.2 rfl⟩, set_nodup j nt hnr htr⟩
       · injection h with h
         subst h
         exact ⟨(h3 _).1 (by simp), hxo, hxn, hx, fun y => Iff.rfl⟩
end Go.Proofs.YtjhkecnnhddhbaaGreatDoor.Pf

namespace Go.Proofs.YtjhkecnnhddhbaaGreatDoor.Pf
structure SameCl (A B : List (List Int)) : Prop where
 to : ∀ c ∈ A, ∃ d ∈ B, ∀ x, x ∈ d ↔ x ∈ c
 fro : ∀ d ∈ B, ∃ c ∈ A, ∀ x, x ∈ c ↔ x ∈ d
theorem SameCl.refl (A : List (List Int)) : SameCl A A := ⟨fun c h => ⟨c, h, fun _ => Iff.rfl⟩, fun c h => ⟨c, h, fun _ => Iff.rfl⟩⟩
theorem SameCl.trans {A B C : List (List Int)} (h : SameCl A B) (k : SameCl B C) : SameCl A C :=
 ⟨fun c hc => by obtain ⟨d, hd, h1⟩ := h.to c hc; obtain ⟨e, he, h2⟩ := k.to d hd; exact ⟨e, he, fun x => (h2 x).trans (h1 x)⟩,
  fun c hc => by obtain ⟨d, hd, h1⟩ := k.fro c hc; obtain ⟨e, he, h2⟩ := h.fro d hd; exact ⟨e, he, fun x => (h2 x).trans (h1 x)⟩⟩
theorem mem_set_cl {A : List (List Int)} {i : Nat} {c' d : List Int} (h : d ∈ A.set i c') : d = c' ∨ d ∈ A := by
 rcases List.mem_or_eq_of_mem_set h with h | h
 · exact .inr h
 · exact .inl h
theorem SameCl.set {A : List (List Int)} {i : Nat} {c c' : List Int} (hc : A[i]? = some c) (hm : ∀ y, y ∈ c' ↔ y ∈ c) : SameCl A (A.set i c') := by
 obtain ⟨hi, e⟩ := List.getElem?_eq_some_iff.1 hc
 refine ⟨fun d hd => ?_, fun d hd => ?_⟩
 · obtain ⟨j, hj, rfl⟩ := List.getElem_of_mem hd
   by_cases h : i = j
   · subst h
     exact ⟨c', List.mem_set hi c', fun x => by rw [hm, e]⟩
   · exact ⟨A[j], List.mem_iff_getElem.2 ⟨j, by rw [List.length_set]; exact hj, by rw [List.getElem_set_ne h]⟩, fun _ => Iff.rfl⟩
 · rcases mem_set_cl hd with rfl | h
   · exact ⟨c, e ▸ List.getElem_mem hi, fun x => (hm x).symm⟩
   · exact ⟨d, h, fun _ => Iff.rfl⟩
theorem UP.same {A B : List (List Int)} (h : SameCl A B) {ch : Int → Prop} {n : Int} (hn : UP A ch n) : UP B ch n := hn.more h.to
structure LI (V nt : Int) (D : List Int) (ch : Int → Prop) (B : Bd) (kept rest : List (Nat × Int)) : Prop where
 wf : Wf V { B with wt := upd B.wt nt (kept ++ rest) }
 nt : -nt ∈ B.st
 cmp : Cmp B D
 ds : ∀ n ∈ D, n ∈ B.st
 snd : Snd B ch
 kd : ∀ p ∈ kept, ∀ c, B.cl[p.1]? = some c → ∃ m ∈ c, m ∈ B.st
 le : 0 ≤ B.level
theorem at_zero {B : Bd} (h : ∀ s ∈ B.sp, 0 ≤ s.2.1 ∧ s.2.1 ≤ B.level) (h0 : B.level = 0) {n : Int} (hn : n ∈ B.st) : n ∈ B.zero := by
 obtain ⟨s, hs, rfl⟩ := List.mem_map.1 hn
 refine List.mem_map.2 ⟨s, List.mem_filter.2 ⟨hs, ?_⟩, rfl⟩
 have := h s hs
 simp
 omega
theorem kept_ne {V nt : Int} {B : Bd} {kept rest : List (Nat × Int)} {i : Nat} {o : Int} (h : Wf V { B with wt := upd B.wt nt (kept ++ (i, o) :: rest) }) : ∀ p ∈ kept ++ rest, p.1 ≠ i := by
 have hd := h.wd nt
 simp only [upd_same, List.map_append, List.map_cons] at hd
 intro p hp e
 rw [List.nodup_append] at hd
 obtain ⟨h1, h2, h3⟩ := hd
 rcases List.mem_append.1 hp with hp | hp
 · exact h3 p.1 (List.mem_map.2 ⟨p, hp, rfl⟩) i (by simp) e
 · rw [List.nodup_cons] at h2
   exact h2.1 (e ▸ List.mem_map.2 ⟨p, hp, rfl⟩)
theorem LI.keep {V nt : Int} {D : List Int} {ch : Int → Prop} {B : Bd} {kept rest : List (Nat × Int)} {i : Nat} {o : Int} (h : LI V nt D ch B kept ((i, o) :: rest)) (ho : o ∈ B.st) : LI V nt D ch B (kept ++ [(i, o)]) rest := by
 refine ⟨by rw [List.append_assoc]; exact h.wf, h.nt, h.cmp, h.ds, h.snd, fun p hp c hc => ?_, h.le⟩
 rcases List.mem_append.1 hp with hp | hp
 · exact h.kd p hp c hc
 · obtain rfl : p = (i, o) := by simpa using hp
   obtain ⟨c', h1, _, h2, _⟩ := h.wf.wi nt (i, o) (by simp [upd_same])
   simp only at h1 hc
   rw [hc] at h1
   injection h1 with h1
   subst h1
   exact ⟨o, h2, ho⟩
theorem LI.there {V nt : Int} {D : List Int} {ch : Int → Prop} {B : Bd} {kept rest : List (Nat × Int)} {i : Nat} {o : Int} (h : LI V nt D ch B kept ((i, o) :: rest)) : ∃ c, B.cl[i]? = some c ∧ Wat nt c ∧ c ∈ B.cl ∧ c.Nodup := by
 obtain ⟨c, h1, h2, _, _⟩ := h.wf.wi nt (i, o) (by simp [upd_same])
 have hc : c ∈ B.cl := List.mem_of_getElem? h1
 exact ⟨c, h1, h2, hc, (h.wf.cl c hc).1⟩
theorem set_at {A : List (List Int)} {i j : Nat} {c' d : List Int} (h : (A.set i c')[j]? = some d) : (j = i ∧ d = c') ∨ (j ≠ i ∧ A[j]? = some d) := by
 rw [List.getElem?_set] at h
 split at h
 · rename_i e
   split at h
   · injection h with h; exact .inl ⟨e.symm, h.symm⟩
   · cases h
 · rename_i e
   exact .inr ⟨fun x => e x.symm, h⟩
theorem set_own {A : List (List Int)} {i : Nat} {c c' : List Int} (h : A[i]? = some c) : (A.set i c')[i]? = some c' := by
 obtain ⟨hi, _⟩ := List.getElem?_eq_some_iff.1 h
 rw [List.getElem?_set]
 simp [hi]
theorem set_other {A : List (List Int)} {i j : Nat} {c' : List Int} (h : j ≠ i) : (A.set i c')[j]? = A[j]? := by
 rw [List.getElem?_set, if_neg (fun e => h e.symm)]
theorem LI.turn {V nt : Int} {D : List Int} {ch : Int → Prop} {B : Bd} {kept rest : List (Nat × Int)} {i : Nat} {o : Int} (h : LI V nt D ch B kept ((i, o) :: rest)) {c c' : List Int} {o' x : Int} (hc : B.cl[i]? = some c) (ht : Turned B nt c c' o' (some x)) :
   LI V nt D ch { B with cl := B.cl.set i c', wt := upd B.wt x (B.wt x ++ [(i, o')]) } kept rest := by
 have hcm : c ∈ B.cl := List.mem_of_getElem? hc
 obtain ⟨hx1, hx2, hx3, hx4, hx5⟩ := ht.yes x rfl
 have hne := kept_ne h.wf
 have hsame : SameCl B.cl (B.cl.set i c') := SameCl.set hc ht.mem
 have h0 := h.wf
 obtain ⟨d1, d2, d3, d4⟩ := h0.cl c hcm
 have hnx : ∀ p ∈ B.wt x, p.1 ≠ i := by
   intro p hp e
   obtain ⟨c2, e1, e2, _, _⟩ := h0.wi x p (by simp only [upd_ne _ _ hx3]; exact hp)
   simp only [e, hc] at e1
   injection e1 with e1
   subst e1
   rcases (ht.old x).1 e2 with e3 | e3
   · exact hx2 e3
   · exact hx3 e3
 have hlen2 : 2 ≤ c'.length := by
   have : Wat x c' := (hx5 x).2 (.inr rfl)
   match c', this with
   | a :: b :: r, _ => simp
 have hcl : ∀ d, d ∈ B.cl.set i c' → d = c' ∨ d ∈ B.cl := fun d hd => mem_set_cl hd
 have ho'c : o' ∈ c' := Wat.mem ((hx5 o').2 (.inl rfl))
 refine ⟨?_, h.nt, ?_, h.ds, ?_, ?_, h.le⟩
 · refine ⟨fun d hd => ?_, h0.sn, h0.sc, h0.sr, h0.sp, ?_, ?_, ?_, h0.lv⟩
   · rcases hcl d hd with rfl | hd
     · exact ⟨ht.nd, by rw [ht.len]; exact d2, by rw [ht.len]; exact d3, fun y hy => d4 y ((ht.mem y).1 hy)⟩
     · exact h0.cl d hd
   · intro n p hp
     simp only at hp ⊢
     by_cases e1 : n = nt
     · subst e1
       rw [upd_same] at hp
       have hpi := hne p hp
       obtain ⟨c2, a1, a2, a3, a4⟩ := h0.wi n p (by
         simp only [upd_same]
         rcases List.mem_append.1 hp with hp | hp
         · exact List.mem_append.2 (.inl hp)
         · exact List.mem_append.2 (.inr (List.mem_cons_of_mem _ hp)))
       exact ⟨c2, by rw [set_other hpi]; exact a1, a2, a3, a4⟩
     · rw [upd_ne _ _ e1] at hp
       by_cases e2 : n = x
       · subst e2
         rw [upd_same] at hp
         rcases List.mem_append.1 hp with hp | hp
         · have hpi := hnx p hp
           obtain ⟨c2, a1, a2, a3, a4⟩ := h0.wi n p (by simp only [upd_ne _ _ e1]; exact hp)
           exact ⟨c2, by rw [set_other hpi]; exact a1, a2, a3, a4⟩
         · obtain rfl : p = (i, o') := by simpa using hp
           exact ⟨c', set_own hc, (hx5 n).2 (.inr rfl), ho'c, fun e => hx2 e.symm⟩
       · rw [upd_ne _ _ e2] at hp
         obtain ⟨c2, a1, a2, a3, a4⟩ := h0.wi n p (by simp only [upd_ne _ _ e1]; exact hp)
         by_cases hpi : p.1 = i
         · simp only [hpi, hc] at a1
           injection a1 with a1
           subst a1
           rcases (ht.old n).1 a2 with e3 | e3
           · exact ⟨c', by rw [hpi]; exact set_own hc, (hx5 n).2 (.inl e3), (ht.mem _).2 a3, a4⟩
           · exact absurd e3 e1
         · exact ⟨c2, by rw [set_other hpi]; exact a1, a2, a3, a4⟩
   · intro n
     simp only
     by_cases e1 : n = nt
     · subst e1
       rw [upd_same]
       have := h0.wd n
       simp only [upd_same] at this
       exact this.sublist (List.Sublist.map _ (List.Sublist.append_left (List.sublist_cons_self _ _) _))
     · rw [upd_ne _ _ e1]
       have hw := h0.wd n
       simp only [upd_ne _ _ e1] at hw
       by_cases e2 : n = x
       · subst e2
         rw [upd_same, List.map_append, List.nodup_append]
         refine ⟨hw, by simp, fun a ha b hb e => ?_⟩
         obtain ⟨p, hp, rfl⟩ := List.mem_map.1 ha
         have : b = i := by simpa using hb
         exact hnx p hp (e.trans this)
       · rw [upd_ne _ _ e2]
         exact hw
   · intro j d hd n hw
     simp only at hd ⊢
     rcases set_at hd with ⟨rfl, rfl⟩ | ⟨hji, hd⟩
     · rcases (hx5 n).1 hw with e | e
       · subst e
         obtain ⟨q, hq⟩ := h0.wa j c hc n ((ht.old n).2 (.inl rfl))
         simp only [upd_ne _ _ ht.ne] at hq
         exact ⟨q, by rw [upd_ne _ _ ht.ne, upd_ne _ _ (fun e => hx2 e.symm)]; exact hq⟩
       · subst e
         exact ⟨o', by rw [upd_ne _ _ hx3, upd_same]; simp⟩
     · obtain ⟨q, hq⟩ := h0.wa j d hd n hw
       simp only at hq
       by_cases e1 : n = nt
       · subst e1
         rw [upd_same] at hq ⊢
         refine ⟨q, ?_⟩
         rcases List.mem_append.1 hq with hq | hq
         · exact List.mem_append.2 (.inl hq)
         · rcases List.mem_cons.1 hq with hq | hq
           · exact absurd (congrArg Prod.fst hq) hji
           · exact List.mem_append.2 (.inr hq)
       · rw [upd_ne _ _ e1] at hq ⊢
         by_cases e2 : n = x
         · subst e2
           exact ⟨q, by rw [upd_same]; exact List.mem_append.2 (.inl hq)⟩
         · exact ⟨q, by rw [upd_ne _ _ e2]; exact hq⟩
 · refine ⟨fun d hd hl y hy => ?_, fun n hn d hd hw => ?_, fun n hn hz d hd hw => ?_⟩
   · rcases hcl d hd with rfl | hd
     · omega
     · exact h.cmp.one d hd hl y hy
   · rcases hcl d hd with rfl | hd
     · rcases (hx5 _).1 hw with e | e
       · obtain ⟨m, hm, hs⟩ := h.cmp.dn n hn c hcm ((ht.old _).2 (.inl e))
         exact ⟨m, (ht.mem m).2 hm, hs⟩
       · exact absurd (by rw [← e, Int.neg_neg]; exact h.ds n hn) hx4
     · exact h.cmp.dn n hn d hd hw
   · rcases hcl d hd with rfl | hd
     · rcases (hx5 _).1 hw with e | e
       · obtain ⟨m, hm, hs⟩ := h.cmp.dz n hn hz c hcm ((ht.old _).2 (.inl e))
         exact ⟨m, (ht.mem m).2 hm, hs⟩
       · exact absurd (by rw [← e, Int.neg_neg]; exact h.ds n hn) hx4
     · exact h.cmp.dz n hn hz d hd hw
 · exact ⟨fun n hn => (h.snd.st n hn).same hsame, fun n hn => (h.snd.zs n hn).same hsame⟩
 · intro p hp d hd
   have hpi := hne p (List.mem_append.2 (.inl hp))
   simp only at hd
   rw [set_other hpi] at hd
   exact h.kd p hp d hd
theorem LI.stay {V nt : Int} {D : List Int} {ch : Int → Prop} {B : Bd} {kept rest : List (Nat × Int)} {i : Nat} {o : Int} (h : LI V nt D ch B kept ((i, o) :: rest)) {c c' : List Int} {o' : Int} (hc : B.cl[i]? = some c) (ht : Turned B nt c c' o' none) :
   LI V nt D ch { B with cl := B.cl.set i c' } kept ((i, o') :: rest) := by
 have hcm : c ∈ B.cl := List.mem_of_getElem? hc
 obtain ⟨hy, _⟩ := ht.no rfl
 have hne := kept_ne h.wf
 have hsame : SameCl B.cl (B.cl.set i c') := SameCl.set hc ht.mem
 have h0 := h.wf
 obtain ⟨d1, d2, d3, d4⟩ := h0.cl c hcm
 have hcl : ∀ d, d ∈ B.cl.set i c' → d = c' ∨ d ∈ B.cl := fun d hd => mem_set_cl hd
 have hiff : ∀ y, Wat y c' ↔ Wat y c := fun y => (hy y).trans (ht.old y).symm
 have hwn : Wat nt c := (ht.old nt).2 (.inr rfl)
 refine ⟨?_, h.nt, ?_, h.ds, ?_, ?_, h.le⟩
 · refine ⟨fun d hd => ?_, h0.sn, h0.sc, h0.sr, h0.sp, ?_, ?_, ?_, h0.lv⟩
   · rcases hcl d hd with rfl | hd
     · exact ⟨ht.nd, by rw [ht.len]; exact d2, by rw [ht.len]; exact d3, fun y hy => d4 y ((ht.mem y).1 hy)⟩
     · exact h0.cl d hd
   · intro n p hp
     simp only at hp ⊢
     have old : (∃ c2, B.cl[p.1]? = some c2 ∧ Wat n c2 ∧ p.2 ∈ c2 ∧ p.2 ≠ n) → ∃ c2, (B.cl.set i c')[p.1]? = some c2 ∧ Wat n c2 ∧ p.2 ∈ c2 ∧ p.2 ≠ n := by
       rintro ⟨c2, a1, a2, a3, a4⟩
       by_cases hpi : p.1 = i
       · rw [hpi, hc] at a1
         injection a1 with a1
         subst a1
         exact ⟨c', by rw [hpi]; exact set_own hc, (hiff n).2 a2, (ht.mem _).2 a3, a4⟩
       · exact ⟨c2, by rw [set_other hpi]; exact a1, a2, a3, a4⟩
     by_cases e1 : n = nt
     · subst e1
       rw [upd_same] at hp
       rcases List.mem_append.1 hp with hp | hp
       · exact old (h0.wi n p (by simp only [upd_same]; exact List.mem_append.2 (.inl hp)))
       · rcases List.mem_cons.1 hp with rfl | hp
         · exact ⟨c', set_own hc, (hiff n).2 hwn, Wat.mem ((hy o').2 (.inl rfl)), ht.ne⟩
         · exact old (h0.wi n p (by simp only [upd_same]; exact List.mem_append.2 (.inr (List.mem_cons_of_mem _ hp))))
     · rw [upd_ne _ _ e1] at hp
       exact old (h0.wi n p (by simp only [upd_ne _ _ e1]; exact hp))
   · intro n
     have := h0.wd n
     simp only at this ⊢
     by_cases e1 : n = nt
     · subst e1
       rw [upd_same] at this ⊢
       simpa using this
     · rw [upd_ne _ _ e1] at this ⊢
       exact this
   · intro j d hd n hw
     simp only at hd ⊢
     have key : ∃ q, (j, q) ∈ upd B.wt nt (kept ++ (i, o) :: rest) n := by
       rcases set_at hd with ⟨rfl, rfl⟩ | ⟨hji, hd⟩
       · exact h0.wa j c hc n ((hiff n).1 hw)
       · exact h0.wa j d hd n hw
     obtain ⟨q, hq⟩ := key
     by_cases e1 : n = nt
     · subst e1
       rw [upd_same] at hq ⊢
       rcases List.mem_append.1 hq with hq | hq
       · exact ⟨q, List.mem_append.2 (.inl hq)⟩
       · rcases List.mem_cons.1 hq with hq | hq
         · have : j = i := congrArg Prod.fst hq
           subst this
           exact ⟨o', by simp⟩
         · exact ⟨q, List.mem_append.2 (.inr (List.mem_cons_of_mem _ hq))⟩
     · rw [upd_ne _ _ e1] at hq ⊢
       exact ⟨q, hq⟩
 · refine ⟨fun d hd hl y hy' => ?_, fun n hn d hd hw => ?_, fun n hn hz d hd hw => ?_⟩
   · rcases hcl d hd with rfl | hd
     · exact h.cmp.one c hcm (by rw [← ht.len]; exact hl) y ((ht.mem y).1 hy')
     · exact h.cmp.one d hd hl y hy'
   · rcases hcl d hd with rfl | hd
     · obtain ⟨m, hm, hs⟩ := h.cmp.dn n hn c hcm ((hiff _).1 hw)
       exact ⟨m, (ht.mem m).2 hm, hs⟩
     · exact h.cmp.dn n hn d hd hw
   · rcases hcl d hd with rfl | hd
     · obtain ⟨m, hm, hs⟩ := h.cmp.dz n hn hz c hcm ((hiff _).1 hw)
       exact ⟨m, (ht.mem m).2 hm, hs⟩
     · exact h.cmp.dz n hn hz d hd hw
 · exact ⟨fun n hn => (h.snd.st n hn).same hsame, fun n hn => (h.snd.zs n hn).same hsame⟩
 · intro p hp d hd
   have hpi := hne p (List.mem_append.2 (.inl hp))
   simp only at hd
   rw [set_other hpi] at hd
   exact h.kd p hp d hd
theorem LI.put {V nt : Int} {D : List Int} {ch : Int → Prop} {B : Bd} {kept rest : List (Nat × Int)} (h : LI V nt D ch B kept rest) {c : List Int} {x k : Int} (hc : c ∈ B.cl) (hx : x ∈ c) (h1 : x ∉ B.st) (h2 : -x ∉ B.st) (hu : ∀ m ∈ c, m ≠ x → -m ∈ B.st) : LI V nt D ch (B.put x k) kept rest := by
 have h0 := h.wf
 have hnum := (h0.cl c hc).2.2.2 x hx
 have hst := st_put B x k
 have hz : ∀ n ∈ B.zero, n ∈ (B.put x k).zero := fun n hn => by rw [zero_put]; split <;> simp [hn]
 have hs : ∀ n ∈ B.st, n ∈ (B.put x k).st := fun n hn => by rw [hst]; simp [hn]
 have hst' : ({ B.put x k with wt := upd (B.put x k).wt nt (kept ++ rest) } : Bd).st = B.st ++ [x] := hst
 have hzo : ∀ n ∈ (B.put x k).zero, n ∈ B.zero ∨ (n = x ∧ B.level = 0) := fun n hn => by
   rw [zero_put] at hn
   split at hn
   · rename_i hl
     rcases List.mem_append.1 hn with hn | hn
     · exact .inl hn
     · exact .inr ⟨by simpa using hn, hl⟩
   · exact .inl hn
 refine ⟨?_, hs _ h.nt, ?_, fun n hn => hs n (h.ds n hn), ?_, fun p hp d hd => ?_, h.le⟩
 · refine ⟨h0.cl, ?_, ?_, ?_, ?_, h0.wi, h0.wd, h0.wa, ?_⟩
   · rw [hst', List.nodup_append]
     refine ⟨h0.sn, by simp, fun a ha b hb e => ?_⟩
     have : b = x := by simpa using hb
     exact h1 (this ▸ e ▸ ha)
   · intro n hn
     rw [hst'] at hn ⊢
     rcases List.mem_append.1 hn with hn | hn
     · intro h3
       rcases List.mem_append.1 h3 with h3 | h3
       · exact h0.sc n hn h3
       · have : -n = x := by simpa using h3
         exact h2 (by rw [← this, Int.neg_neg]; exact hn)
     · have : n = x := by simpa using hn
       subst this
       intro h3
       rcases List.mem_append.1 h3 with h3 | h3
       · exact h2 h3
       · have : -n = n := by simpa using h3
         have := hnum.1
         omega
   · intro n hn
     rw [hst'] at hn
     rcases List.mem_append.1 hn with hn | hn
     · exact h0.sr n hn
     · have : n = x := by simpa using hn
       exact this ▸ hnum
   · have := h0.sp
     simp only [Bd.put, List.length_append] at this ⊢
     omega
   · intro s hs
     simp only [Bd.put] at hs ⊢
     rcases List.mem_append.1 hs with hs | hs
     · exact h0.lv s hs
     · have : s = (x, B.level, k) := by simpa using hs
       subst this
       exact ⟨h.le, Int.le_refl _⟩
 · refine ⟨fun d hd hl y hy => hz y (h.cmp.one d hd hl y hy), fun n hn d hd hw => ?_, fun n hn hnz d hd hw => ?_⟩
   · obtain ⟨m, hm, hms⟩ := h.cmp.dn n hn d hd hw
     exact ⟨m, hm, hs m hms⟩
   · rcases hzo n hnz with h3 | ⟨h3, _⟩
     · obtain ⟨m, hm, hms⟩ := h.cmp.dz n hn h3 d hd hw
       exact ⟨m, hm, hz m hms⟩
     · exact absurd (h3 ▸ h.ds n hn) h1
 · refine ⟨fun n hn => ?_, fun n hn => ?_⟩
   · rw [hst] at hn
     rcases List.mem_append.1 hn with hn | hn
     · exact h.snd.st n hn
     · have : n = x := by simpa using hn
       subst this
       exact .unit c hc hx fun m hm hne => h.snd.st _ (hu m hm hne)
   · rcases hzo n hn with h3 | ⟨rfl, hl⟩
     · exact h.snd.zs n h3
     · exact .unit c hc hx fun m hm hne => h.snd.zs _ (at_zero h0.lv hl (hu m hm hne))
 · obtain ⟨m, hm, hms⟩ := h.kd p hp d hd
   exact ⟨m, hm, hs m hms⟩
end Go.Proofs.YtjhkecnnhddhbaaGreatDoor.Pf

namespace Go.Proofs.YtjhkecnnhddhbaaGreatDoor.Pf
def look (nt : Int) : Bd → List (Nat × Int) → List (Nat × Int) → Bd × List (Nat × Int) × Int
 | B, kept, [] => (B, kept, -1)
 | B, kept, (i, o) :: rest =>
   if B.so o then look nt B (kept ++ [(i, o)]) rest
   else match B.turnC nt (B.cl.getD i []) with
     | (c', some x) => look nt { B with cl := B.cl.set i c', wt := upd B.wt x (B.wt x ++ [(i, c'.getD 0 0)]) } kept rest
     | (c', none) =>
       if B.so (-(c'.getD 0 0)) then ({ B with cl := B.cl.set i c' }, kept ++ (i, c'.getD 0 0) :: rest, i)
       else if B.so (c'.getD 0 0) then look nt { B with cl := B.cl.set i c' } (kept ++ [(i, c'.getD 0 0)]) rest
       else look nt (({ B with cl := B.cl.set i c' } : Bd).put (c'.getD 0 0) i) (kept ++ [(i, c'.getD 0 0)]) rest
structure LF (B B' : Bd) : Prop where
 level : B'.level = B.level
 lost : B'.lost = B.lost
 spread : B'.spread = B.spread
 same : SameCl B.cl B'.cl
 len : B'.cl.length = B.cl.length
 sp : ∃ t, B'.sp = B.sp ++ t ∧ ∀ s ∈ t, s.2.1 = B.level
theorem LF.refl (B : Bd) : LF B B := ⟨rfl, rfl, rfl, .refl _, rfl, [], by simp, by simp⟩
theorem LF.trans {A B C : Bd} (h : LF A B) (k : LF B C) : LF A C := by
 obtain ⟨t, h1, h2⟩ := h.sp
 obtain ⟨u, k1, k2⟩ := k.sp
 refine ⟨k.level.trans h.level, k.lost.trans h.lost, k.spread.trans h.spread, h.same.trans k.same, k.len.trans h.len, t ++ u, by rw [k1, h1, List.append_assoc], fun s hs => ?_⟩
 rcases List.mem_append.1 hs with hs | hs
 · exact h2 s hs
 · rw [k2 s hs, h.level]
theorem LF.set {B : Bd} {i : Nat} {c c' : List Int} (hc : B.cl[i]? = some c) (hm : ∀ y, y ∈ c' ↔ y ∈ c) (f : Int → List (Nat × Int)) : LF B { B with cl := B.cl.set i c', wt := f } :=
 ⟨rfl, rfl, rfl, SameCl.set hc hm, by simp, [], by simp, by simp⟩
theorem LF.put (B : Bd) (x k : Int) : LF B (B.put x k) := ⟨rfl, rfl, rfl, .refl _, rfl, [(x, B.level, k)], rfl, by simp⟩
theorem getD_some {A : List (List Int)} {i : Nat} {c : List Int} (h : A[i]? = some c) : A.getD i [] = c := by simp [List.getD, h]
theorem look_ok {V nt : Int} {D : List Int} {ch : Int → Prop} (rest : List (Nat × Int)) : ∀ (B : Bd) (kept : List (Nat × Int)), LI V nt D ch B kept rest →
   LF B (look nt B kept rest).1 ∧ (((look nt B kept rest).2.2 = -1 ∧ LI V nt D ch (look nt B kept rest).1 (look nt B kept rest).2.1 []) ∨
     (0 ≤ (look nt B kept rest).2.2 ∧ (∃ k' r', (look nt B kept rest).2.1 = k' ++ r' ∧ LI V nt D ch (look nt B kept rest).1 k' r') ∧ ∃ c ∈ (look nt B kept rest).1.cl, ∀ y ∈ c, -y ∈ (look nt B kept rest).1.st)) := by
 induction rest with
 | nil => intro B kept h; exact ⟨.refl B, .inl ⟨rfl, h⟩⟩
 | cons p rest ih =>
   obtain ⟨i, o⟩ := p
   intro B kept h
   unfold look
   by_cases ho : B.so o = true
   · rw [if_pos ho]
     exact ih B _ (h.keep (so_iff.1 ho))
   · rw [if_neg ho]
     obtain ⟨c, hc, hw, hcm, hn⟩ := h.there
     rw [getD_some hc]
     obtain ⟨o', ht⟩ := turned (B := B) hw hn
     cases htc : B.turnC nt c with
     | mk c' t =>
       rw [htc] at ht
       simp only at ht
       have hfst := ht.fst
       cases t with
       | some x =>
         simp only [hfst]
         have h2 := ih _ _ (h.turn hc ht)
         exact ⟨(LF.set hc ht.mem _).trans h2.1, h2.2⟩
       | none =>
         simp only [hfst]
         have hs := h.stay hc ht
         have hown := set_own (c' := c') hc
         have hm' : c' ∈ B.cl.set i c' := List.mem_of_getElem? hown
         obtain ⟨hy, hor⟩ := ht.no rfl
         by_cases h1 : B.so (-o') = true
         · rw [if_pos h1]
           have hm1 := so_iff.1 h1
           refine ⟨LF.set hc ht.mem B.wt, .inr ⟨Int.natCast_nonneg i, ⟨kept, _, rfl, hs⟩, c', hm', fun y hy' => ?_⟩⟩
           by_cases e1 : y = o'
           · subst e1; exact hm1
           · by_cases e2 : y = nt
             · subst e2; exact h.nt
             · rcases hor with hor | hor
               · exact absurd hm1 (h.wf.sc _ hor)
               · exact hor y hy' e1 e2
         · rw [if_neg h1]
           by_cases h2 : B.so o' = true
           · rw [if_pos h2]
             have h3 := ih _ _ (hs.keep (so_iff.1 h2))
             exact ⟨(LF.set hc ht.mem B.wt).trans h3.1, h3.2⟩
           · rw [if_neg h2]
             have hno : o' ∉ B.st := fun e => h2 (so_iff.2 e)
             have hp := hs.put (k := (i : Int)) hm' (Wat.mem ((hy o').2 (.inl rfl))) hno (fun e => h1 (so_iff.2 e)) (fun m hm hne => by
               by_cases e2 : m = nt
               · subst e2; exact h.nt
               · rcases hor with hor | hor
                 · exact absurd hor hno
                 · exact hor m hm hne e2)
             have h3 := ih _ _ (hp.keep (by rw [st_put]; simp))
             exact ⟨((LF.set hc ht.mem B.wt).trans (LF.put _ _ _)).trans h3.1, h3.2⟩
def Bd.lookAt (B : Bd) (nt : Int) : Bd × Int := ({ (look nt B [] (B.wt nt)).1 with wt := upd (look nt B [] (B.wt nt)).1.wt nt (look nt B [] (B.wt nt)).2.1 }, (look nt B [] (B.wt nt)).2.2)
structure Inv (V : Int) (L : List (List Int)) (ch : Int → Prop) (B : Bd) : Prop where
 wf : Wf V B
 le : 0 ≤ B.level
 rep : B.lost = false → SameCl L B.cl
 lst : B.lost = true → Confl L (fun _ => False)
 cmp : B.lost = false → Cmp B (B.st.take B.spread)
 one : Cmp B []
 snd : Snd B ch
 zp : ∃ k, k ≤ B.sp.length ∧ (∀ s ∈ B.sp.take k, s.2.1 = 0) ∧ (∀ s ∈ B.sp.drop k, 0 < s.2.1) ∧ (0 < B.level → k ≤ B.spread)
structure Inw (V : Int) (L : List (List Int)) (ch : Int → Prop) (B : Bd) : Prop where
 wf : Wf V B
 le : 0 ≤ B.level
 rep : B.lost = false → SameCl L B.cl
 lst : B.lost = true → Confl L (fun _ => False)
 cz : B.lost = false → ∀ n ∈ B.zero, ∀ c ∈ B.cl, Wat (-n) c → ∃ m ∈ c, m ∈ B.zero
 one : Cmp B []
 snd : Snd B ch
 zp : ∃ k, k ≤ B.sp.length ∧ (∀ s ∈ B.sp.take k, s.2.1 = 0) ∧ (∀ s ∈ B.sp.drop k, 0 < s.2.1) ∧ k ≤ B.spread
theorem zero_take {B : Bd} {k : Nat} (h1 : ∀ s ∈ B.sp.take k, s.2.1 = 0) (h2 : ∀ s ∈ B.sp.drop k, 0 < s.2.1) : B.zero = B.st.take k := by
 unfold Bd.zero Bd.st
 conv => lhs; rw [← List.take_append_drop k B.sp]
 rw [List.filter_append, List.filter_eq_self.2 (fun s hs => by simp [h1 s hs]), List.filter_eq_nil_iff.2 (fun s hs => by have := h2 s hs; simp; omega), List.append_nil, List.map_take]
theorem confl_same {A B : List (List Int)} (h : SameCl A B) {ch : Int → Prop} (hc : Confl B ch) : Confl A ch := by
 rcases hc with ⟨n, h1, h2⟩ | ⟨c, hcm, hm⟩
 · exact .inl ⟨n, h1, h2⟩
 · obtain ⟨d, hd, hx⟩ := h.fro c hcm
   exact .inr ⟨d, hd, fun m hmd => (hm m ((hx m).1 hmd)).more h.fro⟩
theorem SameCl.symm {A B : List (List Int)} (h : SameCl A B) : SameCl B A := ⟨h.fro, h.to⟩
end Go.Proofs.YtjhkecnnhddhbaaGreatDoor.Pf

namespace Go.Proofs.YtjhkecnnhddhbaaGreatDoor.Pf
theorem upd_self {α : Type} (f : Int → α) (k : Int) : upd f k (f k) = f := by
 funext x
 unfold upd
 split
 · rename_i e; rw [e]
 · rfl
theorem zp_ext {sp t : List (Int × Int × Int)} {level : Int} {spread sp' : Nat} (hlv : ∀ s ∈ sp, 0 ≤ s.2.1 ∧ s.2.1 ≤ level) (ht : ∀ s ∈ t, s.2.1 = level) (h0 : 0 ≤ level) (hsp : spread ≤ sp')
   (h : ∃ k, k ≤ sp.length ∧ (∀ s ∈ sp.take k, s.2.1 = 0) ∧ (∀ s ∈ sp.drop k, 0 < s.2.1) ∧ (0 < level → k ≤ spread)) :
   ∃ k, k ≤ (sp ++ t).length ∧ (∀ s ∈ (sp ++ t).take k, s.2.1 = 0) ∧ (∀ s ∈ (sp ++ t).drop k, 0 < s.2.1) ∧ (0 < level → k ≤ sp') := by
 obtain ⟨k, h1, h2, h3, h4⟩ := h
 by_cases hl : level = 0
 · refine ⟨(sp ++ t).length, Nat.le_refl _, fun s hs => ?_, fun s hs => by rw [List.drop_length] at hs; simp at hs, fun h => by omega⟩
   rw [List.take_length] at hs
   rcases List.mem_append.1 hs with hs | hs
   · have := hlv s hs; omega
   · rw [ht s hs, hl]
 · refine ⟨k, by rw [List.length_append]; omega, fun s hs => ?_, fun s hs => ?_, fun h => by have := h4 h; omega⟩
   · rw [List.take_append_of_le_length h1] at hs
     exact h2 s hs
   · rw [List.drop_append_of_le_length h1] at hs
     rcases List.mem_append.1 hs with hs | hs
     · exact h3 s hs
     · rw [ht s hs]; omega
theorem st_len (B : Bd) : B.st.length = B.sp.length := by simp [Bd.st]
theorem st_ext {B B' : Bd} {t : List (Int × Int × Int)} (h : B'.sp = B.sp ++ t) : B'.st = B.st ++ t.map (·.1) := by simp [Bd.st, h]
theorem zero_ext {B B' : Bd} {t : List (Int × Int × Int)} (h : B'.sp = B.sp ++ t) (ht : ∀ s ∈ t, s.2.1 = B.level) (h0 : 0 < B.level) : B'.zero = B.zero := by
 unfold Bd.zero
 rw [h, List.filter_append, show t.filter (fun s => s.2.1 == 0) = [] from List.filter_eq_nil_iff.2 (fun s hs => by have := ht s hs; simp; omega), List.append_nil]
structure Stepped (V : Int) (L : List (List Int)) (ch : Int → Prop) (B B' : Bd) (f : Int) : Prop where
 level : B'.level = B.level
 lost : B'.lost = B.lost
 spread : B'.spread = B.spread + 1
 sp : ∃ t, B'.sp = B.sp ++ t
 wf : Wf V B'
 ok : f = -1 → Inv V L ch B'
 bad : f ≠ -1 → 0 ≤ f ∧ (B.lost = false → Confl L ch) ∧ (0 < B.level → Inw V L ch B') ∧ (B.level = 0 → Inv V L ch { B' with lost := true })
theorem step_ok {V : Int} {L : List (List Int)} {ch : Int → Prop} {B : Bd} (h : Inv V L ch B) {n : Int} (hn : B.st[B.spread]? = some n) :
   Stepped V L ch B (({ B with spread := B.spread + 1 } : Bd).lookAt (-n)).1 (({ B with spread := B.spread + 1 } : Bd).lookAt (-n)).2 := by
 have hnm : n ∈ B.st := List.mem_of_getElem? hn
 obtain ⟨hlt, hne⟩ := List.getElem?_eq_some_iff.1 hn
 have hlt' : B.spread < B.sp.length := by rw [← st_len]; exact hlt
 generalize hB1 : ({ B with spread := B.spread + 1 } : Bd) = B1
 have e1 : B1.st = B.st := by rw [← hB1]; rfl
 have e2 : B1.zero = B.zero := by rw [← hB1]; rfl
 have e3 : B1.cl = B.cl := by rw [← hB1]
 have e4 : B1.level = B.level := by rw [← hB1]
 have e5 : B1.lost = B.lost := by rw [← hB1]
 have e6 : B1.spread = B.spread + 1 := by rw [← hB1]
 have e7 : B1.sp = B.sp := by rw [← hB1]
 have hw1 : Wf V B1 := by
   rw [← hB1]
   exact ⟨h.wf.cl, h.wf.sn, h.wf.sc, h.wf.sr, hlt', h.wf.wi, h.wf.wd, h.wf.wa, h.wf.lv⟩
 have hD : ∃ D, (B.lost = false → D = B.st.take B.spread) ∧ (∀ m ∈ D, m ∈ B.st) ∧ Cmp B D := by
   cases hl : B.lost
   · exact ⟨_, fun _ => rfl, fun m hm => List.mem_of_mem_take hm, h.cmp hl⟩
   · exact ⟨[], (fun e => by cases e), (fun m hm => by simp at hm), h.one⟩
 obtain ⟨D, hD1, hD2, hD3⟩ := hD
 have hli : LI V (-n) D ch B1 [] (B1.wt (-n)) := by
   refine ⟨?_, by rw [Int.neg_neg, e1]; exact hnm, ?_, fun m hm => by rw [e1]; exact hD2 m hm, ?_, fun p hp => by simp at hp, by rw [e4]; exact h.le⟩
   · rw [List.nil_append, upd_self]
     exact hw1
   · exact ⟨fun c hc hl x hx => by rw [e2]; exact hD3.one c (e3 ▸ hc) hl x hx, fun m hm c hc hw => by rw [e1]; exact hD3.dn m hm c (e3 ▸ hc) hw, fun m hm hz c hc hw => by rw [e2] at hz ⊢; exact hD3.dz m hm hz c (e3 ▸ hc) hw⟩
   · exact ⟨fun m hm => by rw [e3]; exact h.snd.st m (e1 ▸ hm), fun m hm => by rw [e3]; exact h.snd.zs m (e2 ▸ hm)⟩
 have hlk := look_ok (B1.wt (-n)) B1 [] hli
 unfold Bd.lookAt
 generalize look (-n) B1 [] (B1.wt (-n)) = r at hlk
 obtain ⟨R, kp, f⟩ := r
 simp only at hlk ⊢
 obtain ⟨hf, hor⟩ := hlk
 obtain ⟨t, ht1, ht2⟩ := hf.sp
 rw [e7] at ht1
 rw [e4] at ht2
 have hlev : R.level = B.level := hf.level.trans e4
 have hlos : R.lost = B.lost := hf.lost.trans e5
 have hspr : R.spread = B.spread + 1 := hf.spread.trans e6
 have hst : R.st = B.st ++ t.map (·.1) := st_ext ht1
 have hsame : SameCl B.cl R.cl := e3 ▸ hf.same
 have hzp : ∃ k, k ≤ R.sp.length ∧ (∀ s ∈ R.sp.take k, s.2.1 = 0) ∧ (∀ s ∈ R.sp.drop k, 0 < s.2.1) ∧ (0 < R.level → k ≤ R.spread) := by
   rw [ht1, hlev, hspr]
   exact zp_ext h.wf.lv ht2 h.le (Nat.le_succ _) h.zp
 have hnz : n ∈ R.zero → B.level = 0 := by
   intro hz
   by_cases h0 : B.level = 0
   · exact h0
   · exfalso
     have hpos : 0 < B.level := by have := h.le; omega
     rw [zero_ext ht1 ht2 hpos] at hz
     obtain ⟨k, k1, k2, k3, k4⟩ := h.zp
     rw [zero_take k2 k3] at hz
     obtain ⟨j, hj, ej⟩ := List.getElem_of_mem hz
     have hjk : j < k := by rw [List.length_take] at hj; omega
     have hjl : j < B.st.length := by rw [List.length_take] at hj; omega
     rw [List.getElem_take, ← hne] at ej
     have := nodup_inj h.wf.sn hjl hlt ej
     have := k4 hpos
     omega
 rcases hor with ⟨rfl, hl⟩ | ⟨hf0, ⟨k', r', hk, hl⟩, c, hc, hcc⟩
 · have hwf : Wf V { R with wt := upd R.wt (-n) kp } := by simpa using hl.wf
   refine ⟨hlev, hlos, hspr, ⟨t, ht1⟩, hwf, fun _ => ?_, fun e => absurd rfl e⟩
   refine ⟨hwf, by rw [show ({ R with wt := upd R.wt (-n) kp } : Bd).level = R.level from rfl, hlev]; exact h.le, fun e => (h.rep (hlos ▸ e)).trans hsame, fun e => h.lst (hlos ▸ e), fun e => ?_, ?_, ?_, hzp⟩
   · have hd : R.st.take R.spread = B.st.take B.spread ++ [n] := by
       rw [hst, hspr, List.take_append_of_le_length (by omega), List.take_succ_eq_append_getElem hlt, hne]
     have eD := hD1 (hlos ▸ e)
     show Cmp _ (R.st.take R.spread)
     rw [hd]
     have key : ∀ c ∈ R.cl, Wat (-n) c → ∃ m ∈ c, m ∈ R.st := fun c hc hw => by
       obtain ⟨i, hi⟩ := List.mem_iff_getElem?.1 hc
       obtain ⟨o, ho⟩ := hwf.wa i c hi (-n) hw
       simp only [upd_same] at ho
       exact hl.kd (i, o) ho c hi
     refine ⟨hl.cmp.one, fun m hm c hc hw => ?_, fun m hm hz c hc hw => ?_⟩
     · rcases List.mem_append.1 hm with hm | hm
       · exact hl.cmp.dn m (eD ▸ hm) c hc hw
       · have : m = n := by simpa using hm
         subst this
         exact key c hc hw
     · rcases List.mem_append.1 hm with hm | hm
       · exact hl.cmp.dz m (eD ▸ hm) hz c hc hw
       · have : m = n := by simpa using hm
         subst this
         obtain ⟨y, hy, hys⟩ := key c hc hw
         exact ⟨y, hy, at_zero (B := R) hwf.lv (hlev.trans (hnz hz)) hys⟩
   · exact ⟨hl.cmp.one, fun m hm => by simp at hm, fun m hm => by simp at hm⟩
   · exact ⟨hl.snd.st, hl.snd.zs⟩
 · have hwf : Wf V { R with wt := upd R.wt (-n) kp } := by rw [hk]; exact hl.wf
   have hone : Cmp { R with wt := upd R.wt (-n) kp } [] := ⟨hl.cmp.one, fun m hm => by simp at hm, fun m hm => by simp at hm⟩
   have hsnd : Snd { R with wt := upd R.wt (-n) kp } ch := ⟨hl.snd.st, hl.snd.zs⟩
   refine ⟨hlev, hlos, hspr, ⟨t, ht1⟩, hwf, fun e => by omega, fun _ => ⟨hf0, fun e => ?_, fun hpos => ?_, fun h0 => ?_⟩⟩
   · exact confl_same ((h.rep e).trans hsame) (.inr ⟨c, hc, fun m hm => hl.snd.st _ (hcc m hm)⟩)
   · obtain ⟨k, k1, k2, k3, k4⟩ := hzp
     refine ⟨hwf, by rw [show ({ R with wt := upd R.wt (-n) kp } : Bd).level = R.level from rfl, hlev]; exact h.le, fun e => (h.rep (hlos ▸ e)).trans hsame, fun e => h.lst (hlos ▸ e), fun e m hm c hc hw => ?_, hone, hsnd, ⟨k, k1, k2, k3, k4 (by rw [hlev]; exact hpos)⟩⟩
     have eD := hD1 (hlos ▸ e)
     refine hl.cmp.dz m ?_ hm c hc hw
     rw [eD]
     have hm' : m ∈ B.zero := by rw [← zero_ext ht1 ht2 hpos]; exact hm
     obtain ⟨j, j1, j2, j3, j4⟩ := h.zp
     rw [zero_take j2 j3] at hm'
     exact List.mem_of_mem_take (i := j) (by rw [List.take_take, Nat.min_eq_left (j4 hpos)]; exact hm')
   · refine ⟨⟨hwf.cl, hwf.sn, hwf.sc, hwf.sr, hwf.sp, hwf.wi, hwf.wd, hwf.wa, hwf.lv⟩, by rw [show ({ R with wt := upd R.wt (-n) kp, lost := true } : Bd).level = R.level from rfl, hlev]; exact h.le, fun e => by simp at e, fun _ => ?_, fun e => by simp at e, ⟨hone.one, hone.dn, hone.dz⟩, ⟨hsnd.st, hsnd.zs⟩, hzp⟩
     cases hlb : B.lost
     · exact confl_same ((h.rep hlb).trans hsame) (.inr ⟨c, hc, fun m hm => hl.snd.zs _ (at_zero (B := R) hwf.lv (hlev.trans h0) (hcc m hm))⟩)
     · exact h.lst hlb
end Go.Proofs.YtjhkecnnhddhbaaGreatDoor.Pf

namespace Go.Proofs.YtjhkecnnhddhbaaGreatDoor.Pf
def Bd.choose (B : Bd) (n : Int) : Bd := ({ B with level := B.level + 1 } : Bd).put n (-1)
structure Laid (B : Bd) (c d : List Int) : Prop where
 mem : ∀ x, x ∈ d ↔ x ∈ c
 nd : d.Nodup
 a0 : ∀ a r, d = a :: r → -a ∈ B.st → ∀ y ∈ d, -y ∈ B.st
 a1 : ∀ a b r, d = a :: b :: r → -b ∈ B.st → ∀ y ∈ d, y ≠ a → -y ∈ B.st
def Bd.wat2 (B : Bd) (d : List Int) : Int → List (Nat × Int) := match d with
 | a :: b :: _ => upd (upd B.wt a (B.wt a ++ [(B.cl.length, b)])) b (upd B.wt a (B.wt a ++ [(B.cl.length, b)]) b ++ [(B.cl.length, a)])
 | _ => B.wt
def Bd.add (B : Bd) (d : List Int) : Bd :=
 if d = [] ∨ -(d.getD 0 0) ∈ B.st then { B with lost := true }
 else if d.getD 0 0 ∉ B.st ∧ (d.length = 1 ∨ -(d.getD 1 0) ∈ B.st) then ({ B with cl := B.cl ++ [d], wt := B.wat2 d } : Bd).put (d.getD 0 0) B.cl.length
 else { B with cl := B.cl ++ [d], wt := B.wat2 d }
theorem wat2_in {V : Int} {B : Bd} (h : Wf V B) {d : List Int} (hd : d.Nodup) : (∀ n, ∀ p ∈ B.wat2 d n, p ∈ B.wt n ∨ (p.1 = B.cl.length ∧ Wat n d ∧ p.2 ∈ d ∧ p.2 ≠ n)) ∧ (∀ n, ∀ p ∈ B.wt n, p ∈ B.wat2 d n) ∧ (∀ n, Wat n d → ∃ o, (B.cl.length, o) ∈ B.wat2 d n) ∧ ∀ n, ((B.wat2 d n).map (·.1)).Nodup := by
 have hlt : ∀ n, ∀ p ∈ B.wt n, p.1 < B.cl.length := fun n p hp => by
   obtain ⟨c, hc, _⟩ := h.wi n p hp
   exact (List.getElem?_eq_some_iff.1 hc).1
 match d, hd with
 | [], _ => exact ⟨fun n p hp => .inl hp, fun n p hp => hp, fun n hn => hn.elim, h.wd⟩
 | [x], _ => exact ⟨fun n p hp => .inl hp, fun n p hp => hp, fun n hn => hn.elim, h.wd⟩
 | a :: b :: r, hd =>
   have hab : a ≠ b := by intro e; subst e; simp at hd
   have hba : b ≠ a := fun e => hab e.symm
   have e : B.wat2 (a :: b :: r) = upd (upd B.wt a (B.wt a ++ [(B.cl.length, b)])) b (B.wt b ++ [(B.cl.length, a)]) := by
     show upd _ _ _ = _
     rw [upd_ne _ _ hba]
   rw [e]
   have key : ∀ n, upd (upd B.wt a (B.wt a ++ [(B.cl.length, b)])) b (B.wt b ++ [(B.cl.length, a)]) n = B.wt n ∨ ∃ o, upd (upd B.wt a (B.wt a ++ [(B.cl.length, b)])) b (B.wt b ++ [(B.cl.length, a)]) n = B.wt n ++ [(B.cl.length, o)] ∧ Wat n (a :: b :: r) ∧ o ∈ a :: b :: r ∧ o ≠ n := by
     intro n
     by_cases h1 : n = b
     · subst h1
       exact .inr ⟨a, by rw [upd_same], .inr rfl, by simp, hab⟩
     · rw [upd_ne _ _ h1]
       by_cases h2 : n = a
       · subst h2
         exact .inr ⟨b, by rw [upd_same], .inl rfl, by simp, hba⟩
       · exact .inl (by rw [upd_ne _ _ h2])
   refine ⟨fun n p hp => ?_, fun n p hp => ?_, fun n hn => ?_, fun n => ?_⟩
   · rcases key n with k | ⟨o, k, k1, k2, k3⟩
     · exact .inl (k ▸ hp)
     · rw [k] at hp
       rcases List.mem_append.1 hp with hp | hp
       · exact .inl hp
       · obtain rfl : p = (B.cl.length, o) := by simpa using hp
         exact .inr ⟨rfl, k1, k2, k3⟩
   · rcases key n with k | ⟨o, k, _⟩
     · rw [k]; exact hp
     · rw [k]; exact List.mem_append.2 (.inl hp)
   · rcases hn with rfl | rfl
     · exact ⟨b, by rw [upd_ne _ _ hab, upd_same]; simp⟩
     · exact ⟨a, by rw [upd_same]; simp⟩
   · rcases key n with k | ⟨o, k, _⟩
     · rw [k]; exact h.wd n
     · rw [k, List.map_append, List.nodup_append]
       refine ⟨h.wd n, by simp, fun x hx y hy e => ?_⟩
       obtain ⟨p, hp, rfl⟩ := List.mem_map.1 hx
       have : y = B.cl.length := by simpa using hy
       have := hlt n p hp
       omega
end Go.Proofs.YtjhkecnnhddhbaaGreatDoor.Pf

namespace Go.Proofs.YtjhkecnnhddhbaaGreatDoor.Pf
theorem same_app {A B : List (List Int)} (h : SameCl A B) {c d : List Int} (hm : ∀ x, x ∈ d ↔ x ∈ c) : SameCl (A ++ [c]) (B ++ [d]) := by
 refine ⟨fun e he => ?_, fun e he => ?_⟩
 · rcases List.mem_append.1 he with he | he
   · obtain ⟨f, hf, hx⟩ := h.to e he
     exact ⟨f, List.mem_append.2 (.inl hf), hx⟩
   · obtain rfl : e = c := by simpa using he
     exact ⟨d, by simp, hm⟩
 · rcases List.mem_append.1 he with he | he
   · obtain ⟨f, hf, hx⟩ := h.fro e he
     exact ⟨f, List.mem_append.2 (.inl hf), hx⟩
   · obtain rfl : e = d := by simpa using he
     exact ⟨c, by simp, fun x => (hm x).symm⟩
theorem confl_app {A : List (List Int)} {c : List Int} {ch : Int → Prop} (h : Confl A ch) : Confl (A ++ [c]) ch := by
 rcases h with ⟨n, h1, h2⟩ | ⟨e, he, hm⟩
 · exact .inl ⟨n, h1, h2⟩
 · exact .inr ⟨e, List.mem_append.2 (.inl he), fun m hme => (hm m hme).more fun f hf => ⟨f, List.mem_append.2 (.inl hf), fun _ => Iff.rfl⟩⟩
theorem up_app {A : List (List Int)} {c : List Int} {ch : Int → Prop} {n : Int} (h : UP A ch n) : UP (A ++ [c]) ch n := h.more fun f hf => ⟨f, List.mem_append.2 (.inl hf), fun _ => Iff.rfl⟩
theorem add_wf {V : Int} {B : Bd} (h : Wf V B) {d : List Int} (hd : d.Nodup) (h1 : 1 ≤ d.length) (h2 : d.length ≤ 200) (hx : ∀ x ∈ d, Num V x) : Wf V { B with cl := B.cl ++ [d], wt := B.wat2 d } := by
 obtain ⟨w1, w2, w3, w4⟩ := wat2_in h hd
 have hap : ∀ {i : Nat} {c : List Int}, B.cl[i]? = some c → (B.cl ++ [d])[i]? = some c := fun {i c} hc => by
   have hi := (List.getElem?_eq_some_iff.1 hc).1
   rw [List.getElem?_append_left hi]
   exact hc
 have hown : (B.cl ++ [d])[B.cl.length]? = some d := by simp
 refine ⟨fun c hc => ?_, h.sn, h.sc, h.sr, h.sp, fun n p hp => ?_, w4, fun i c hc n hn => ?_, h.lv⟩
 · rcases List.mem_append.1 hc with hc | hc
   · exact h.cl c hc
   · obtain rfl : c = d := by simpa using hc
     exact ⟨hd, h1, h2, hx⟩
 · rcases w1 n p hp with hp | ⟨e1, e2, e3, e4⟩
   · obtain ⟨c, a1, a2, a3, a4⟩ := h.wi n p hp
     exact ⟨c, hap a1, a2, a3, a4⟩
   · exact ⟨d, by rw [e1]; exact hown, e2, e3, e4⟩
 · simp only at hc
   by_cases hi : i < B.cl.length
   · rw [List.getElem?_append_left hi] at hc
     obtain ⟨o, ho⟩ := h.wa i c hc n hn
     exact ⟨o, w2 n _ ho⟩
   · have hil : i < (B.cl ++ [d]).length := (List.getElem?_eq_some_iff.1 hc).1
     rw [List.length_append] at hil
     obtain rfl : i = B.cl.length := by simp at hil; omega
     rw [hown] at hc
     injection hc with hc
     subst hc
     exact w3 n hn
theorem add_ok {V : Int} {L : List (List Int)} {B : Bd} (h : Inv V L (fun _ => False) B) (h0 : B.level = 0) {c d : List Int} (hl : Laid B c d) (hlen : d.length ≤ 200) (hx : ∀ x ∈ c, Num V x) :
   Inv V (L ++ [c]) (fun _ => False) (B.add d) ∧ (B.add d).level = 0 := by
 have hzero : ∀ n ∈ B.st, n ∈ B.zero := fun n hn => at_zero h.wf.lv h0 hn
 unfold Bd.add
 by_cases hb : d = [] ∨ -(d.getD 0 0) ∈ B.st
 · rw [if_pos hb]
   have hconf : Confl (L ++ [c]) (fun _ => False) := by
     cases hlo : B.lost
     · refine .inr ⟨c, by simp, fun m hm => ?_⟩
       have hmd := (hl.mem m).2 hm
       match d, hb, hl, hmd with
       | [], _, _, hmd => simp at hmd
       | a :: r, hb, hl, hmd =>
         have ha : -a ∈ B.st := by simpa using hb
         exact up_app ((h.snd.zs _ (hzero _ (hl.a0 a r rfl ha m hmd))).same (h.rep hlo).symm)
     · exact confl_app (h.lst hlo)
   exact ⟨⟨⟨h.wf.cl, h.wf.sn, h.wf.sc, h.wf.sr, h.wf.sp, h.wf.wi, h.wf.wd, h.wf.wa, h.wf.lv⟩, h.le, fun e => by simp at e, fun _ => hconf, fun e => by simp at e, ⟨h.one.one, h.one.dn, h.one.dz⟩, ⟨h.snd.st, h.snd.zs⟩, h.zp⟩, h0⟩
 · rw [if_neg hb]
   have hne : d ≠ [] := fun e => hb (.inl e)
   have hn0 : -(d.getD 0 0) ∉ B.st := fun e => hb (.inr e)
   have hd1 : 1 ≤ d.length := by cases d with | nil => exact absurd rfl hne | cons _ _ => simp
   have hxd : ∀ x ∈ d, Num V x := fun x hxx => hx x ((hl.mem x).1 hxx)
   have hwf := add_wf h.wf hl.nd hd1 hlen hxd
   have hrep : B.lost = false → SameCl (L ++ [c]) (B.cl ++ [d]) := fun e => same_app (h.rep e) hl.mem
   have hlst : B.lost = true → Confl (L ++ [c]) (fun _ => False) := fun e => confl_app (h.lst e)
   have hsn : Snd ({ B with cl := B.cl ++ [d], wt := B.wat2 d } : Bd) (fun _ => False) := ⟨fun n hn => up_app (h.snd.st n hn), fun n hn => up_app (h.snd.zs n hn)⟩
   have hdm : d ∈ B.cl ++ [d] := by simp
   have h0m : d.getD 0 0 ∈ d := by cases d with | nil => exact absurd rfl hne | cons a r => simp
   -- what the new clause asks of those gone on from
   have hw : ∀ n ∈ B.st, Wat (-n) d → 2 ≤ d.length ∧ -(d.getD 1 0) ∈ B.st := fun n hn hwt => by
     match d, hwt, hn0 with
     | a :: b :: r, hwt, hn0 =>
       rcases hwt with e | e
       · exact absurd (by simp [← e]; exact hn) hn0
       · exact ⟨by simp, by simp [← e]; exact hn⟩
   by_cases hp : d.getD 0 0 ∉ B.st ∧ (d.length = 1 ∨ -(d.getD 1 0) ∈ B.st)
   · rw [if_pos hp]
     have hu : ∀ m ∈ d, m ≠ d.getD 0 0 → -m ∈ B.st := fun m hm hmn => by
       match d, hp, hl, hm, hmn with
       | [a], _, _, hm, hmn => simp at hm hmn; exact absurd hm hmn
       | a :: b :: r, hp, hl, hm, hmn =>
         have hb' : -b ∈ B.st := by simpa using hp.2
         exact hl.a1 a b r rfl hb' m hm (by simpa using hmn)
     -- as a loop's state with nothing left, so that put's law serves
     generalize hB1 : ({ B with cl := B.cl ++ [d], wt := B.wat2 d } : Bd) = B1 at *
     have e1 : B1.st = B.st := by rw [← hB1]; rfl
     have e2 : B1.zero = B.zero := by rw [← hB1]; rfl
     have e3 : B1.cl = B.cl ++ [d] := by rw [← hB1]
     have e4 : B1.level = 0 := by rw [← hB1]; exact h0
     have e5 : B1.lost = B.lost := by rw [← hB1]
     have e6 : B1.spread = B.spread := by rw [← hB1]
     have e7 : B1.sp = B.sp := by rw [← hB1]
     have hst := st_put B1 (d.getD 0 0) (B.cl.length : Nat)
     have hze : (B1.put (d.getD 0 0) (B.cl.length : Nat)).zero = B.zero ++ [d.getD 0 0] := by rw [zero_put, if_pos e4, e2]
     rw [e1] at hst
     have hs : ∀ n ∈ B.st, n ∈ (B1.put (d.getD 0 0) (B.cl.length : Nat)).st := fun n hn => by rw [hst]; simp [hn]
     have hz : ∀ n ∈ B.zero, n ∈ (B1.put (d.getD 0 0) (B.cl.length : Nat)).zero := fun n hn => by rw [hze]; simp [hn]
     have hone : ∀ e ∈ B.cl ++ [d], e.length = 1 → ∀ x ∈ e, x ∈ (B1.put (d.getD 0 0) (B.cl.length : Nat)).zero := fun e he hle x hxe => by
       rcases List.mem_append.1 he with he | he
       · exact hz x (h.one.one e he hle x hxe)
       · obtain rfl : e = d := by simpa using he
         match e, hle, hxe with
         | [a], _, hxe => rw [hze]; simp at hxe ⊢; exact .inr hxe
     have hlv : ∀ s ∈ (B1.put (d.getD 0 0) (B.cl.length : Nat)).sp, 0 ≤ s.2.1 ∧ s.2.1 ≤ B1.level := fun s hs' => by
       simp only [Bd.put] at hs'
       rcases List.mem_append.1 hs' with hs' | hs'
       · have := h.wf.lv s (e7 ▸ hs'); omega
       · have : s = (d.getD 0 0, B1.level, (B.cl.length : Int)) := by simpa using hs'
         subst this
         simp only [e4]
         omega
     have hspl : (B1.put (d.getD 0 0) (B.cl.length : Nat)).sp.length = B.sp.length + 1 := by simp [Bd.put, e7]
     refine ⟨⟨⟨hwf.cl, ?_, ?_, ?_, ?_, hwf.wi, hwf.wd, hwf.wa, hlv⟩, by show 0 ≤ B1.level; rw [e4]; exact Int.le_refl _, fun e => by show SameCl _ B1.cl; rw [e3]; exact hrep (e5 ▸ e), fun e => hlst (e5 ▸ e), fun e => ?_, ?_, ⟨fun n hn => ?_, fun n hn => ?_⟩, ?_⟩, e4⟩
     · rw [hst, List.nodup_append]
       exact ⟨h.wf.sn, by simp, fun a ha b hb' e => by have : b = d.getD 0 0 := by simpa using hb'
                                                       exact hp.1 (this ▸ e ▸ ha)⟩
     · intro n hn
       rw [hst] at hn ⊢
       rcases List.mem_append.1 hn with hn | hn
       · intro h3
         rcases List.mem_append.1 h3 with h3 | h3
         · exact h.wf.sc n hn h3
         · have : -n = d.getD 0 0 := by simpa using h3
           exact hn0 (by rw [← this, Int.neg_neg]; exact hn)
       · have e : n = d.getD 0 0 := by simpa using hn
         intro h3
         rcases List.mem_append.1 h3 with h3 | h3
         · exact hn0 (e ▸ h3)
         · have e2' : -n = d.getD 0 0 := by simpa using h3
           have := (hxd _ h0m).1
           omega
     · intro n hn
       rw [hst] at hn
       rcases List.mem_append.1 hn with hn | hn
       · exact h.wf.sr n hn
       · have : n = d.getD 0 0 := by simpa using hn
         exact this ▸ hxd _ h0m
     · rw [hspl]
       have := h.wf.sp
       show B1.spread ≤ _
       omega
     · have hk := h.cmp (e5 ▸ e)
       have htk : (B1.put (d.getD 0 0) (B.cl.length : Nat)).st.take (B1.put (d.getD 0 0) (B.cl.length : Nat)).spread = B.st.take B.spread := by
         show ((B1.put (d.getD 0 0) (B.cl.length : Nat)).st).take B1.spread = _
         rw [hst, e6, List.take_append_of_le_length (by rw [st_len]; exact h.wf.sp)]
       rw [htk]
       have hcl : (B1.put (d.getD 0 0) (B.cl.length : Nat)).cl = B.cl ++ [d] := e3
       refine ⟨fun e' he => hone e' (hcl ▸ he), fun n hn e' he hwt => ?_, fun n hn hnz e' he hwt => ?_⟩
       · rw [hcl] at he
         rcases List.mem_append.1 he with he | he
         · obtain ⟨m, hm, hms⟩ := hk.dn n hn e' he hwt
           exact ⟨m, hm, hs m hms⟩
         · obtain rfl : e' = d := by simpa using he
           exact ⟨e'.getD 0 0, h0m, by rw [hst]; simp⟩
       · rw [hcl] at he
         rcases List.mem_append.1 he with he | he
         · obtain ⟨m, hm, hms⟩ := hk.dz n hn (hzero n (List.mem_of_mem_take hn)) e' he hwt
           exact ⟨m, hm, hz m hms⟩
         · obtain rfl : e' = d := by simpa using he
           exact ⟨e'.getD 0 0, h0m, by rw [hze]; simp⟩
     · have hcl : (B1.put (d.getD 0 0) (B.cl.length : Nat)).cl = B.cl ++ [d] := e3
       exact ⟨fun e' he => hone e' (hcl ▸ he), fun n hn => by simp at hn, fun n hn => by simp at hn⟩
     · show UP B1.cl _ n
       rw [e3]
       rw [hst] at hn
       rcases List.mem_append.1 hn with hn | hn
       · exact up_app (h.snd.st n hn)
       · have : n = d.getD 0 0 := by simpa using hn
         subst this
         exact .unit d hdm h0m fun m hm hmn => up_app (h.snd.st _ (hu m hm hmn))
     · show UP B1.cl _ n
       rw [e3]
       rw [hze] at hn
       rcases List.mem_append.1 hn with hn | hn
       · exact up_app (h.snd.zs n hn)
       · have : n = d.getD 0 0 := by simpa using hn
         subst this
         exact .unit d hdm h0m fun m hm hmn => up_app (h.snd.zs _ (hzero _ (hu m hm hmn)))
     · refine ⟨(B1.put (d.getD 0 0) (B.cl.length : Nat)).sp.length, Nat.le_refl _, fun s hs' => ?_, fun s hs' => by rw [List.drop_length] at hs'; simp at hs', fun e => by have : B1.level = 0 := e4; simp only [Bd.put] at e; omega⟩
       rw [List.take_length] at hs'
       have := hlv s hs'
       omega
   · rw [if_neg hp]
     have hso : ∀ n ∈ B.st, Wat (-n) d → d.getD 0 0 ∈ B.st := fun n hn hwt => by
       have := hw n hn hwt
       exact Classical.byContradiction fun e => hp ⟨e, .inr this.2⟩
     have hone : ∀ e ∈ B.cl ++ [d], e.length = 1 → ∀ x ∈ e, x ∈ B.zero := fun e he hle x hxe => by
       rcases List.mem_append.1 he with he | he
       · exact h.one.one e he hle x hxe
       · obtain rfl : e = d := by simpa using he
         have hin : e.getD 0 0 ∈ B.st := Classical.byContradiction fun e' => hp ⟨e', .inl hle⟩
         match e, hle, hxe, hin with
         | [a], _, hxe, hin => simp at hxe hin; exact hxe ▸ hzero _ hin
     refine ⟨⟨hwf, h.le, hrep, hlst, fun e => ⟨hone, fun n hn e' he hwt => ?_, fun n hn hnz e' he hwt => ?_⟩, ⟨hone, fun n hn => by simp at hn, fun n hn => by simp at hn⟩, hsn, h.zp⟩, h0⟩
     · rcases List.mem_append.1 he with he | he
       · exact (h.cmp e).dn n hn e' he hwt
       · obtain rfl : e' = d := by simpa using he
         exact ⟨_, h0m, hso n (List.mem_of_mem_take hn) hwt⟩
     · rcases List.mem_append.1 he with he | he
       · exact (h.cmp e).dz n hn hnz e' he hwt
       · obtain rfl : e' = d := by simpa using he
         exact ⟨_, h0m, hzero _ (hso n (List.mem_of_mem_take hn) hwt)⟩
def Bd.nil : Bd := ⟨[], [], 0, false, 0, fun _ => []⟩
theorem nil_ok (V : Int) : Inv V [] (fun _ => False) Bd.nil := by
 have e1 : Bd.nil.st = [] := rfl
 have e2 : Bd.nil.zero = [] := rfl
 have e3 : Bd.nil.cl = [] := rfl
 have e4 : Bd.nil.sp = [] := rfl
 refine ⟨⟨fun c hc => by simp [e3] at hc, by simp [e1], fun n hn => by simp [e1] at hn, fun n hn => by simp [e1] at hn, by simp [Bd.nil], fun n p hp => by simp [Bd.nil] at hp, fun n => by simp [Bd.nil], fun i c hc => by simp [e3] at hc, fun s hs => by simp [e4] at hs⟩, Int.le_refl _, fun _ => .refl _, fun e => by simp [Bd.nil] at e, fun _ => ?_, ?_, ⟨fun n hn => by simp [e1] at hn, fun n hn => by simp [e2] at hn⟩, 0, by simp, by simp, by simp [e4], by simp⟩
 · exact ⟨fun c hc => by simp [e3] at hc, fun n hn => by simp [e1] at hn, fun n hn => by simp [e1] at hn⟩
 · exact ⟨fun c hc => by simp [e3] at hc, fun n hn => by simp at hn, fun n hn => by simp at hn⟩
end Go.Proofs.YtjhkecnnhddhbaaGreatDoor.Pf

namespace Go.Proofs.YtjhkecnnhddhbaaGreatDoor.Pf
open Go.RowKit Go.Maps Go.WideMaps
set_option maxRecDepth 100000
theorem law3 : Keyed Tryz.prog 3 := int_keyed Tryz.underlying3
theorem zero3 (w : World) : (zeroValue 3).run Tryz.prog w = .ok (.int .i64 0) w := by kernel_rfl
theorem lit_inj {a b : Int} (h : (DataW.lit (.int .i64 a) : DataW Unit) = .lit (.int .i64 b)) : a = b := by simpa using h
structure SoIs (st : List Int) (D : DataW Unit) : Prop where
 has : ∀ x : Int, Maps.has D (.int .i64 x) = decide (x ∈ st)
 at' : ∀ (i : Nat) (x : Int), st[i]? = some x → D.atKey (.int .i64 x) (.lit (.int .i64 0)) = .lit (.int .i64 i)
theorem soIs_zero : SoIs [] (.map []) := ⟨fun _ => by simp; rfl, fun i x h => by simp at h⟩
theorem SoIs.put {st : List Int} {D : DataW Unit} (h : SoIs st D) (hm : IsMap D) {x : Int} (hx : x ∉ st) : SoIs (st ++ [x]) (D.put (.int .i64 x) (.lit (.int .i64 st.length))) := by
 refine ⟨fun y => ?_, fun i y hy => ?_⟩
 · by_cases e : y = x
   · subst e
     rw [has_put_same hm (k := .int .i64 y) trivial]
     simp
   · rw [has_put_other (by simpa using e), h.has y]
     simp [e]
 · by_cases hi : i < st.length
   · rw [List.getElem?_append_left hi] at hy
     have hm' : y ∈ st := List.mem_of_getElem? hy
     have e : y ≠ x := fun e => hx (e ▸ hm')
     rw [atKey_put_other (by simpa using e)]
     exact h.at' i y hy
   · have hil : i < (st ++ [x]).length := (List.getElem?_eq_some_iff.1 hy).1
     rw [List.length_append] at hil
     obtain rfl : i = st.length := by simp at hil; omega
     have : y = x := by simpa using hy.symm
     subst this
     rw [atKey_put_same hm (k := .int .i64 y) trivial]
def Sm (w : World) (S n : Nat) (st : List Int) : Prop := ∃ D : DataW Unit, w.ownsMap Tryz.prog 3 (plainElem Tryz.prog 3) S n D ∧ SoIs st D
theorem map_same {H : Type} {P : Program} {k : TypeId} {R : Value → Option (DataW H × List MemPlace)} {w w1 : World} {b n : Nat} {D : DataW H} (h : w.ownsMap P k R b n D) (e : w1.heap[b]? = w.heap[b]?) : w1.ownsMap P k R b n D := by
 obtain ⟨es, cl, h1, h2⟩ := h
 exact ⟨es, cl, e.trans h1, h2⟩
theorem Sm.same {w w1 : World} {S n : Nat} {st : List Int} (h : Sm w S n st) (e : w1.heap[S]? = w.heap[S]?) : Sm w1 S n st := by
 obtain ⟨D, h1, h2⟩ := h
 exact ⟨D, map_same h1 e, h2⟩
theorem row_same {w w1 : World} {base : Nat} {e : TypeId} {sz : Nat} {v : Value} {n : Nat} {xs : List Value} (h : w.ownsRow base e sz v n xs) (hb : ∀ g, v.ownBlock = some g → w1.heap[g]? = w.heap[g]?) : w1.ownsRow base e sz v n xs := by
 refine ⟨h.1, ?_⟩
 rcases h.2 with hn | ⟨g, cap, cur, rfl, hbg, hg, rest⟩
 · exact .inl hn
 · exact .inr ⟨g, cap, cur, rfl, hbg, (hb g rfl).trans hg, rest⟩
def Small (x : Int) : Prop := -1000000 ≤ x ∧ x ≤ 1000000
theorem key3 {x : Int} (h : Small x) : keyOf Tryz.prog 3 (.int .i64 x) = some (.int .i64 x) := keyOf_int_mk Tryz.underlying3 (WalkArith.wf_i64 (by have := h.1; have := h.2; omega))
theorem look103 {w : World} {S n : Nat} {st : List Int} (h : Sm w S n st) {x : Int} (hx : Small x) :
   ∃ c, (Instr.lookup 127 (.map (some S)) (.int .i64 x) true).run Tryz.prog w = .ok (.tuple #[.int .i64 c, .bool (decide (x ∈ st))]) w ∧ ∀ i : Nat, st[i]? = some x → c = i := by
 obtain ⟨D, h1, h2⟩ := h
 obtain ⟨v, ps, h3, h4⟩ := World.ownsMap.look_ok h1 law3 Tryz.underlying127 (zero3 _) (plainElem_int Tryz.underlying3 (a := 0) (by decide)) (key3 hx)
 obtain ⟨c, rfl, h5, _⟩ := plainElem_int_inv Tryz.underlying3 h4
 rw [h2.has x] at h3
 refine ⟨c, h3, fun i hi => ?_⟩
 have h6 := h2.at' i x hi
 have h7 := congrArg Prod.fst h5
 simp only at h7
 rw [h6] at h7
 exact (lit_inj h7).symm
set_option maxHeartbeats 1000000 in
theorem isSo_any (R S n : Nat) (st : List Int) (x : Int) (hx : Small x) (w : World) (h5 : w.cell? ⟨R, 5, none⟩ = some (.map (some S))) (hS : Sm w S n st) :
   Calls Tryz.prog 203 #[.pointer (some ⟨R, 0, none⟩), .int .i64 x] w fun e w' => e = .returned (.bool (decide (x ∈ st))) ∧ w' = w := by
 obtain ⟨c, hl, _⟩ := look103 hS hx
 clear hS
 generalize decide (x ∈ st) = t at *
 go_enter Tryz.func203, Tryz.ntmps203
 go_wp2_with fail
 go_ret
 exact ⟨rfl, rfl⟩
theorem Small.neg {x : Int} (h : Small x) : Small (-x) := ⟨by have := h.2; omega, by have := h.1; omega⟩
set_option maxHeartbeats 1000000 in
theorem isNot_any (R S n : Nat) (st : List Int) (x : Int) (hx : Small x) (w : World) (h5 : w.cell? ⟨R, 5, none⟩ = some (.map (some S))) (hS : Sm w S n st) :
   Calls Tryz.prog 204 #[.pointer (some ⟨R, 0, none⟩), .int .i64 x] w fun e w' => e = .returned (.bool (decide (-x ∈ st))) ∧ w' = w := by
 have HI := hide (isSo_any R S n st (-x) hx.neg w h5 hS)
 have h1 := hx.1
 have h2 := hx.2
 clear hS
 generalize decide (-x ∈ st) = t at *
 go_enter Tryz.func204, Tryz.ntmps204
 go_wp2_with (go_at_call 203; refine HI.out.mono ?_; rintro e w' ⟨rfl, rfl⟩)
 go_ret
 exact ⟨rfl, rfl⟩
def flatS (l : List (Int × Int × Int)) : List Value := l.flatMap fun p => [.int .i64 p.1, .int .i64 p.2.1, .int .i64 p.2.2]
theorem flatS_app (l : List (Int × Int × Int)) (p : Int × Int × Int) : flatS (l ++ [p]) = flatS l ++ [.int .i64 p.1, .int .i64 p.2.1, .int .i64 p.2.2] := by simp [flatS]
def flatW (l : List (Nat × Int)) : List Value := l.flatMap fun p => [.int .i64 p.1, .int .i64 p.2]
theorem flatW_app (l : List (Nat × Int)) (p : Nat × Int) : flatW (l ++ [p]) = flatW l ++ [.int .i64 p.1, .int .i64 p.2] := by simp [flatW]
def slD (b o n c : Nat) : DataW Unit := .agg [.lit (.int .i64 b), .lit (.int .i64 o), .lit (.int .i64 n), .lit (.int .i64 c)]
def slR : Value → Option (DataW Unit × List MemPlace)
 | .slice (some ⟨b, o, none⟩) n c => some (slD b o n c, [])
 | .slice none 0 0 => some (.nil, [])
 | _ => none
def slV : Value → DataW Unit
 | .slice (some ⟨b, o, none⟩) n c => slD b o n c
 | _ => .nil
theorem slD_inj {b o n c b' o' n' c' : Nat} (h : slD b o n c = slD b' o' n' c') : b = b' ∧ o = o' ∧ n = n' ∧ c = c' := by
 unfold slD at h
 simp at h
 omega
def IsSl (v : Value) : Prop := v = .slice none 0 0 ∨ ∃ g n c, v = .slice (some ⟨g, 0, none⟩) n c
theorem slR_of {v : Value} (h : IsSl v) : slR v = some (slV v, []) := by
 rcases h with rfl | ⟨g, n, c, rfl⟩ <;> rfl
theorem slV_inj {v u : Value} (hv : IsSl v) (hu : ∃ ps, slR u = some (slV v, ps)) : u = v := by
 obtain ⟨ps, hu⟩ := hu
 unfold slR at hu
 split at hu
 · injection hu with hu
   have h1 := (Prod.mk.inj hu).1
   rcases hv with rfl | ⟨g, n, c, rfl⟩
   · simp [slV, slD] at h1
   · obtain ⟨rfl, rfl, rfl, rfl⟩ := slD_inj h1
     rfl
 · injection hu with hu
   have h1 := (Prod.mk.inj hu).1
   rcases hv with rfl | ⟨g, n, c, rfl⟩
   · rfl
   · simp [slV, slD] at h1
 · cases hu
theorem row_sl {w : World} {base : Nat} {e : TypeId} {sz : Nat} {v : Value} {n : Nat} {xs : List Value} (h : w.ownsRow base e sz v n xs) : IsSl v := by
 rcases h.2 with ⟨rfl, _⟩ | ⟨g, cap, cur, rfl, _⟩
 · exact .inl rfl
 · exact .inr ⟨g, n, cap, rfl⟩
theorem zero123 (w : World) : (zeroValue 230).run Tryz.prog w = .ok (.slice none 0 0) w := by kernel_rfl
def Wm (w : World) (W n : Nat) (wv : Int → Value) : Prop := ∃ D : DataW Unit, w.ownsMap Tryz.prog 3 slR W n D ∧ ∀ x : Int, D.atKey (.int .i64 x) .nil = slV (wv x)
theorem Wm.same {w w1 : World} {W n : Nat} {wv : Int → Value} (h : Wm w W n wv) (e : w1.heap[W]? = w.heap[W]?) : Wm w1 W n wv := by
 obtain ⟨D, h1, h2⟩ := h
 exact ⟨D, map_same h1 e, h2⟩
theorem look104 {w : World} {W n : Nat} {wv : Int → Value} (h : Wm w W n wv) {x : Int} (hx : Small x) (hv : IsSl (wv x)) :
   (Instr.lookup 206 (.map (some W)) (.int .i64 x) false).run Tryz.prog w = .ok (wv x) w := by
 obtain ⟨D, h1, h2⟩ := h
 obtain ⟨v, ps, h3, h4⟩ := World.ownsMap.lookup h1 law3 Tryz.underlying206 (zero123 _) (show slR (.slice none 0 0) = some (.nil, []) from rfl) (key3 hx)
 rw [h2 x] at h4
 rw [h3, slV_inj hv ⟨ps, h4⟩]
theorem Wm.put {w1 : World} {W n : Nat} {wv : Int → Value} {D : DataW Unit} (hm : IsMap D) (h2 : ∀ x : Int, D.atKey (.int .i64 x) .nil = slV (wv x)) {x : Int} {v : Value} (h : w1.ownsMap Tryz.prog 3 slR W n (D.put (.int .i64 x) (slV v))) : Wm w1 W n (upd wv x v) := by
 refine ⟨_, h, fun y => ?_⟩
 by_cases e : y = x
 · subst e
   rw [atKey_put_same hm (k := .int .i64 y) trivial, upd_same]
 · rw [atKey_put_other (by simpa using e), upd_ne _ _ e]
   exact h2 y
structure Mb (w : World) (X : Nat → Prop) (R S W nS nW : Nat) (vc vs : Value) (wk : Int) (cg cc : Nat → Nat) (wv : Int → Value) (B : Bd) : Prop where
 bd : w.heap[R]? = some (.cells #[vc, vs, .int .i64 B.level, .bool B.lost, .int .i64 wk, .map (some S), .map (some W), .int .i64 B.spread] 208 (0, 0))
 so : Sm w S nS B.st
 wm : Wm w W nW wv
 st : w.ownsRow 0 220 3 vs B.sp.length (flatS B.sp)
 rw : w.ownsRow 0 25 1 vc B.cl.length ((List.range B.cl.length).map fun i => .slice (some ⟨cg i, 0, none⟩) (B.cl.getD i []).length (cc i))
 cl : ∀ i, i < B.cl.length → w.ownsRow 0 3 1 (.slice (some ⟨cg i, 0, none⟩) (B.cl.getD i []).length (cc i)) (B.cl.getD i []).length ((B.cl.getD i []).map (Value.int .i64))
 wl : ∀ x, w.ownsRow 0 229 2 (wv x) (B.wt x).length (flatW (B.wt x))
 cn : ∀ i j, i < B.cl.length → j < B.cl.length → cg i = cg j → i = j
 wn : ∀ x y g, (wv x).ownBlock = some g → (wv y).ownBlock = some g → x = y
 sw : S ≠ W
 xr : X R
 xs : X S
 xw : X W
 xt : ∀ g, vs.ownBlock = some g → X g
 xc : ∀ g, vc.ownBlock = some g → X g
 xi : ∀ i, i < B.cl.length → X (cg i)
 xl : ∀ x g, (wv x).ownBlock = some g → X g
 xb : ∀ g, X g → g < w.heap.size
structure Fr (X : Nat → Prop) (w w' : World) (X' : Nat → Prop) : Prop where
 os : w'.os = w.os
 tape : w'.tape = w.tape
 output : w'.output = w.output
 size : w.heap.size ≤ w'.heap.size
 far : ∀ g, g < w.heap.size → ¬ X g → w'.heap[g]? = w.heap[g]?
 to : ∀ g, X g → X' g
 fro : ∀ g, g < w.heap.size → X' g → X g
theorem Fr.refl (X : Nat → Prop) (w : World) : Fr X w w X := ⟨rfl, rfl, rfl, Nat.le_refl _, fun _ _ _ => rfl, fun _ h => h, fun _ _ h => h⟩
theorem Fr.trans {X Y Z : Nat → Prop} {a b c : World} (h : Fr X a b Y) (k : Fr Y b c Z) : Fr X a c Z :=
 ⟨k.os.trans h.os, k.tape.trans h.tape, k.output.trans h.output, Nat.le_trans h.size k.size, fun g hg hx => (k.far g (Nat.lt_of_lt_of_le hg h.size) fun e => hx (h.fro g hg e)).trans (h.far g hg hx), fun g e => k.to g (h.to g e), fun g hg e => h.fro g hg (k.fro g (Nat.lt_of_lt_of_le hg h.size) e)⟩
theorem Fr.below {X Y : Nat → Prop} {a b : World} (h : Fr X a b Y) {base : Nat} (hb : base ≤ a.heap.size) (hx : ∀ g, X g → base ≤ g) : Below base a b :=
 ⟨h.os, h.tape, h.output, h.size, fun k hk => h.far k (by omega) fun e => by have := hx k e; omega⟩
theorem Fr.quiet {X : Nat → Prop} {a b : World} (h : Below a.heap.size a b) : Fr X a b X := ⟨h.os, h.tape, h.output, h.size, fun g hg _ => h.block g hg, fun _ e => e, fun _ _ e => e⟩
theorem Fr.cell {X Y : Nat → Prop} {a b : World} (h : Fr X a b Y) {q : Addr} {v : Value} (hq : a.cell? q = some v) (hx : ¬ X q.block) : b.cell? q = some v := by
 rw [World.cell?_of_block (w := a) (h.far _ (World.block_lt_of_cell? _ _ hq) hx)]
 exact hq
section
variable {w : World} {X : Nat → Prop} {R S W nS nW : Nat} {vc vs : Value} {wk : Int} {cg cc : Nat → Nat} {wv : Int → Value} {B : Bd}
theorem Mb.later {w1 : World} (h : Mb w X R S W nS nW vc vs wk cg cc wv B) (hb : Below w.heap.size w w1) : Mb w1 X R S W nS nW vc vs wk cg cc wv B := by
 have lt : ∀ {g o}, w.heap[g]? = some o → g < w.heap.size := fun h => (Array.getElem?_eq_some_iff.1 h).1
 have row : ∀ {e : TypeId} {sz : Nat} {v : Value} {n : Nat} {xs : List Value}, w.ownsRow 0 e sz v n xs → w1.ownsRow 0 e sz v n xs := fun hr => row_same hr fun g hg => hb.block g (hr.lt g hg).2
 refine ⟨(hb.block R (lt h.bd)).trans h.bd, h.so.same ?_, h.wm.same ?_, row h.st, row h.rw, fun i hi => row (h.cl i hi), fun x => row (h.wl x), h.cn, h.wn, h.sw, h.xr, h.xs, h.xw, h.xt, h.xc, h.xi, h.xl, fun g hg => Nat.lt_of_lt_of_le (h.xb g hg) hb.size⟩
 · obtain ⟨D, h1, _⟩ := h.so; exact hb.block S h1.lt
 · obtain ⟨D, h1, _⟩ := h.wm; exact hb.block W h1.lt
theorem Mb.c0 (h : Mb w X R S W nS nW vc vs wk cg cc wv B) : w.cell? ⟨R, 0, none⟩ = some vc := by rw [Lib.cell_of_heap h.bd]; rfl
theorem Mb.c1 (h : Mb w X R S W nS nW vc vs wk cg cc wv B) : w.cell? ⟨R, 1, none⟩ = some vs := by rw [Lib.cell_of_heap h.bd]; rfl
theorem Mb.c2 (h : Mb w X R S W nS nW vc vs wk cg cc wv B) : w.cell? ⟨R, 2, none⟩ = some (.int .i64 B.level) := by rw [Lib.cell_of_heap h.bd]; rfl
theorem Mb.c3 (h : Mb w X R S W nS nW vc vs wk cg cc wv B) : w.cell? ⟨R, 3, none⟩ = some (.bool B.lost) := by rw [Lib.cell_of_heap h.bd]; rfl
theorem Mb.c4 (h : Mb w X R S W nS nW vc vs wk cg cc wv B) : w.cell? ⟨R, 4, none⟩ = some (.int .i64 wk) := by rw [Lib.cell_of_heap h.bd]; rfl
theorem Mb.c5 (h : Mb w X R S W nS nW vc vs wk cg cc wv B) : w.cell? ⟨R, 5, none⟩ = some (.map (some S)) := by rw [Lib.cell_of_heap h.bd]; rfl
theorem Mb.c6 (h : Mb w X R S W nS nW vc vs wk cg cc wv B) : w.cell? ⟨R, 6, none⟩ = some (.map (some W)) := by rw [Lib.cell_of_heap h.bd]; rfl
theorem Mb.c7 (h : Mb w X R S W nS nW vc vs wk cg cc wv B) : w.cell? ⟨R, 7, none⟩ = some (.int .i64 B.spread) := by rw [Lib.cell_of_heap h.bd]; rfl
theorem Mb.fz (h : Mb w X R S W nS nW vc vs wk cg cc wv B) (k : Nat) : w.frozen? ⟨R, k, none⟩ = false := Lib.frozen_of_heap h.bd k
end
end Go.Proofs.YtjhkecnnhddhbaaGreatDoor.Pf

namespace Go.Proofs.YtjhkecnnhddhbaaGreatDoor.Pf
open Go.RowKit Go.Maps Go.WideMaps
set_option maxRecDepth 100000
theorem info115 : (Tryz.prog.info? 220).map (fun i => (i.zero, i.size, i.bytes)) = some (some (.agg #[.int .i64 0, .int .i64 0, .int .i64 0]), 3, 24) := by kernel_rfl
theorem info120 : (Tryz.prog.info? 229).map (fun i => (i.zero, i.size, i.bytes)) = some (some (.agg #[.int .i64 0, .int .i64 0]), 2, 16) := by kernel_rfl
theorem row_ne {w : World} {base : Nat} {e T : TypeId} {sz : Nat} {v : Value} {n : Nat} {xs : List Value} {b : Nat} {cs : Array Value} {fr : Nat × Nat} (hown : w.ownsRow base e sz v n xs) (hb : w.heap[b]? = some (.cells cs T fr)) (hTe : T ≠ e) : v.ownBlock ≠ some b := by
 rcases hown.2 with ⟨rfl, _⟩ | ⟨g, cap, cur, rfl, _, hg, _⟩
 · simp [Value.ownBlock]
 · intro h
   simp only [Value.ownBlock, Option.some.injEq] at h
   subst h
   rw [hg] at hb
   simp only [Option.some.injEq, Obj.cells.injEq] at hb
   exact hTe hb.2.1.symm
theorem rows_ne {w : World} {b1 b2 : Nat} {e1 e2 : TypeId} {s1 s2 : Nat} {v1 v2 : Value} {n1 n2 : Nat} {x1 x2 : List Value} (h1 : w.ownsRow b1 e1 s1 v1 n1 x1) (h2 : w.ownsRow b2 e2 s2 v2 n2 x2) (he : e1 ≠ e2) {g : Nat} (hg : v1.ownBlock = some g) : v2.ownBlock ≠ some g := by
 rcases h1.2 with ⟨rfl, _⟩ | ⟨g1, cap, cur, rfl, _, hg1, _⟩
 · simp [Value.ownBlock] at hg
 · simp only [Value.ownBlock, Option.some.injEq] at hg
   subst hg
   exact row_ne h2 hg1 he
theorem row_nmap {w : World} {base : Nat} {e : TypeId} {sz : Nat} {v : Value} {n : Nat} {xs : List Value} (hown : w.ownsRow base e sz v n xs) {H : Type} {P : Program} {k : TypeId} {R : Value → Option (DataW H × List MemPlace)} {b m : Nat} {D : DataW H} (hm : w.ownsMap P k R b m D) : v.ownBlock ≠ some b := by
 obtain ⟨es, cl, h1, _⟩ := hm
 rcases hown.2 with ⟨rfl, _⟩ | ⟨g, cap, cur, rfl, _, hg, _⟩
 · simp [Value.ownBlock]
 · intro h
   simp only [Value.ownBlock, Option.some.injEq] at h
   subst h
   rw [hg] at h1
   cases h1
theorem heap_nmap {w : World} {H : Type} {P : Program} {k : TypeId} {R : Value → Option (DataW H × List MemPlace)} {b m : Nat} {D : DataW H} (hm : w.ownsMap P k R b m D) {g : Nat} {cs : Array Value} {T : TypeId} {fr : Nat × Nat} (hg : w.heap[g]? = some (.cells cs T fr)) : b ≠ g := by
 obtain ⟨es, cl, h1, _⟩ := hm
 intro e
 subst e
 rw [hg] at h1
 cases h1
theorem size_set (w : World) (q : Addr) (u : Value) : (w.setCell q u).heap.size = w.heap.size := by
 simp
section
variable {w : World} {X : Nat → Prop} {R S W nS nW : Nat} {vc vs : Value} {wk : Int} {cg cc : Nat → Nat} {wv : Int → Value} {B : Bd}
theorem Mb.neS (h : Mb w X R S W nS nW vc vs wk cg cc wv B) : S ≠ R := by obtain ⟨D, h1, _⟩ := h.so; exact heap_nmap h1 h.bd
theorem Mb.neW (h : Mb w X R S W nS nW vc vs wk cg cc wv B) : W ≠ R := by obtain ⟨D, h1, _⟩ := h.wm; exact heap_nmap h1 h.bd
theorem Mb.board {w1 : World} (h : Mb w X R S W nS nW vc vs wk cg cc wv B) (hs : w.heap.size ≤ w1.heap.size) (hb : ∀ g, g ≠ R → w1.heap[g]? = w.heap[g]?) (level : Int) (lost : Bool) (spread : Nat) (wk' : Int)
   (hR : w1.heap[R]? = some (.cells #[vc, vs, .int .i64 level, .bool lost, .int .i64 wk', .map (some S), .map (some W), .int .i64 spread] 208 (0, 0))) : Mb w1 X R S W nS nW vc vs wk' cg cc wv { B with level := level, lost := lost, spread := spread } := by
 have row : ∀ {e : TypeId} {sz : Nat} {v : Value} {n : Nat} {xs : List Value}, 208 ≠ e → w.ownsRow 0 e sz v n xs → w1.ownsRow 0 e sz v n xs := fun he hr => row_same hr fun g hg => hb g fun e' => row_ne hr h.bd he (e' ▸ hg)
 exact ⟨hR, h.so.same (hb S h.neS), h.wm.same (hb W h.neW), row (by decide) h.st, row (by decide) h.rw, fun i hi => row (by decide) (h.cl i hi), fun x => row (by decide) (h.wl x), h.cn, h.wn, h.sw, h.xr, h.xs, h.xw, h.xt, h.xc, h.xi, h.xl, fun g hg => Nat.lt_of_lt_of_le (h.xb g hg) hs⟩
theorem Mb.work (h : Mb w X R S W nS nW vc vs wk cg cc wv B) (k : Int) : Mb (w.setCell ⟨R, 4, none⟩ (.int .i64 k)) X R S W nS nW vc vs k cg cc wv B :=
 h.board ((Below.refl 0 w).setCell (Nat.zero_le _) _).size (fun g hg => Below.heap_setCell _ _ _ _ hg) B.level B.lost B.spread k (by rw [heap_setCell_same _ _ _ _ _ _ h.bd]; rfl)
theorem Fr.set {q : Addr} (hq : X q.block) (u : Value) : Fr X w (w.setCell q u) X := by
 have hb : Below 0 w (w.setCell q u) := (Below.refl 0 w).setCell (Nat.zero_le _) u
 exact ⟨hb.os, hb.tape, hb.output, hb.size, fun g _ hx => Below.heap_setCell _ _ _ _ fun e => hx (e ▸ hq), fun _ e => e, fun _ _ e => e⟩
theorem Fr.grown {w1 : World} {row : Option Nat} (hg : w.grownBy w1 row) (hr : ∀ g, row = some g → X g) : Fr X w w1 X := ⟨hg.os, hg.tape, hg.output, hg.size, fun g h hx => hg.block g h fun e => hx (hr g e.symm), fun _ e => e, fun _ _ e => e⟩
theorem Mb.put {w3 : World} {X' : Nat → Prop} {vs' : Value} {wk' : Int} {n c : Int} (h : Mb w X R S W nS nW vc vs wk cg cc wv B)
   (hb : ∀ g, g < w.heap.size → g ≠ R → g ≠ S → vs.ownBlock ≠ some g → w3.heap[g]? = w.heap[g]?) (hx : ∀ g, X g → X' g)
   (hR : w3.heap[R]? = some (.cells #[vc, vs', .int .i64 B.level, .bool B.lost, .int .i64 wk', .map (some S), .map (some W), .int .i64 B.spread] 208 (0, 0)))
   (hS : Sm w3 S (nS + 1) (B.st ++ [n])) (hst : w3.ownsRow 0 220 3 vs' (B.sp.length + 1) (flatS (B.sp ++ [(n, B.level, c)]))) (hxt : ∀ g, vs'.ownBlock = some g → X' g) (hxb : ∀ g, X' g → g < w3.heap.size) :
   Mb w3 X' R S W (nS + 1) nW vc vs' wk' cg cc wv (B.put n c) := by
 have hso := h.so
 have hwm := h.wm
 obtain ⟨D, h1, _⟩ := hso
 obtain ⟨D2, h2, _⟩ := hwm
 have row : ∀ {e : TypeId} {sz : Nat} {v : Value} {m : Nat} {xs : List Value}, 208 ≠ e → e ≠ 220 → w.ownsRow 0 e sz v m xs → w3.ownsRow 0 e sz v m xs := fun he he2 hr => row_same hr fun g hg => hb g (hr.lt g hg).2 (fun e' => row_ne hr h.bd he (e' ▸ hg)) (fun e' => row_nmap hr h1 (e' ▸ hg)) (rows_ne hr h.st he2 hg)
 refine ⟨hR, ?_, h.wm.same (hb W h2.lt h.neW (fun e => h.sw e.symm) (row_nmap h.st h2)), ?_, row (by decide) (by decide) h.rw, fun i hi => row (by decide) (by decide) (h.cl i hi), fun x => row (by decide) (by decide) (h.wl x), h.cn, h.wn, h.sw, hx _ h.xr, hx _ h.xs, hx _ h.xw, hxt, fun g e => hx g (h.xc g e), fun i hi => hx _ (h.xi i hi), fun x g e => hx g (h.xl x g e), hxb⟩
 · rw [st_put]; exact hS
 · have : (B.put n c).sp.length = B.sp.length + 1 := by simp [Bd.put]
   rw [this]; exact hst
end
theorem three_news (x y z : Int) (w : World) : ∀ j u, ([.int .i64 x, .int .i64 y, .int .i64 z] : List Value)[j]? = some u → (w.drew.alloc (.cells #[.int .i64 x, .int .i64 y, .int .i64 z] 220)).cell? ((⟨w.heap.size, 0, none⟩ : Addr).add j) = some u := fun j u hj => by
 match j, hj with
 | 0, hj => simp at hj; subst hj; simp [go_sem, Addr.add]
 | 1, hj => simp at hj; subst hj; simp [go_sem, Addr.add]
 | 2, hj => simp at hj; subst hj; simp [go_sem, Addr.add]
theorem three_cell (x y z : Int) : ∀ u ∈ ([.int .i64 x, .int .i64 y, .int .i64 z] : List Value), u.oneCell' = true := fun u hu => by
 simp at hu; rcases hu with rfl | rfl | rfl <;> rfl
set_option maxHeartbeats 4000000 in
theorem put_any (w : World) (X : Nat → Prop) (R S W nS nW : Nat) (vc vs : Value) (wk : Int) (cg cc : Nat → Nat) (wv : Int → Value) (B : Bd) (h : Mb w X R S W nS nW vc vs wk cg cc wv B) (n c : Int) (hn : Small n) (hno : n ∉ B.st) (hl : B.sp.length ≤ 1000000) (hnS : nS ≤ 1000000000000000) :
   Calls Tryz.prog 215 #[.pointer (some ⟨R, 0, none⟩), .int .i64 n, .int .i64 c] w fun e w' => e = .returned (.tuple #[]) ∧ ∃ X' vs' wk', Mb w' X' R S W (nS + 1) nW vc vs' wk' cg cc wv (B.put n c) ∧ Fr X w w' X' := by
 obtain ⟨i0, hi, hz0, hz1, hz2⟩ := info_parts info115
 have c4 := h.c4
 have f4 := h.fz 4
 obtain ⟨ps, cs, rfl⟩ : ∃ p c, vs = .slice p B.sp.length c := by
   rcases h.st.2 with ⟨rfl, h0⟩ | ⟨g, cap, cur, rfl, _⟩
   · rw [h0]; exact ⟨_, _, rfl⟩
   · exact ⟨_, _, rfl⟩
 have H1 := hide (h.work (wrap64 (wk + 1)))
 have HF1 : Hid (Fr X w (w.setCell ⟨R, 4, none⟩ (.int .i64 (wrap64 (wk + 1)))) X) := Fr.set (q := ⟨R, 4, none⟩) h.xr _
 have hHS := h.so
 clear hHS
 go_enter Tryz.func215, Tryz.ntmps215
 go_wp2_with fail
 clear c4 f4 h
 generalize w.setCell ⟨R, 4, none⟩ (.int .i64 (wrap64 (wk + 1))) = w1 at *
 generalize wrap64 (wk + 1) = wk1 at *
 have c1 := H1.out.c1
 have c5 := H1.out.c5
 obtain ⟨D, hD, hDs⟩ := H1.out.so
 have HD := hide hD
 have hst := st_len B
 have HNP := hide (hDs.put hD.isMap hno)
 have hkey := key3 hn
 obtain ⟨w2, hrun2, hown2, hg2⟩ := hD.drew.update law3 Tryz.underlying127 (show nS < maxLen by unfold maxLen; omega) hkey (plainElem_int Tryz.underlying3 (a := (B.sp.length : Int)) (WalkArith.wf_i64 (by omega)))
 have hSR := H1.out.neS
 have d1 : w2.cell? ⟨R, 1, none⟩ = some (.slice ps B.sp.length cs) := hg2.cell c1 (by simpa using fun e => hSR e.symm)
 have d5 : w2.cell? ⟨R, 5, none⟩ = some (.map (some S)) := hg2.cell c5 (by simpa using fun e => hSR e.symm)
 go_region_held3 (fun w' => w'.cell? ⟨R, 1, none⟩ = some (.slice ps B.sp.length cs) ∧ w'.cell? ⟨R, 5, none⟩ = some (.map (some S))) (first | exact ⟨c1, c5⟩ | exact ⟨d1, d5⟩ | go_keep) (fail)
 have hrow2 : w2.ownsRow 0 220 3 (.slice ps B.sp.length cs) B.sp.length (flatS B.sp) := row_same H1.out.st fun g hg => hg2.block g (H1.out.st.lt g hg).2 (fun e => row_nmap H1.out.st HD.out (hg.trans e))
 have d2 : w2.cell? ⟨R, 2, none⟩ = some (.int .i64 B.level) := hg2.cell H1.out.c2 (by simpa using fun e => hSR e.symm)
 have hb2 : w2.heap[R]? = some (.cells #[vc, .slice ps B.sp.length cs, .int .i64 B.level, .bool B.lost, .int .i64 wk1, .map (some S), .map (some W), .int .i64 B.spread] 208 (0, 0)) := (hg2.block R (Array.getElem?_eq_some_iff.1 H1.out.bd).1 (by simpa using fun e => hSR e.symm)).trans H1.out.bd
 have e1 : w2.frozen? ⟨R, 1, none⟩ = false := Lib.frozen_of_heap hb2 1
 have HB2 := hide hb2
 have HRW := hide hrow2
 have HO2 := hide hown2
 have HG2 := hide hg2
 have HIN := hide (And.intro hi (And.intro hz0 (And.intro hz1 hz2)))
 have hR1 := World.block_lt_of_cell? _ _ d1
 simp only at hR1
 have hR2 := World.new_ne w2 ⟨R, 1, none⟩ d1
 simp only at hR2
 have HNE : Hid (Value.ownBlock (.slice ps B.sp.length cs) ≠ some R) := row_ne hrow2 hb2 (by decide)
 clear c1 c5 d5 hown2 hg2 hrow2 hrun2 hi hz0 hz1 hz2 hb2 hD
 go_wp2_with fail
 go_region_law (first
   | (refine step_append_lies _ rfl (.tmp 27) (.tmp 35) 205 rfl 0 220 i0 (.agg #[.int .i64 0, .int .i64 0, .int .i64 0]) 3 24 Tryz.underlying205 HIN.out.1 HIN.out.2.1 HIN.out.2.2.1 HIN.out.2.2.2 rfl (by decide) _ B.sp.length (flatS B.sp) (by simp [Act.eval]) (HRW.out.alloc _) ⟨w2.heap.size, 0, none⟩ 1 1 [.int .i64 n, .int .i64 B.level, .int .i64 c] (by simp [Act.eval]) rfl (three_news n B.level c w2) (three_cell n B.level c) (by decide) (by unfold maxLen; omega) (by omega) (by simp) (w2.heap.size + 1) (by simp) ?_
      intro g cap w3 hown3 hg3 hat3 hlt3
      have g1 := hg3.cell (a := ⟨R, 1, none⟩) (past1 d1 _) (fun e => HNE.out e.symm)
      have f2 : w3.frozen? ⟨R, 1, none⟩ = false := (grown_frozen hg3 (past1 d1 _) (fun e => HNE.out e.symm)).trans (((bal (Below.refl _ _) _).frozen (World.block_lt_of_cell? _ _ d1)).trans e1)))
 all_goals
   have hs2 : w1.heap.size ≤ w2.heap.size := HG2.out.size
   have ha : Below w2.heap.size w2 (w2.alloc (.cells #[.int .i64 n, .int .i64 B.level, .int .i64 c] 220)) := bal (Below.refl _ _) _
   have hs3 := hg3.size
   have h3 : ∀ k, k < w2.heap.size → Value.ownBlock (.slice ps B.sp.length cs) ≠ some k → w3.heap[k]? = w2.heap[k]? := fun k hk hne => (hg3.block k (by have := ha.size; simp at this ⊢; omega) (fun e => hne e.symm)).trans (ha.block k hk)
   have t3 := (h3 R hR1 HNE.out).trans HB2.out
   have hSb : Value.ownBlock (.slice ps B.sp.length cs) ≠ some S := row_nmap HRW.out HO2.out
   have hm4 := map_same (w1 := w3.setCell ⟨R, 1, none⟩ (.slice (some ⟨g, 0, none⟩) (B.sp.length + 1) cap)) HO2.out ((Below.heap_setCell _ _ _ _ hSR).trans (h3 S HO2.out.lt hSb))
   have HFN : Hid (∀ k, k < w1.heap.size → k ≠ R → k ≠ S → Value.ownBlock (.slice ps B.sp.length cs) ≠ some k → (w3.setCell ⟨R, 1, none⟩ (.slice (some ⟨g, 0, none⟩) (B.sp.length + 1) cap)).heap[k]? = w1.heap[k]?) := fun k hk h1 h2 h4 => (Below.heap_setCell _ _ _ _ h1).trans ((h3 k (by omega) h4).trans (HG2.out.block k hk (by simpa using h2)))
   have hne3 := row_ne hown3 t3 (by decide)
   rw [hst] at HNP
   have HM : Hid (Mb (w3.setCell ⟨R, 1, none⟩ (.slice (some ⟨g, 0, none⟩) (B.sp.length + 1) cap)) (fun k => X k ∨ k = g) R S W (nS + 1) nW vc (.slice (some ⟨g, 0, none⟩) (B.sp.length + 1) cap) wk1 cg cc wv (B.put n c)) :=
     H1.out.put HFN.out (fun k hk => .inl hk) (by rw [heap_setCell_same _ _ _ _ _ _ t3]; rfl) ⟨_, hm4, HNP.out⟩ (by rw [flatS_app]; exact ownsRow_setCell_other hown3 hne3 _) (fun k hk => by simp [Value.ownBlock] at hk; exact .inr hk.symm) (fun k hk => by
       have hz : (w3.setCell ⟨R, 1, none⟩ (.slice (some ⟨g, 0, none⟩) (B.sp.length + 1) cap)).heap.size = w3.heap.size := size_set _ _ _
       rcases hk with hk | rfl
       · have := H1.out.xb k hk; have := ha.size; simp at this hs3; omega
       · omega)
   have HF : Hid (Fr X w1 (w3.setCell ⟨R, 1, none⟩ (.slice (some ⟨g, 0, none⟩) (B.sp.length + 1) cap)) (fun k => X k ∨ k = g)) := by
     have hb0 : Below 0 w1 (w3.setCell ⟨R, 1, none⟩ (.slice (some ⟨g, 0, none⟩) (B.sp.length + 1) cap)) := ((((Below.refl 0 w1).drew.grown HG2.out (Nat.zero_le _) (fun _ _ => Nat.zero_le _)).trans (ha.mono (Nat.zero_le _)).drew).grown hg3 (Nat.zero_le _) (fun _ _ => Nat.zero_le _)).setCell (Nat.zero_le _) _
     refine ⟨hb0.os, hb0.tape, hb0.output, hb0.size, fun k hk hx => HFN.out k hk (fun e => hx (e ▸ H1.out.xr)) (fun e => hx (e ▸ H1.out.xs)) (fun e => hx (H1.out.xt k e)), fun k hk => .inl hk, fun k hk hx => ?_⟩
     rcases hx with hx | rfl
     · exact hx
     · rcases hat3 with e | e
       · exact H1.out.xt _ e
       · omega
   have HFF := hide (HF1.out.trans HF.out)
   clear hown3 hg3 hat3 hlt3 g1 f2 ha h3 t3 hm4 HFN hne3 HNP HF HF1
   go_end0
   exact ⟨rfl, _, _, _, HM.out, HFF.out⟩
end Go.Proofs.YtjhkecnnhddhbaaGreatDoor.Pf
