/- Putting in what must be: lists alone. -/
import Derived.Test.YtmambfdimeeijaaGreatDoorCaM
namespace Go.Proofs.YtmambfdimeeijaaGreatDoor.Pf
set_option autoImplicit false
inductive UP (L : List (List Int)) (A : Int → Prop) : Int → Prop
 | base {n : Int} : A n → UP L A n
 | unit {n : Int} (c : List Int) : c ∈ L → n ∈ c → (∀ m ∈ c, m ≠ n → UP L A (-m)) → UP L A n
def Confl (L : List (List Int)) (A : Int → Prop) : Prop := (∃ n, A n ∧ A (-n)) ∨ ∃ c ∈ L, ∀ m ∈ c, UP L A (-m)
theorem UP.more {L M : List (List Int)} {A : Int → Prop} (h : ∀ c ∈ L, ∃ d ∈ M, ∀ x, x ∈ d ↔ x ∈ c) {n : Int} (hn : UP L A n) : UP M A n := by
 induction hn with
 | base ha => exact .base ha
 | unit c hc hm _ ih =>
   obtain ⟨d, hd, hx⟩ := h c hc
   exact .unit d hd ((hx _).2 hm) fun m hm' hne => ih m ((hx _).1 hm') hne
end Go.Proofs.YtmambfdimeeijaaGreatDoor.Pf

namespace Go.Proofs.YtmambfdimeeijaaGreatDoor.Pf
set_option autoImplicit false
structure Bd where
 cl : List (List Int)
 sp : List (Int × Int × Int)
 level : Int
 lost : Bool
 spread : Nat
 wt : Int → List (Nat × Int)
def Bd.st (B : Bd) : List Int := B.sp.map (·.1)
def Bd.zero (B : Bd) : List Int := (B.sp.filter (fun s => s.2.1 == 0)).map (·.1)
def Bd.so (B : Bd) (n : Int) : Bool := decide (n ∈ B.st)
def upd {α : Type} (f : Int → α) (k : Int) (v : α) : Int → α := fun x => if x = k then v else f x
def Bd.put (B : Bd) (n c : Int) : Bd := { B with sp := B.sp ++ [(n, B.level, c)] }
theorem so_iff {B : Bd} {n : Int} : B.so n = true ↔ n ∈ B.st := by simp [Bd.so]
theorem upd_same {α : Type} (f : Int → α) (k : Int) (v : α) : upd f k v k = v := by simp [upd]
theorem upd_ne {α : Type} (f : Int → α) {k x : Int} (v : α) (h : x ≠ k) : upd f k v x = f x := by simp [upd, h]
theorem st_put (B : Bd) (n c : Int) : (B.put n c).st = B.st ++ [n] := by simp [Bd.put, Bd.st]
theorem zero_put (B : Bd) (n c : Int) : (B.put n c).zero = if B.level = 0 then B.zero ++ [n] else B.zero := by
 unfold Bd.put Bd.zero
 by_cases h : B.level = 0
 · simp [List.filter_append, h]
 · simp [List.filter_append, h]
def Num (V x : Int) : Prop := x ≠ 0 ∧ -V ≤ x ∧ x ≤ V
def Wat (n : Int) : List Int → Prop
 | a :: b :: _ => n = a ∨ n = b
 | _ => False
theorem Wat.mem {n : Int} {c : List Int} (h : Wat n c) : n ∈ c := by
 match c, h with
 | a :: b :: r, h => rcases h with rfl | rfl <;> simp
structure Wf (V : Int) (B : Bd) : Prop where
 cl : ∀ c ∈ B.cl, c.Nodup ∧ 1 ≤ c.length ∧ c.length ≤ 200 ∧ ∀ x ∈ c, Num V x
 sn : B.st.Nodup
 sc : ∀ n ∈ B.st, -n ∉ B.st
 sr : ∀ n ∈ B.st, Num V n
 sp : B.spread ≤ B.sp.length
 wi : ∀ n, ∀ p ∈ B.wt n, ∃ c, B.cl[p.1]? = some c ∧ Wat n c ∧ p.2 ∈ c ∧ p.2 ≠ n
 wd : ∀ n, ((B.wt n).map (·.1)).Nodup
 wa : ∀ i c, B.cl[i]? = some c → ∀ n, Wat n c → ∃ o, (i, o) ∈ B.wt n
 lv : ∀ s ∈ B.sp, 0 ≤ s.2.1 ∧ s.2.1 ≤ B.level
structure Cmp (B : Bd) (D : List Int) : Prop where
 one : ∀ c ∈ B.cl, c.length = 1 → ∀ x ∈ c, x ∈ B.zero
 dn : ∀ n ∈ D, ∀ c ∈ B.cl, Wat (-n) c → ∃ m ∈ c, m ∈ B.st
 dz : ∀ n ∈ D, n ∈ B.zero → ∀ c ∈ B.cl, Wat (-n) c → ∃ m ∈ c, m ∈ B.zero
structure Snd (B : Bd) (ch : Int → Prop) : Prop where
 st : ∀ n ∈ B.st, UP B.cl ch n
 zs : ∀ n ∈ B.zero, UP B.cl (fun _ => False) n
def Bd.turnC (B : Bd) (nt : Int) : List Int → List Int × Option Int
 | a :: b :: r =>
   let o := if a = nt then b else a
   if B.so o then (o :: nt :: r, none) else
     match r.findIdx? (fun x => !B.so (-x)) with
     | none => (o :: nt :: r, none)
     | some j => (o :: r.getD j 0 :: r.set j nt, some (r.getD j 0))
 | c => (c, none)
theorem turnC_fst {nt a b : Int} {r : List Int} (hw : Wat nt (a :: b :: r)) (hn : (a :: b :: r).Nodup) :
   ∃ o, o = (if a = nt then b else a) ∧ o ≠ nt ∧ Wat o (a :: b :: r) ∧ (∀ y, y ∈ o :: nt :: r ↔ y ∈ a :: b :: r) ∧ (o :: nt :: r).Nodup ∧ (∀ y, Wat y (a :: b :: r) ↔ (y = o ∨ y = nt)) := by
 have hab : a ≠ b := by intro e; subst e; simp at hn
 rcases hw with rfl | rfl
 · refine ⟨b, by simp, fun e => hab e.symm, .inr rfl, fun y => by simp only [List.mem_cons]; constructor <;> (rintro (h | h | h) <;> simp [h]), ?_, fun y => ?_⟩
   · simp at hn ⊢
     exact ⟨⟨fun e => hab e.symm, hn.2.1⟩, hn.1.2, hn.2.2⟩
   · show (y = nt ∨ y = b) ↔ _
     constructor <;> (rintro (h | h) <;> simp [h])
 · exact ⟨a, by simp [hab], hab, .inl rfl, fun y => Iff.rfl, hn, fun y => Iff.rfl⟩
structure Turned (B : Bd) (nt : Int) (c c' : List Int) (o : Int) (t : Option Int) : Prop where
 mem : ∀ y, y ∈ c' ↔ y ∈ c
 nd : c'.Nodup
 len : c'.length = c.length
 fst : c'.getD 0 0 = o
 ne : o ≠ nt
 old : ∀ y, Wat y c ↔ (y = o ∨ y = nt)
 no : t = none → (∀ y, Wat y c' ↔ (y = o ∨ y = nt)) ∧ (o ∈ B.st ∨ ∀ y ∈ c', y ≠ o → y ≠ nt → -y ∈ B.st)
 yes : ∀ x, t = some x → x ∈ c ∧ x ≠ o ∧ x ≠ nt ∧ -x ∉ B.st ∧ ∀ y, Wat y c' ↔ (y = o ∨ y = x)
theorem nodup_inj {r : List Int} (hn : r.Nodup) {a b : Nat} (ha : a < r.length) (hb : b < r.length) (e : r[a] = r[b]) : a = b := by
 rw [List.nodup_iff_pairwise_ne, List.pairwise_iff_getElem] at hn
 rcases Nat.lt_trichotomy a b with h | h | h
 · exact absurd e (hn a b ha hb h)
 · exact h
 · exact absurd e.symm (hn b a hb ha h)
theorem set_mem {r : List Int} {j : Nat} (hj : j < r.length) (v y : Int) (hn : r.Nodup) (hv : v ∉ r) : y ∈ r.set j v ↔ (y = v ∨ (y ∈ r ∧ y ≠ r[j])) := by
 constructor
 · intro h
   obtain ⟨k, hk, rfl⟩ := List.getElem_of_mem h
   rw [List.length_set] at hk
   rw [List.getElem_set]
   split
   · exact .inl rfl
   · rename_i hjk
     refine .inr ⟨List.getElem_mem hk, fun e => hjk ?_⟩
     exact (nodup_inj hn hk hj e).symm
 · rintro (rfl | ⟨h, hne⟩)
   · exact List.mem_set hj y
   · obtain ⟨k, hk, rfl⟩ := List.getElem_of_mem h
     have hjk : j ≠ k := fun e => hne (by subst e; rfl)
     exact List.mem_iff_getElem.2 ⟨k, by rw [List.length_set]; exact hk, by rw [List.getElem_set_ne hjk]⟩
theorem set_nodup {r : List Int} (j : Nat) (v : Int) (hn : r.Nodup) (hv : v ∉ r) : (r.set j v).Nodup := by
 rw [List.nodup_iff_pairwise_ne, List.pairwise_iff_getElem] at *
 intro a b ha hb hab
 rw [List.length_set] at ha hb
 rw [List.getElem_set, List.getElem_set]
 split
 · split
   · omega
   · intro e; exact hv (e ▸ List.getElem_mem hb)
 · split
   · intro e; exact hv (e ▸ List.getElem_mem ha)
   · exact hn a b ha hb hab
theorem turned {B : Bd} {nt : Int} {c : List Int} (hw : Wat nt c) (hn : c.Nodup) : ∃ o, Turned B nt c (B.turnC nt c).1 o (B.turnC nt c).2 := by
 match c, hw, hn with
 | a :: b :: r, hw, hn =>
   obtain ⟨o, ho, h1, h2, h3, h4, h5⟩ := turnC_fst hw hn
   unfold Bd.turnC
   simp only [← ho]
   have hl : ∀ l : List Int, l.length = r.length → (o :: nt :: l).length = (a :: b :: r).length := fun l hl => by simp [hl]
   by_cases hs : B.so o = true
   · rw [if_pos hs]
     exact ⟨o, h3, h4, by simp, by simp, h1, h5, fun _ => ⟨fun y => Iff.rfl, .inl (so_iff.1 hs)⟩, fun x h => by cases h⟩
   · rw [if_neg hs]
     cases hf : r.findIdx? (fun x => !B.so (-x)) with
     | none =>
       refine ⟨o, h3, h4, by simp, by simp, h1, h5, fun _ => ⟨fun y => Iff.rfl, .inr fun y hy hyo hyn => ?_⟩, fun x h => by cases h⟩
       have hyr : y ∈ r := by simpa [hyo, hyn] using hy
       have := List.findIdx?_eq_none_iff.1 hf y hyr
       simpa [Bd.so] using this
     | some j =>
       obtain ⟨hj, hp, _⟩ := List.findIdx?_eq_some_iff_getElem.1 hf
       have hg : r.getD j 0 = r[j] := by simp [List.getD, List.getElem?_eq_getElem hj]
       simp only [hg]
       have hx : -r[j] ∉ B.st := by simpa [Bd.so] using hp
       have hnr : r.Nodup := by simp at h4; exact h4.2.2
       have hor : o ∉ r := by simp at h4; exact h4.1.2
       have htr : nt ∉ r := by simp at h4; exact h4.2.1
       have hxm := List.getElem_mem hj
       have hxo : r[j] ≠ o := fun e => hor (e ▸ hxm)
       have hxn : r[j] ≠ nt := fun e => htr (e ▸ hxm)
       refine ⟨o, fun y => ?_, ?_, by simp, by simp, h1, h5, (fun h => by cases h), fun x h => ?_⟩
       · rw [← h3 y]
         simp only [List.mem_cons, set_mem hj nt y hnr htr]
         constructor
         · rintro (h | h | h | ⟨h, _⟩) <;> simp [h]
         · rintro (h | h | h)
           · simp [h]
           · simp [h]
           · by_cases e : y = r[j]
             · simp [e]
             · simp [h, e]
       · simp only [List.nodup_cons, List.mem_cons, set_mem hj nt _ hnr htr, not_or]
         exact ⟨⟨fun e => hxo e.symm, h1, fun h => hor h.1⟩, ⟨hxn, fun h => h.2 rfl⟩, set_nodup j nt hnr htr⟩
       · injection h with h
         subst h
         exact ⟨(h3 _).1 (by simp), hxo, hxn, hx, fun y => Iff.rfl⟩
end Go.Proofs.YtmambfdimeeijaaGreatDoor.Pf

namespace Go.Proofs.YtmambfdimeeijaaGreatDoor.Pf
set_option autoImplicit false
structure SameCl (A B : List (List Int)) : Prop where
 to : ∀ c ∈ A, ∃ d ∈ B, ∀ x, x ∈ d ↔ x ∈ c
 fro : ∀ d ∈ B, ∃ c ∈ A, ∀ x, x ∈ c ↔ x ∈ d
theorem SameCl.refl (A : List (List Int)) : SameCl A A := ⟨fun c h => ⟨c, h, fun _ => Iff.rfl⟩, fun c h => ⟨c, h, fun _ => Iff.rfl⟩⟩
theorem SameCl.trans {A B C : List (List Int)} (h : SameCl A B) (k : SameCl B C) : SameCl A C :=
 ⟨fun c hc => by obtain ⟨d, hd, h1⟩ := h.to c hc; obtain ⟨e, he, h2⟩ := k.to d hd; exact ⟨e, he, fun x => (h2 x).trans (h1 x)⟩,
  fun c hc => by obtain ⟨d, hd, h1⟩ := k.fro c hc; obtain ⟨e, he, h2⟩ := h.fro d hd; exact ⟨e, he, fun x => (h2 x).trans (h1 x)⟩⟩
theorem mem_set_cl {A : List (List Int)} {i : Nat} {c' d : List Int} (h : d ∈ A.set i c') : d = c' ∨ d ∈ A := by
 rcases List.mem_or_eq_of_mem_set h with h | h
 · exact .inr h
 · exact .inl h
theorem SameCl.set {A : List (List Int)} {i : Nat} {c c' : List Int} (hc : A[i]? = some c) (hm : ∀ y, y ∈ c' ↔ y ∈ c) : SameCl A (A.set i c') := by
 obtain ⟨hi, e⟩ := List.getElem?_eq_some_iff.1 hc
 refine ⟨fun d hd => ?_, fun d hd => ?_⟩
 · obtain ⟨j, hj, rfl⟩ := List.getElem_of_mem hd
   by_cases h : i = j
   · subst h
     exact ⟨c', List.mem_set hi c', fun x => by rw [hm, e]⟩
   · exact ⟨A[j], List.mem_iff_getElem.2 ⟨j, by rw [List.length_set]; exact hj, by rw [List.getElem_set_ne h]⟩, fun _ => Iff.rfl⟩
 · rcases mem_set_cl hd with rfl | h
   · exact ⟨c, e ▸ List.getElem_mem hi, fun x => (hm x).symm⟩
   · exact ⟨d, h, fun _ => Iff.rfl⟩
theorem UP.same {A B : List (List Int)} (h : SameCl A B) {ch : Int → Prop} {n : Int} (hn : UP A ch n) : UP B ch n := hn.more h.to
structure LI (V nt : Int) (D : List Int) (ch : Int → Prop) (B : Bd) (kept rest : List (Nat × Int)) : Prop where
 wf : Wf V { B with wt := upd B.wt nt (kept ++ rest) }
 nt : -nt ∈ B.st
 cmp : Cmp B D
 ds : ∀ n ∈ D, n ∈ B.st
 snd : Snd B ch
 kd : ∀ p ∈ kept, ∀ c, B.cl[p.1]? = some c → ∃ m ∈ c, m ∈ B.st
 le : 0 ≤ B.level
theorem at_zero {B : Bd} (h : ∀ s ∈ B.sp, 0 ≤ s.2.1 ∧ s.2.1 ≤ B.level) (h0 : B.level = 0) {n : Int} (hn : n ∈ B.st) : n ∈ B.zero := by
 obtain ⟨s, hs, rfl⟩ := List.mem_map.1 hn
 refine List.mem_map.2 ⟨s, List.mem_filter.2 ⟨hs, ?_⟩, rfl⟩
 have := h s hs
 simp
 omega
theorem kept_ne {V nt : Int} {B : Bd} {kept rest : List (Nat × Int)} {i : Nat} {o : Int} (h : Wf V { B with wt := upd B.wt nt (kept ++ (i, o) :: rest) }) : ∀ p ∈ kept ++ rest, p.1 ≠ i := by
 have hd := h.wd nt
 simp only [upd_same, List.map_append, List.map_cons] at hd
 intro p hp e
 rw [List.nodup_append] at hd
 obtain ⟨h1, h2, h3⟩ := hd
 rcases List.mem_append.1 hp with hp | hp
 · exact h3 p.1 (List.mem_map.2 ⟨p, hp, rfl⟩) i (by simp) e
 · rw [List.nodup_cons] at h2
   exact h2.1 (e ▸ List.mem_map.2 ⟨p, hp, rfl⟩)
theorem LI.keep {V nt : Int} {D : List Int} {ch : Int → Prop} {B : Bd} {kept rest : List (Nat × Int)} {i : Nat} {o : Int} (h : LI V nt D ch B kept ((i, o) :: rest)) (ho : o ∈ B.st) : LI V nt D ch B (kept ++ [(i, o)]) rest := by
 refine ⟨by rw [List.append_assoc]; exact h.wf, h.nt, h.cmp, h.ds, h.snd, fun p hp c hc => ?_, h.le⟩
 rcases List.mem_append.1 hp with hp | hp
 · exact h.kd p hp c hc
 · obtain rfl : p = (i, o) := by simpa using hp
   obtain ⟨c', h1, _, h2, _⟩ := h.wf.wi nt (i, o) (by simp [upd_same])
   simp only at h1 hc
   rw [hc] at h1
   injection h1 with h1
   subst h1
   exact ⟨o, h2, ho⟩
theorem LI.there {V nt : Int} {D : List Int} {ch : Int → Prop} {B : Bd} {kept rest : List (Nat × Int)} {i : Nat} {o : Int} (h : LI V nt D ch B kept ((i, o) :: rest)) : ∃ c, B.cl[i]? = some c ∧ Wat nt c ∧ c ∈ B.cl ∧ c.Nodup := by
 obtain ⟨c, h1, h2, _, _⟩ := h.wf.wi nt (i, o) (by simp [upd_same])
 have hc : c ∈ B.cl := List.mem_of_getElem? h1
 exact ⟨c, h1, h2, hc, (h.wf.cl c hc).1⟩
theorem set_at {A : List (List Int)} {i j : Nat} {c' d : List Int} (h : (A.set i c')[j]? = some d) : (j = i ∧ d = c') ∨ (j ≠ i ∧ A[j]? = some d) := by
 rw [List.getElem?_set] at h
 split at h
 · rename_i e
   split at h
   · injection h with h; exact .inl ⟨e.symm, h.symm⟩
   · cases h
 · rename_i e
   exact .inr ⟨fun x => e x.symm, h⟩
theorem set_own {A : List (List Int)} {i : Nat} {c c' : List Int} (h : A[i]? = some c) : (A.set i c')[i]? = some c' := by
 obtain ⟨hi, _⟩ := List.getElem?_eq_some_iff.1 h
 rw [List.getElem?_set]
 simp [hi]
theorem set_other {A : List (List Int)} {i j : Nat} {c' : List Int} (h : j ≠ i) : (A.set i c')[j]? = A[j]? := by
 rw [List.getElem?_set, if_neg (fun e => h e.symm)]
theorem LI.turn {V nt : Int} {D : List Int} {ch : Int → Prop} {B : Bd} {kept rest : List (Nat × Int)} {i : Nat} {o : Int} (h : LI V nt D ch B kept ((i, o) :: rest)) {c c' : List Int} {o' x : Int} (hc : B.cl[i]? = some c) (ht : Turned B nt c c' o' (some x)) :
   LI V nt D ch { B with cl := B.cl.set i c', wt := upd B.wt x (B.wt x ++ [(i, o')]) } kept rest := by
 have hcm : c ∈ B.cl := List.mem_of_getElem? hc
 obtain ⟨hx1, hx2, hx3, hx4, hx5⟩ := ht.yes x rfl
 have hne := kept_ne h.wf
 have hsame : SameCl B.cl (B.cl.set i c') := SameCl.set hc ht.mem
 have h0 := h.wf
 obtain ⟨d1, d2, d3, d4⟩ := h0.cl c hcm
 have hnx : ∀ p ∈ B.wt x, p.1 ≠ i := by
   intro p hp e
   obtain ⟨c2, e1, e2, _, _⟩ := h0.wi x p (by simp only [upd_ne _ _ hx3]; exact hp)
   simp only [e, hc] at e1
   injection e1 with e1
   subst e1
   rcases (ht.old x).1 e2 with e3 | e3
   · exact hx2 e3
   · exact hx3 e3
 have hlen2 : 2 ≤ c'.length := by
   have : Wat x c' := (hx5 x).2 (.inr rfl)
   match c', this with
   | a :: b :: r, _ => simp
 have hcl : ∀ d, d ∈ B.cl.set i c' → d = c' ∨ d ∈ B.cl := fun d hd => mem_set_cl hd
 have ho'c : o' ∈ c' := Wat.mem ((hx5 o').2 (.inl rfl))
 refine ⟨?_, h.nt, ?_, h.ds, ?_, ?_, h.le⟩
 · refine ⟨fun d hd => ?_, h0.sn, h0.sc, h0.sr, h0.sp, ?_, ?_, ?_, h0.lv⟩
   · rcases hcl d hd with rfl | hd
     · exact ⟨ht.nd, by rw [ht.len]; exact d2, by rw [ht.len]; exact d3, fun y hy => d4 y ((ht.mem y).1 hy)⟩
     · exact h0.cl d hd
   · intro n p hp
     simp only at hp ⊢
     by_cases e1 : n = nt
     · subst e1
       rw [upd_same] at hp
       have hpi := hne p hp
       obtain ⟨c2, a1, a2, a3, a4⟩ := h0.wi n p (by
         simp only [upd_same]
         rcases List.mem_append.1 hp with hp | hp
         · exact List.mem_append.2 (.inl hp)
         · exact List.mem_append.2 (.inr (List.mem_cons_of_mem _ hp)))
       exact ⟨c2, by rw [set_other hpi]; exact a1, a2, a3, a4⟩
     · rw [upd_ne _ _ e1] at hp
       by_cases e2 : n = x
       · subst e2
         rw [upd_same] at hp
         rcases List.mem_append.1 hp with hp | hp
         · have hpi := hnx p hp
           obtain ⟨c2, a1, a2, a3, a4⟩ := h0.wi n p (by simp only [upd_ne _ _ e1]; exact hp)
           exact ⟨c2, by rw [set_other hpi]; exact a1, a2, a3, a4⟩
         · obtain rfl : p = (i, o') := by simpa using hp
           exact ⟨c', set_own hc, (hx5 n).2 (.inr rfl), ho'c, fun e => hx2 e.symm⟩
       · rw [upd_ne _ _ e2] at hp
         obtain ⟨c2, a1, a2, a3, a4⟩ := h0.wi n p (by simp only [upd_ne _ _ e1]; exact hp)
         by_cases hpi : p.1 = i
         · simp only [hpi, hc] at a1
           injection a1 with a1
           subst a1
           rcases (ht.old n).1 a2 with e3 | e3
           · exact ⟨c', by rw [hpi]; exact set_own hc, (hx5 n).2 (.inl e3), (ht.mem _).2 a3, a4⟩
           · exact absurd e3 e1
         · exact ⟨c2, by rw [set_other hpi]; exact a1, a2, a3, a4⟩
   · intro n
     simp only
     by_cases e1 : n = nt
     · subst e1
       rw [upd_same]
       have := h0.wd n
       simp only [upd_same] at this
       exact this.sublist (List.Sublist.map _ (List.Sublist.append_left (List.sublist_cons_self _ _) _))
     · rw [upd_ne _ _ e1]
       have hw := h0.wd n
       simp only [upd_ne _ _ e1] at hw
       by_cases e2 : n = x
       · subst e2
         rw [upd_same, List.map_append, List.nodup_append]
         refine ⟨hw, by simp, fun a ha b hb e => ?_⟩
         obtain ⟨p, hp, rfl⟩ := List.mem_map.1 ha
         have : b = i := by simpa using hb
         exact hnx p hp (e.trans this)
       · rw [upd_ne _ _ e2]
         exact hw
   · intro j d hd n hw
     simp only at hd ⊢
     rcases set_at hd with ⟨rfl, rfl⟩ | ⟨hji, hd⟩
     · rcases (hx5 n).1 hw with e | e
       · subst e
         obtain ⟨q, hq⟩ := h0.wa j c hc n ((ht.old n).2 (.inl rfl))
         simp only [upd_ne _ _ ht.ne] at hq
         exact ⟨q, by rw [upd_ne _ _ ht.ne, upd_ne _ _ (fun e => hx2 e.symm)]; exact hq⟩
       · subst e
         exact ⟨o', by rw [upd_ne _ _ hx3, upd_same]; simp⟩
     · obtain ⟨q, hq⟩ := h0.wa j d hd n hw
       simp only at hq
       by_cases e1 : n = nt
       · subst e1
         rw [upd_same] at hq ⊢
         refine ⟨q, ?_⟩
         rcases List.mem_append.1 hq with hq | hq
         · exact List.mem_append.2 (.inl hq)
         · rcases List.mem_cons.1 hq with hq | hq
           · exact absurd (congrArg Prod.fst hq) hji
           · exact List.mem_append.2 (.inr hq)
       · rw [upd_ne _ _ e1] at hq ⊢
         by_cases e2 : n = x
         · subst e2
           exact ⟨q, by rw [upd_same]; exact List.mem_append.2 (.inl hq)⟩
         · exact ⟨q, by rw [upd_ne _ _ e2]; exact hq⟩
 · refine ⟨fun d hd hl y hy => ?_, fun n hn d hd hw => ?_, fun n hn hz d hd hw => ?_⟩
   · rcases hcl d hd with rfl | hd
     · omega
     · exact h.cmp.one d hd hl y hy
   · rcases hcl d hd with rfl | hd
     · rcases (hx5 _).1 hw with e | e
       · obtain ⟨m, hm, hs⟩ := h.cmp.dn n hn c hcm ((ht.old _).2 (.inl e))
         exact ⟨m, (ht.mem m).2 hm, hs⟩
       · exact absurd (by rw [← e, Int.neg_neg]; exact h.ds n hn) hx4
     · exact h.cmp.dn n hn d hd hw
   · rcases hcl d hd with rfl | hd
     · rcases (hx5 _).1 hw with e | e
       · obtain ⟨m, hm, hs⟩ := h.cmp.dz n hn hz c hcm ((ht.old _).2 (.inl e))
         exact ⟨m, (ht.mem m).2 hm, hs⟩
       · exact absurd (by rw [← e, Int.neg_neg]; exact h.ds n hn) hx4
     · exact h.cmp.dz n hn hz d hd hw
 · exact ⟨fun n hn => (h.snd.st n hn).same hsame, fun n hn => (h.snd.zs n hn).same hsame⟩
 · intro p hp d hd
   have hpi := hne p (List.mem_append.2 (.inl hp))
   simp only at hd
   rw [set_other hpi] at hd
   exact h.kd p hp d hd
theorem LI.stay {V nt : Int} {D : List Int} {ch : Int → Prop} {B : Bd} {kept rest : List (Nat × Int)} {i : Nat} {o : Int} (h : LI V nt D ch B kept ((i, o) :: rest)) {c c' : List Int} {o' : Int} (hc : B.cl[i]? = some c) (ht : Turned B nt c c' o' none) :
   LI V nt D ch { B with cl := B.cl.set i c' } kept ((i, o') :: rest) := by
 have hcm : c ∈ B.cl := List.mem_of_getElem? hc
 obtain ⟨hy, _⟩ := ht.no rfl
 have hne := kept_ne h.wf
 have hsame : SameCl B.cl (B.cl.set i c') := SameCl.set hc ht.mem
 have h0 := h.wf
 obtain ⟨d1, d2, d3, d4⟩ := h0.cl c hcm
 have hcl : ∀ d, d ∈ B.cl.set i c' → d = c' ∨ d ∈ B.cl := fun d hd => mem_set_cl hd
 have hiff : ∀ y, Wat y c' ↔ Wat y c := fun y => (hy y).trans (ht.old y).symm
 have hwn : Wat nt c := (ht.old nt).2 (.inr rfl)
 refine ⟨?_, h.nt, ?_, h.ds, ?_, ?_, h.le⟩
 · refine ⟨fun d hd => ?_, h0.sn, h0.sc, h0.sr, h0.sp, ?_, ?_, ?_, h0.lv⟩
   · rcases hcl d hd with rfl | hd
     · exact ⟨ht.nd, by rw [ht.len]; exact d2, by rw [ht.len]; exact d3, fun y hy => d4 y ((ht.mem y).1 hy)⟩
     · exact h0.cl d hd
   · intro n p hp
     simp only at hp ⊢
     have old : (∃ c2, B.cl[p.1]? = some c2 ∧ Wat n c2 ∧ p.2 ∈ c2 ∧ p.2 ≠ n) → ∃ c2, (B.cl.set i c')[p.1]? = some c2 ∧ Wat n c2 ∧ p.2 ∈ c2 ∧ p.2 ≠ n := by
       rintro ⟨c2, a1, a2, a3, a4⟩
       by_cases hpi : p.1 = i
       · rw [hpi, hc] at a1
         injection a1 with a1
         subst a1
         exact ⟨c', by rw [hpi]; exact set_own hc, (hiff n).2 a2, (ht.mem _).2 a3, a4⟩
       · exact ⟨c2, by rw [set_other hpi]; exact a1, a2, a3, a4⟩
     by_cases e1 : n = nt
     · subst e1
       rw [upd_same] at hp
       rcases List.mem_append.1 hp with hp | hp
       · exact old (h0.wi n p (by simp only [upd_same]; exact List.mem_append.2 (.inl hp)))
       · rcases List.mem_cons.1 hp with rfl | hp
         · exact ⟨c', set_own hc, (hiff n).2 hwn, Wat.mem ((hy o').2 (.inl rfl)), ht.ne⟩
         · exact old (h0.wi n p (by simp only [upd_same]; exact List.mem_append.2 (.inr (List.mem_cons_of_mem _ hp))))
     · rw [upd_ne _ _ e1] at hp
       exact old (h0.wi n p (by simp only [upd_ne _ _ e1]; exact hp))
   · intro n
     have := h0.wd n
     simp only at this ⊢
     by_cases e1 : n = nt
     · subst e1
       rw [upd_same] at this ⊢
       simpa using this
     · rw [upd_ne _ _ e1] at this ⊢
       exact this
   · intro j d hd n hw
     simp only at hd ⊢
     have key : ∃ q, (j, q) ∈ upd B.wt nt (kept ++ (i, o) :: rest) n := by
       rcases set_at hd with ⟨rfl, rfl⟩ | ⟨hji, hd⟩
       · exact h0.wa j c hc n ((hiff n).1 hw)
       · exact h0.wa j d hd n hw
     obtain ⟨q, hq⟩ := key
     by_cases e1 : n = nt
     · subst e1
       rw [upd_same] at hq ⊢
       rcases List.mem_append.1 hq with hq | hq
       · exact ⟨q, List.mem_append.2 (.inl hq)⟩
       · rcases List.mem_cons.1 hq with hq | hq
         · have : j = i := congrArg Prod.fst hq
           subst this
           exact ⟨o', by simp⟩
         · exact ⟨q, List.mem_append.2 (.inr (List.mem_cons_of_mem _ hq))⟩
     · rw [upd_ne _ _ e1] at hq ⊢
       exact ⟨q, hq⟩
 · refine ⟨fun d hd hl y hy' => ?_, fun n hn d hd hw => ?_, fun n hn hz d hd hw => ?_⟩
   · rcases hcl d hd with rfl | hd
     · exact h.cmp.one c hcm (by rw [← ht.len]; exact hl) y ((ht.mem y).1 hy')
     · exact h.cmp.one d hd hl y hy'
   · rcases hcl d hd with rfl | hd
     · obtain ⟨m, hm, hs⟩ := h.cmp.dn n hn c hcm ((hiff _).1 hw)
       exact ⟨m, (ht.mem m).2 hm, hs⟩
     · exact h.cmp.dn n hn d hd hw
   · rcases hcl d hd with rfl | hd
     · obtain ⟨m, hm, hs⟩ := h.cmp.dz n hn hz c hcm ((hiff _).1 hw)
       exact ⟨m, (ht.mem m).2 hm, hs⟩
     · exact h.cmp.dz n hn hz d hd hw
 · exact ⟨fun n hn => (h.snd.st n hn).same hsame, fun n hn => (h.snd.zs n hn).same hsame⟩
 · intro p hp d hd
   have hpi := hne p (List.mem_append.2 (.inl hp))
   simp only at hd
   rw [set_other hpi] at hd
   exact h.kd p hp d hd
theorem LI.put {V nt : Int} {D : List Int} {ch : Int → Prop} {B : Bd} {kept rest : List (Nat × Int)} (h : LI V nt D ch B kept rest) {c : List Int} {x k : Int} (hc : c ∈ B.cl) (hx : x ∈ c) (h1 : x ∉ B.st) (h2 : -x ∉ B.st) (hu : ∀ m ∈ c, m ≠ x → -m ∈ B.st) : LI V nt D ch (B.put x k) kept rest := by
 have h0 := h.wf
 have hnum := (h0.cl c hc).2.2.2 x hx
 have hst := st_put B x k
 have hz : ∀ n ∈ B.zero, n ∈ (B.put x k).zero := fun n hn => by rw [zero_put]; split <;> simp [hn]
 have hs : ∀ n ∈ B.st, n ∈ (B.put x k).st := fun n hn => by rw [hst]; simp [hn]
 have hst' : ({ B.put x k with wt := upd (B.put x k).wt nt (kept ++ rest) } : Bd).st = B.st ++ [x] := hst
 have hzo : ∀ n ∈ (B.put x k).zero, n ∈ B.zero ∨ (n = x ∧ B.level = 0) := fun n hn => by
   rw [zero_put] at hn
   split at hn
   · rename_i hl
     rcases List.mem_append.1 hn with hn | hn
     · exact .inl hn
     · exact .inr ⟨by simpa using hn, hl⟩
   · exact .inl hn
 refine ⟨?_, hs _ h.nt, ?_, fun n hn => hs n (h.ds n hn), ?_, fun p hp d hd => ?_, h.le⟩
 · refine ⟨h0.cl, ?_, ?_, ?_, ?_, h0.wi, h0.wd, h0.wa, ?_⟩
   · rw [hst', List.nodup_append]
     refine ⟨h0.sn, by simp, fun a ha b hb e => ?_⟩
     have : b = x := by simpa using hb
     exact h1 (this ▸ e ▸ ha)
   · intro n hn
     rw [hst'] at hn ⊢
     rcases List.mem_append.1 hn with hn | hn
     · intro h3
       rcases List.mem_append.1 h3 with h3 | h3
       · exact h0.sc n hn h3
       · have : -n = x := by simpa using h3
         exact h2 (by rw [← this, Int.neg_neg]; exact hn)
     · have : n = x := by simpa using hn
       subst this
       intro h3
       rcases List.mem_append.1 h3 with h3 | h3
       · exact h2 h3
       · have : -n = n := by simpa using h3
         have := hnum.1
         omega
   · intro n hn
     rw [hst'] at hn
     rcases List.mem_append.1 hn with hn | hn
     · exact h0.sr n hn
     · have : n = x := by simpa using hn
       exact this ▸ hnum
   · have := h0.sp
     simp only [Bd.put, List.length_append] at this ⊢
     omega
   · intro s hs
     simp only [Bd.put] at hs ⊢
     rcases List.mem_append.1 hs with hs | hs
     · exact h0.lv s hs
     · have : s = (x, B.level, k) := by simpa using hs
       subst this
       exact ⟨h.le, Int.le_refl _⟩
 · refine ⟨fun d hd hl y hy => hz y (h.cmp.one d hd hl y hy), fun n hn d hd hw => ?_, fun n hn hnz d hd hw => ?_⟩
   · obtain ⟨m, hm, hms⟩ := h.cmp.dn n hn d hd hw
     exact ⟨m, hm, hs m hms⟩
   · rcases hzo n hnz with h3 | ⟨h3, _⟩
     · obtain ⟨m, hm, hms⟩ := h.cmp.dz n hn h3 d hd hw
       exact ⟨m, hm, hz m hms⟩
     · exact absurd (h3 ▸ h.ds n hn) h1
 · refine ⟨fun n hn => ?_, fun n hn => ?_⟩
   · rw [hst] at hn
     rcases List.mem_append.1 hn with hn | hn
     · exact h.snd.st n hn
     · have : n = x := by simpa using hn
       subst this
       exact .unit c hc hx fun m hm hne => h.snd.st _ (hu m hm hne)
   · rcases hzo n hn with h3 | ⟨rfl, hl⟩
     · exact h.snd.zs n h3
     · exact .unit c hc hx fun m hm hne => h.snd.zs _ (at_zero h0.lv hl (hu m hm hne))
 · obtain ⟨m, hm, hms⟩ := h.kd p hp d hd
   exact ⟨m, hm, hs m hms⟩
end Go.Proofs.YtmambfdimeeijaaGreatDoor.Pf

namespace Go.Proofs.YtmambfdimeeijaaGreatDoor.Pf
set_option autoImplicit false
def look (nt : Int) : Bd → List (Nat × Int) → List (Nat × Int) → Bd × List (Nat × Int) × Int
 | B, kept, [] => (B, kept, -1)
 | B, kept, (i, o) :: rest =>
   if B.so o then look nt B (kept ++ [(i, o)]) rest
   else match B.turnC nt (B.cl.getD i []) with
     | (c', some x) => look nt { B with cl := B.cl.set i c', wt := upd B.wt x (B.wt x ++ [(i, c'.getD 0 0)]) } kept rest
     | (c', none) =>
       if B.so (-(c'.getD 0 0)) then ({ B with cl := B.cl.set i c' }, kept ++ (i, c'.getD 0 0) :: rest, i)
       else if B.so (c'.getD 0 0) then look nt { B with cl := B.cl.set i c' } (kept ++ [(i, c'.getD 0 0)]) rest
       else look nt (({ B with cl := B.cl.set i c' } : Bd).put (c'.getD 0 0) i) (kept ++ [(i, c'.getD 0 0)]) rest
structure LF (B B' : Bd) : Prop where
 level : B'.level = B.level
 lost : B'.lost = B.lost
 spread : B'.spread = B.spread
 same : SameCl B.cl B'.cl
 len : B'.cl.length = B.cl.length
 sp : ∃ t, B'.sp = B.sp ++ t ∧ ∀ s ∈ t, s.2.1 = B.level
theorem LF.refl (B : Bd) : LF B B := ⟨rfl, rfl, rfl, .refl _, rfl, [], by simp, by simp⟩
theorem LF.trans {A B C : Bd} (h : LF A B) (k : LF B C) : LF A C := by
 obtain ⟨t, h1, h2⟩ := h.sp
 obtain ⟨u, k1, k2⟩ := k.sp
 refine ⟨k.level.trans h.level, k.lost.trans h.lost, k.spread.trans h.spread, h.same.trans k.same, k.len.trans h.len, t ++ u, by rw [k1, h1, List.append_assoc], fun s hs => ?_⟩
 rcases List.mem_append.1 hs with hs | hs
 · exact h2 s hs
 · rw [k2 s hs, h.level]
theorem LF.set {B : Bd} {i : Nat} {c c' : List Int} (hc : B.cl[i]? = some c) (hm : ∀ y, y ∈ c' ↔ y ∈ c) (f : Int → List (Nat × Int)) : LF B { B with cl := B.cl.set i c', wt := f } :=
 ⟨rfl, rfl, rfl, SameCl.set hc hm, by simp, [], by simp, by simp⟩
theorem LF.put (B : Bd) (x k : Int) : LF B (B.put x k) := ⟨rfl, rfl, rfl, .refl _, rfl, [(x, B.level, k)], rfl, by simp⟩
theorem getD_some {A : List (List Int)} {i : Nat} {c : List Int} (h : A[i]? = some c) : A.getD i [] = c := by simp [List.getD, h]
theorem look_ok {V nt : Int} {D : List Int} {ch : Int → Prop} (rest : List (Nat × Int)) : ∀ (B : Bd) (kept : List (Nat × Int)), LI V nt D ch B kept rest →
   LF B (look nt B kept rest).1 ∧ (((look nt B kept rest).2.2 = -1 ∧ LI V nt D ch (look nt B kept rest).1 (look nt B kept rest).2.1 []) ∨
     (0 ≤ (look nt B kept rest).2.2 ∧ (∃ k' r', (look nt B kept rest).2.1 = k' ++ r' ∧ LI V nt D ch (look nt B kept rest).1 k' r') ∧ ∃ c ∈ (look nt B kept rest).1.cl, ∀ y ∈ c, -y ∈ (look nt B kept rest).1.st)) := by
 induction rest with
 | nil => intro B kept h; exact ⟨.refl B, .inl ⟨rfl, h⟩⟩
 | cons p rest ih =>
   obtain ⟨i, o⟩ := p
   intro B kept h
   unfold look
   by_cases ho : B.so o = true
   · rw [if_pos ho]
     exact ih B _ (h.keep (so_iff.1 ho))
   · rw [if_neg ho]
     obtain ⟨c, hc, hw, hcm, hn⟩ := h.there
     rw [getD_some hc]
     obtain ⟨o', ht⟩ := turned (B := B) hw hn
     cases htc : B.turnC nt c with
     | mk c' t =>
       rw [htc] at ht
       simp only at ht
       have hfst := ht.fst
       cases t with
       | some x =>
         simp only [hfst]
         have h2 := ih _ _ (h.turn hc ht)
         exact ⟨(LF.set hc ht.mem _).trans h2.1, h2.2⟩
       | none =>
         simp only [hfst]
         have hs := h.stay hc ht
         have hown := set_own (c' := c') hc
         have hm' : c' ∈ B.cl.set i c' := List.mem_of_getElem? hown
         obtain ⟨hy, hor⟩ := ht.no rfl
         by_cases h1 : B.so (-o') = true
         · rw [if_pos h1]
           have hm1 := so_iff.1 h1
           refine ⟨LF.set hc ht.mem B.wt, .inr ⟨Int.natCast_nonneg i, ⟨kept, _, rfl, hs⟩, c', hm', fun y hy' => ?_⟩⟩
           by_cases e1 : y = o'
           · subst e1; exact hm1
           · by_cases e2 : y = nt
             · subst e2; exact h.nt
             · rcases hor with hor | hor
               · exact absurd hm1 (h.wf.sc _ hor)
               · exact hor y hy' e1 e2
         · rw [if_neg h1]
           by_cases h2 : B.so o' = true
           · rw [if_pos h2]
             have h3 := ih _ _ (hs.keep (so_iff.1 h2))
             exact ⟨(LF.set hc ht.mem B.wt).trans h3.1, h3.2⟩
           · rw [if_neg h2]
             have hno : o' ∉ B.st := fun e => h2 (so_iff.2 e)
             have hp := hs.put (k := (i : Int)) hm' (Wat.mem ((hy o').2 (.inl rfl))) hno (fun e => h1 (so_iff.2 e)) (fun m hm hne => by
               by_cases e2 : m = nt
               · subst e2; exact h.nt
               · rcases hor with hor | hor
                 · exact absurd hor hno
                 · exact hor m hm hne e2)
             have h3 := ih _ _ (hp.keep (by rw [st_put]; simp))
             exact ⟨((LF.set hc ht.mem B.wt).trans (LF.put _ _ _)).trans h3.1, h3.2⟩
def Bd.lookAt (B : Bd) (nt : Int) : Bd × Int := ({ (look nt B [] (B.wt nt)).1 with wt := upd (look nt B [] (B.wt nt)).1.wt nt (look nt B [] (B.wt nt)).2.1 }, (look nt B [] (B.wt nt)).2.2)
structure Inv (V : Int) (L : List (List Int)) (ch : Int → Prop) (B : Bd) : Prop where
 wf : Wf V B
 le : 0 ≤ B.level
 rep : B.lost = false → SameCl L B.cl
 lst : B.lost = true → Confl L (fun _ => False)
 cmp : B.lost = false → Cmp B (B.st.take B.spread)
 one : Cmp B []
 snd : Snd B ch
 zp : ∃ k, k ≤ B.sp.length ∧ (∀ s ∈ B.sp.take k, s.2.1 = 0) ∧ (∀ s ∈ B.sp.drop k, 0 < s.2.1) ∧ (0 < B.level → k ≤ B.spread)
structure Inw (V : Int) (L : List (List Int)) (ch : Int → Prop) (B : Bd) : Prop where
 wf : Wf V B
 le : 0 ≤ B.level
 rep : B.lost = false → SameCl L B.cl
 lst : B.lost = true → Confl L (fun _ => False)
 cz : B.lost = false → ∀ n ∈ B.zero, ∀ c ∈ B.cl, Wat (-n) c → ∃ m ∈ c, m ∈ B.zero
 one : Cmp B []
 snd : Snd B ch
 zp : ∃ k, k ≤ B.sp.length ∧ (∀ s ∈ B.sp.take k, s.2.1 = 0) ∧ (∀ s ∈ B.sp.drop k, 0 < s.2.1) ∧ k ≤ B.spread
theorem zero_take {B : Bd} {k : Nat} (h1 : ∀ s ∈ B.sp.take k, s.2.1 = 0) (h2 : ∀ s ∈ B.sp.drop k, 0 < s.2.1) : B.zero = B.st.take k := by
 unfold Bd.zero Bd.st
 conv => lhs; rw [← List.take_append_drop k B.sp]
 rw [List.filter_append, List.filter_eq_self.2 (fun s hs => by simp [h1 s hs]), List.filter_eq_nil_iff.2 (fun s hs => by have := h2 s hs; simp; omega), List.append_nil, List.map_take]
theorem confl_same {A B : List (List Int)} (h : SameCl A B) {ch : Int → Prop} (hc : Confl B ch) : Confl A ch := by
 rcases hc with ⟨n, h1, h2⟩ | ⟨c, hcm, hm⟩
 · exact .inl ⟨n, h1, h2⟩
 · obtain ⟨d, hd, hx⟩ := h.fro c hcm
   exact .inr ⟨d, hd, fun m hmd => (hm m ((hx m).1 hmd)).more h.fro⟩
theorem SameCl.symm {A B : List (List Int)} (h : SameCl A B) : SameCl B A := ⟨h.fro, h.to⟩
end Go.Proofs.YtmambfdimeeijaaGreatDoor.Pf

namespace Go.Proofs.YtmambfdimeeijaaGreatDoor.Pf
set_option autoImplicit false
theorem upd_self {α : Type} (f : Int → α) (k : Int) : upd f k (f k) = f := by
 funext x
 unfold upd
 split
 · rename_i e; rw [e]
 · rfl
theorem zp_ext {sp t : List (Int × Int × Int)} {level : Int} {spread sp' : Nat} (hlv : ∀ s ∈ sp, 0 ≤ s.2.1 ∧ s.2.1 ≤ level) (ht : ∀ s ∈ t, s.2.1 = level) (h0 : 0 ≤ level) (hsp : spread ≤ sp')
   (h : ∃ k, k ≤ sp.length ∧ (∀ s ∈ sp.take k, s.2.1 = 0) ∧ (∀ s ∈ sp.drop k, 0 < s.2.1) ∧ (0 < level → k ≤ spread)) :
   ∃ k, k ≤ (sp ++ t).length ∧ (∀ s ∈ (sp ++ t).take k, s.2.1 = 0) ∧ (∀ s ∈ (sp ++ t).drop k, 0 < s.2.1) ∧ (0 < level → k ≤ sp') := by
 obtain ⟨k, h1, h2, h3, h4⟩ := h
 by_cases hl : level = 0
 · refine ⟨(sp ++ t).length, Nat.le_refl _, fun s hs => ?_, fun s hs => by rw [List.drop_length] at hs; simp at hs, fun h => by omega⟩
   rw [List.take_length] at hs
   rcases List.mem_append.1 hs with hs | hs
   · have := hlv s hs; omega
   · rw [ht s hs, hl]
 · refine ⟨k, by rw [List.length_append]; omega, fun s hs => ?_, fun s hs => ?_, fun h => by have := h4 h; omega⟩
   · rw [List.take_append_of_le_length h1] at hs
     exact h2 s hs
   · rw [List.drop_append_of_le_length h1] at hs
     rcases List.mem_append.1 hs with hs | hs
     · exact h3 s hs
     · rw [ht s hs]; omega
theorem st_len (B : Bd) : B.st.length = B.sp.length := by simp [Bd.st]
theorem st_ext {B B' : Bd} {t : List (Int × Int × Int)} (h : B'.sp = B.sp ++ t) : B'.st = B.st ++ t.map (·.1) := by simp [Bd.st, h]
theorem zero_ext {B B' : Bd} {t : List (Int × Int × Int)} (h : B'.sp = B.sp ++ t) (ht : ∀ s ∈ t, s.2.1 = B.level) (h0 : 0 < B.level) : B'.zero = B.zero := by
 unfold Bd.zero
 rw [h, List.filter_append, show t.filter (fun s => s.2.1 == 0) = [] from List.filter_eq_nil_iff.2 (fun s hs => by have := ht s hs; simp; omega), List.append_nil]
structure Stepped (V : Int) (L : List (List Int)) (ch : Int → Prop) (B B' : Bd) (f : Int) : Prop where
 level : B'.level = B.level
 lost : B'.lost = B.lost
 spread : B'.spread = B.spread + 1
 sp : ∃ t, B'.sp = B.sp ++ t
 wf : Wf V B'
 ok : f = -1 → Inv V L ch B'
 bad : f ≠ -1 → 0 ≤ f ∧ (B.lost = false → Confl L ch) ∧ (0 < B.level → Inw V L ch B') ∧ (B.level = 0 → Inv V L ch { B' with lost := true })
theorem step_ok {V : Int} {L : List (List Int)} {ch : Int → Prop} {B : Bd} (h : Inv V L ch B) {n : Int} (hn : B.st[B.spread]? = some n) :
   Stepped V L ch B (({ B with spread := B.spread + 1 } : Bd).lookAt (-n)).1 (({ B with spread := B.spread + 1 } : Bd).lookAt (-n)).2 := by
 have hnm : n ∈ B.st := List.mem_of_getElem? hn
 obtain ⟨hlt, hne⟩ := List.getElem?_eq_some_iff.1 hn
 have hlt' : B.spread < B.sp.length := by rw [← st_len]; exact hlt
 generalize hB1 : ({ B with spread := B.spread + 1 } : Bd) = B1
 have e1 : B1.st = B.st := by rw [← hB1]; rfl
 have e2 : B1.zero = B.zero := by rw [← hB1]; rfl
 have e3 : B1.cl = B.cl := by rw [← hB1]
 have e4 : B1.level = B.level := by rw [← hB1]
 have e5 : B1.lost = B.lost := by rw [← hB1]
 have e6 : B1.spread = B.spread + 1 := by rw [← hB1]
 have e7 : B1.sp = B.sp := by rw [← hB1]
 have hw1 : Wf V B1 := by
   rw [← hB1]
   exact ⟨h.wf.cl, h.wf.sn, h.wf.sc, h.wf.sr, hlt', h.wf.wi, h.wf.wd, h.wf.wa, h.wf.lv⟩
 have hD : ∃ D, (B.lost = false → D = B.st.take B.spread) ∧ (∀ m ∈ D, m ∈ B.st) ∧ Cmp B D := by
   cases hl : B.lost
   · exact ⟨_, fun _ => rfl, fun m hm => List.mem_of_mem_take hm, h.cmp hl⟩
   · exact ⟨[], (fun e => by cases e), (fun m hm => by simp at hm), h.one⟩
 obtain ⟨D, hD1, hD2, hD3⟩ := hD
 have hli : LI V (-n) D ch B1 [] (B1.wt (-n)) := by
   refine ⟨?_, by rw [Int.neg_neg, e1]; exact hnm, ?_, fun m hm => by rw [e1]; exact hD2 m hm, ?_, fun p hp => by simp at hp, by rw [e4]; exact h.le⟩
   · rw [List.nil_append, upd_self]
     exact hw1
   · exact ⟨fun c hc hl x hx => by rw [e2]; exact hD3.one c (e3 ▸ hc) hl x hx, fun m hm c hc hw => by rw [e1]; exact hD3.dn m hm c (e3 ▸ hc) hw, fun m hm hz c hc hw => by rw [e2] at hz ⊢; exact hD3.dz m hm hz c (e3 ▸ hc) hw⟩
   · exact ⟨fun m hm => by rw [e3]; exact h.snd.st m (e1 ▸ hm), fun m hm => by rw [e3]; exact h.snd.zs m (e2 ▸ hm)⟩
 have hlk := look_ok (B1.wt (-n)) B1 [] hli
 unfold Bd.lookAt
 generalize look (-n) B1 [] (B1.wt (-n)) = r at hlk
 obtain ⟨R, kp, f⟩ := r
 simp only at hlk ⊢
 obtain ⟨hf, hor⟩ := hlk
 obtain ⟨t, ht1, ht2⟩ := hf.sp
 rw [e7] at ht1
 rw [e4] at ht2
 have hlev : R.level = B.level := hf.level.trans e4
 have hlos : R.lost = B.lost := hf.lost.trans e5
 have hspr : R.spread = B.spread + 1 := hf.spread.trans e6
 have hst : R.st = B.st ++ t.map (·.1) := st_ext ht1
 have hsame : SameCl B.cl R.cl := e3 ▸ hf.same
 have hzp : ∃ k, k ≤ R.sp.length ∧ (∀ s ∈ R.sp.take k, s.2.1 = 0) ∧ (∀ s ∈ R.sp.drop k, 0 < s.2.1) ∧ (0 < R.level → k ≤ R.spread) := by
   rw [ht1, hlev, hspr]
   exact zp_ext h.wf.lv ht2 h.le (Nat.le_succ _) h.zp
 have hnz : n ∈ R.zero → B.level = 0 := by
   intro hz
   by_cases h0 : B.level = 0
   · exact h0
   · exfalso
     have hpos : 0 < B.level := by have := h.le; omega
     rw [zero_ext ht1 ht2 hpos] at hz
     obtain ⟨k, k1, k2, k3, k4⟩ := h.zp
     rw [zero_take k2 k3] at hz
     obtain ⟨j, hj, ej⟩ := List.getElem_of_mem hz
     have hjk : j < k := by rw [List.length_take] at hj; omega
     have hjl : j < B.st.length := by rw [List.length_take] at hj; omega
     rw [List.getElem_take, ← hne] at ej
     have := nodup_inj h.wf.sn hjl hlt ej
     have := k4 hpos
     omega
 rcases hor with ⟨rfl, hl⟩ | ⟨hf0, ⟨k', r', hk, hl⟩, c, hc, hcc⟩
 · have hwf : Wf V { R with wt := upd R.wt (-n) kp } := by simpa using hl.wf
   refine ⟨hlev, hlos, hspr, ⟨t, ht1⟩, hwf, fun _ => ?_, fun e => absurd rfl e⟩
   refine ⟨hwf, by rw [show ({ R with wt := upd R.wt (-n) kp } : Bd).level = R.level from rfl, hlev]; exact h.le, fun e => (h.rep (hlos ▸ e)).trans hsame, fun e => h.lst (hlos ▸ e), fun e => ?_, ?_, ?_, hzp⟩
   · have hd : R.st.take R.spread = B.st.take B.spread ++ [n] := by
       rw [hst, hspr, List.take_append_of_le_length (by omega), List.take_succ_eq_append_getElem hlt, hne]
     have eD := hD1 (hlos ▸ e)
     show Cmp _ (R.st.take R.spread)
     rw [hd]
     have key : ∀ c ∈ R.cl, Wat (-n) c → ∃ m ∈ c, m ∈ R.st := fun c hc hw => by
       obtain ⟨i, hi⟩ := List.mem_iff_getElem?.1 hc
       obtain ⟨o, ho⟩ := hwf.wa i c hi (-n) hw
       simp only [upd_same] at ho
       exact hl.kd (i, o) ho c hi
     refine ⟨hl.cmp.one, fun m hm c hc hw => ?_, fun m hm hz c hc hw => ?_⟩
     · rcases List.mem_append.1 hm with hm | hm
       · exact hl.cmp.dn m (eD ▸ hm) c hc hw
       · have : m = n := by simpa using hm
         subst this
         exact key c hc hw
     · rcases List.mem_append.1 hm with hm | hm
       · exact hl.cmp.dz m (eD ▸ hm) hz c hc hw
       · have : m = n := by simpa using hm
         subst this
         obtain ⟨y, hy, hys⟩ := key c hc hw
         exact ⟨y, hy, at_zero (B := R) hwf.lv (hlev.trans (hnz hz)) hys⟩
   · exact ⟨hl.cmp.one, fun m hm => by simp at hm, fun m hm => by simp at hm⟩
   · exact ⟨hl.snd.st, hl.snd.zs⟩
 · have hwf : Wf V { R with wt := upd R.wt (-n) kp } := by rw [hk]; exact hl.wf
   have hone : Cmp { R with wt := upd R.wt (-n) kp } [] := ⟨hl.cmp.one, fun m hm => by simp at hm, fun m hm => by simp at hm⟩
   have hsnd : Snd { R with wt := upd R.wt (-n) kp } ch := ⟨hl.snd.st, hl.snd.zs⟩
   refine ⟨hlev, hlos, hspr, ⟨t, ht1⟩, hwf, fun e => by omega, fun _ => ⟨hf0, fun e => ?_, fun hpos => ?_, fun h0 => ?_⟩⟩
   · exact confl_same ((h.rep e).trans hsame) (.inr ⟨c, hc, fun m hm => hl.snd.st _ (hcc m hm)⟩)
   · obtain ⟨k, k1, k2, k3, k4⟩ := hzp
     refine ⟨hwf, by rw [show ({ R with wt := upd R.wt (-n) kp } : Bd).level = R.level from rfl, hlev]; exact h.le, fun e => (h.rep (hlos ▸ e)).trans hsame, fun e => h.lst (hlos ▸ e), fun e m hm c hc hw => ?_, hone, hsnd, ⟨k, k1, k2, k3, k4 (by rw [hlev]; exact hpos)⟩⟩
     have eD := hD1 (hlos ▸ e)
     refine hl.cmp.dz m ?_ hm c hc hw
     rw [eD]
     have hm' : m ∈ B.zero := by rw [← zero_ext ht1 ht2 hpos]; exact hm
     obtain ⟨j, j1, j2, j3, j4⟩ := h.zp
     rw [zero_take j2 j3] at hm'
     exact List.mem_of_mem_take (i := j) (by rw [List.take_take, Nat.min_eq_left (j4 hpos)]; exact hm')
   · refine ⟨⟨hwf.cl, hwf.sn, hwf.sc, hwf.sr, hwf.sp, hwf.wi, hwf.wd, hwf.wa, hwf.lv⟩, by rw [show ({ R with wt := upd R.wt (-n) kp, lost := true } : Bd).level = R.level from rfl, hlev]; exact h.le, fun e => by simp at e, fun _ => ?_, fun e => by simp at e, ⟨hone.one, hone.dn, hone.dz⟩, ⟨hsnd.st, hsnd.zs⟩, hzp⟩
     cases hlb : B.lost
     · exact confl_same ((h.rep hlb).trans hsame) (.inr ⟨c, hc, fun m hm => hl.snd.zs _ (at_zero (B := R) hwf.lv (hlev.trans h0) (hcc m hm))⟩)
     · exact h.lst hlb
end Go.Proofs.YtmambfdimeeijaaGreatDoor.Pf

namespace Go.Proofs.YtmambfdimeeijaaGreatDoor.Pf
set_option autoImplicit false
def Bd.choose (B : Bd) (n : Int) : Bd := ({ B with level := B.level + 1 } : Bd).put n (-1)
structure Laid (B : Bd) (c d : List Int) : Prop where
 mem : ∀ x, x ∈ d ↔ x ∈ c
 nd : d.Nodup
 a0 : ∀ a r, d = a :: r → -a ∈ B.st → ∀ y ∈ d, -y ∈ B.st
 a1 : ∀ a b r, d = a :: b :: r → -b ∈ B.st → ∀ y ∈ d, y ≠ a → -y ∈ B.st
def Bd.wat2 (B : Bd) (d : List Int) : Int → List (Nat × Int) := match d with
 | a :: b :: _ => upd (upd B.wt a (B.wt a ++ [(B.cl.length, b)])) b (upd B.wt a (B.wt a ++ [(B.cl.length, b)]) b ++ [(B.cl.length, a)])
 | _ => B.wt
def Bd.add (B : Bd) (d : List Int) : Bd :=
 if d = [] ∨ -(d.getD 0 0) ∈ B.st then { B with lost := true }
 else if d.getD 0 0 ∉ B.st ∧ (d.length = 1 ∨ -(d.getD 1 0) ∈ B.st) then ({ B with cl := B.cl ++ [d], wt := B.wat2 d } : Bd).put (d.getD 0 0) B.cl.length
 else { B with cl := B.cl ++ [d], wt := B.wat2 d }
theorem wat2_in {V : Int} {B : Bd} (h : Wf V B) {d : List Int} (hd : d.Nodup) : (∀ n, ∀ p ∈ B.wat2 d n, p ∈ B.wt n ∨ (p.1 = B.cl.length ∧ Wat n d ∧ p.2 ∈ d ∧ p.2 ≠ n)) ∧ (∀ n, ∀ p ∈ B.wt n, p ∈ B.wat2 d n) ∧ (∀ n, Wat n d → ∃ o, (B.cl.length, o) ∈ B.wat2 d n) ∧ ∀ n, ((B.wat2 d n).map (·.1)).Nodup := by
 have hlt : ∀ n, ∀ p ∈ B.wt n, p.1 < B.cl.length := fun n p hp => by
   obtain ⟨c, hc, _⟩ := h.wi n p hp
   exact (List.getElem?_eq_some_iff.1 hc).1
 match d, hd with
 | [], _ => exact ⟨fun n p hp => .inl hp, fun n p hp => hp, fun n hn => hn.elim, h.wd⟩
 | [x], _ => exact ⟨fun n p hp => .inl hp, fun n p hp => hp, fun n hn => hn.elim, h.wd⟩
 | a :: b :: r, hd =>
   have hab : a ≠ b := by intro e; subst e; simp at hd
   have hba : b ≠ a := fun e => hab e.symm
   have e : B.wat2 (a :: b :: r) = upd (upd B.wt a (B.wt a ++ [(B.cl.length, b)])) b (B.wt b ++ [(B.cl.length, a)]) := by
     show upd _ _ _ = _
     rw [upd_ne _ _ hba]
   rw [e]
   have key : ∀ n, upd (upd B.wt a (B.wt a ++ [(B.cl.length, b)])) b (B.wt b ++ [(B.cl.length, a)]) n = B.wt n ∨ ∃ o, upd (upd B.wt a (B.wt a ++ [(B.cl.length, b)])) b (B.wt b ++ [(B.cl.length, a)]) n = B.wt n ++ [(B.cl.length, o)] ∧ Wat n (a :: b :: r) ∧ o ∈ a :: b :: r ∧ o ≠ n := by
     intro n
     by_cases h1 : n = b
     · subst h1
       exact .inr ⟨a, by rw [upd_same], .inr rfl, by simp, hab⟩
     · rw [upd_ne _ _ h1]
       by_cases h2 : n = a
       · subst h2
         exact .inr ⟨b, by rw [upd_same], .inl rfl, by simp, hba⟩
       · exact .inl (by rw [upd_ne _ _ h2])
   refine ⟨fun n p hp => ?_, fun n p hp => ?_, fun n hn => ?_, fun n => ?_⟩
   · rcases key n with k | ⟨o, k, k1, k2, k3⟩
     · exact .inl (k ▸ hp)
     · rw [k] at hp
       rcases List.mem_append.1 hp with hp | hp
       · exact .inl hp
       · obtain rfl : p = (B.cl.length, o) := by simpa using hp
         exact .inr ⟨rfl, k1, k2, k3⟩
   · rcases key n with k | ⟨o, k, _⟩
     · rw [k]; exact hp
     · rw [k]; exact List.mem_append.2 (.inl hp)
   · rcases hn with rfl | rfl
     · exact ⟨b, by rw [upd_ne _ _ hab, upd_same]; simp⟩
     · exact ⟨a, by rw [upd_same]; simp⟩
   · rcases key n with k | ⟨o, k, _⟩
     · rw [k]; exact h.wd n
     · rw [k, List.map_append, List.nodup_append]
       refine ⟨h.wd n, by simp, fun x hx y hy e => ?_⟩
       obtain ⟨p, hp, rfl⟩ := List.mem_map.1 hx
       have : y = B.cl.length := by simpa using hy
       have := hlt n p hp
       omega
end Go.Proofs.YtmambfdimeeijaaGreatDoor.Pf
