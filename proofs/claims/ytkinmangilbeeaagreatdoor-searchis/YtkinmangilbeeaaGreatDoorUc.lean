/- A board of clauses: going on from a number, lists alone. -/
import Derived.Test.YtkinmangilbeeaaGreatDoorUbM
namespace Go.Proofs.YtkinmangilbeeaaGreatDoor.Pf

/-- The same clauses, whatever the order of their numbers. -/
structure SameCl (A B : List (List Int)) : Prop where
  to : ∀ c ∈ A, ∃ d ∈ B, ∀ x, x ∈ d ↔ x ∈ c
  fro : ∀ d ∈ B, ∃ c ∈ A, ∀ x, x ∈ c ↔ x ∈ d
theorem SameCl.refl (A : List (List Int)) : SameCl A A := ⟨fun c h => ⟨c, h, fun _ => Iff.rfl⟩, fun c h => ⟨c, h, fun _ => Iff.rfl⟩⟩
theorem SameCl.trans {A B C : List (List Int)} (h : SameCl A B) (k : SameCl B C) : SameCl A C :=
  ⟨fun c hc => by obtain ⟨d, hd, h1⟩ := h.to c hc; obtain ⟨e, he, h2⟩ := k.to d hd; exact ⟨e, he, fun x => (h2 x).trans (h1 x)⟩,
   fun c hc => by obtain ⟨d, hd, h1⟩ := k.fro c hc; obtain ⟨e, he, h2⟩ := h.fro d hd; exact ⟨e, he, fun x => (h2 x).trans (h1 x)⟩⟩
theorem mem_set_cl {A : List (List Int)} {i : Nat} {c' d : List Int} (h : d ∈ A.set i c') : d = c' ∨ d ∈ A := by
  rcases List.mem_or_eq_of_mem_set h with h | h
  · exact .inr h
  · exact .inl h
theorem SameCl.set {A : List (List Int)} {i : Nat} {c c' : List Int} (hc : A[i]? = some c) (hm : ∀ y, y ∈ c' ↔ y ∈ c) : SameCl A (A.set i c') := by
  obtain ⟨hi, e⟩ := List.getElem?_eq_some_iff.1 hc
  refine ⟨fun d hd => ?_, fun d hd => ?_⟩
  · obtain ⟨j, hj, rfl⟩ := List.getElem_of_mem hd
    by_cases h : i = j
    · subst h
      exact ⟨c', List.mem_set hi c', fun x => by rw [hm, e]⟩
    · exact ⟨A[j], List.mem_iff_getElem.2 ⟨j, by rw [List.length_set]; exact hj, by rw [List.getElem_set_ne h]⟩, fun _ => Iff.rfl⟩
  · rcases mem_set_cl hd with rfl | h
    · exact ⟨c, e ▸ List.getElem_mem hi, fun x => (hm x).symm⟩
    · exact ⟨d, h, fun _ => Iff.rfl⟩
theorem UP.same {A B : List (List Int)} (h : SameCl A B) {ch : Int → Prop} {n : Int} (hn : UP A ch n) : UP B ch n := hn.more h.to

structure LI (V nt : Int) (D : List Int) (ch : Int → Prop) (B : Bd) (kept rest : List (Nat × Int)) : Prop where
  wf : Wf V { B with wt := upd B.wt nt (kept ++ rest) }
  nt : -nt ∈ B.st
  cmp : Cmp B D
  ds : ∀ n ∈ D, n ∈ B.st
  snd : Snd B ch
  kd : ∀ p ∈ kept, ∀ c, B.cl[p.1]? = some c → ∃ m ∈ c, m ∈ B.st
  le : 0 ≤ B.level

theorem at_zero {B : Bd} (h : ∀ s ∈ B.sp, 0 ≤ s.2.1 ∧ s.2.1 ≤ B.level) (h0 : B.level = 0) {n : Int} (hn : n ∈ B.st) : n ∈ B.zero := by
  obtain ⟨s, hs, rfl⟩ := List.mem_map.1 hn
  refine List.mem_map.2 ⟨s, List.mem_filter.2 ⟨hs, ?_⟩, rfl⟩
  have := h s hs
  simp
  omega

theorem kept_ne {V nt : Int} {B : Bd} {kept rest : List (Nat × Int)} {i : Nat} {o : Int} (h : Wf V { B with wt := upd B.wt nt (kept ++ (i, o) :: rest) }) : ∀ p ∈ kept ++ rest, p.1 ≠ i := by
  have hd := h.wd nt
  simp only [upd_same, List.map_append, List.map_cons] at hd
  intro p hp e
  rw [List.nodup_append] at hd
  obtain ⟨h1, h2, h3⟩ := hd
  rcases List.mem_append.1 hp with hp | hp
  · exact h3 p.1 (List.mem_map.2 ⟨p, hp, rfl⟩) i (by simp) e
  · rw [List.nodup_cons] at h2
    exact h2.1 (e ▸ List.mem_map.2 ⟨p, hp, rfl⟩)

/-- A clause whose watch is as it should be is kept. -/
theorem LI.keep {V nt : Int} {D : List Int} {ch : Int → Prop} {B : Bd} {kept rest : List (Nat × Int)} {i : Nat} {o : Int} (h : LI V nt D ch B kept ((i, o) :: rest)) (ho : o ∈ B.st) : LI V nt D ch B (kept ++ [(i, o)]) rest := by
  refine ⟨by rw [List.append_assoc]; exact h.wf, h.nt, h.cmp, h.ds, h.snd, fun p hp c hc => ?_, h.le⟩
  rcases List.mem_append.1 hp with hp | hp
  · exact h.kd p hp c hc
  · obtain rfl : p = (i, o) := by simpa using hp
    obtain ⟨c', h1, _, h2, _⟩ := h.wf.wi nt (i, o) (by simp [upd_same])
    simp only at h1 hc
    rw [hc] at h1
    injection h1 with h1
    subst h1
    exact ⟨o, h2, ho⟩
theorem LI.there {V nt : Int} {D : List Int} {ch : Int → Prop} {B : Bd} {kept rest : List (Nat × Int)} {i : Nat} {o : Int} (h : LI V nt D ch B kept ((i, o) :: rest)) : ∃ c, B.cl[i]? = some c ∧ Wat nt c ∧ c ∈ B.cl ∧ c.Nodup := by
  obtain ⟨c, h1, h2, _, _⟩ := h.wf.wi nt (i, o) (by simp [upd_same])
  have hc : c ∈ B.cl := List.mem_of_getElem? h1
  exact ⟨c, h1, h2, hc, (h.wf.cl c hc).1⟩
theorem set_at {A : List (List Int)} {i j : Nat} {c' d : List Int} (h : (A.set i c')[j]? = some d) : (j = i ∧ d = c') ∨ (j ≠ i ∧ A[j]? = some d) := by
  rw [List.getElem?_set] at h
  split at h
  · rename_i e
    split at h
    · injection h with h; exact .inl ⟨e.symm, h.symm⟩
    · cases h
  · rename_i e
    exact .inr ⟨fun x => e x.symm, h⟩
theorem set_own {A : List (List Int)} {i : Nat} {c c' : List Int} (h : A[i]? = some c) : (A.set i c')[i]? = some c' := by
  obtain ⟨hi, _⟩ := List.getElem?_eq_some_iff.1 h
  rw [List.getElem?_set]
  simp [hi]
theorem set_other {A : List (List Int)} {i j : Nat} {c' : List Int} (h : j ≠ i) : (A.set i c')[j]? = A[j]? := by
  rw [List.getElem?_set, if_neg (fun e => h e.symm)]

/-- A clause whose watch was turned to another number is watched there. -/
theorem LI.turn {V nt : Int} {D : List Int} {ch : Int → Prop} {B : Bd} {kept rest : List (Nat × Int)} {i : Nat} {o : Int} (h : LI V nt D ch B kept ((i, o) :: rest)) {c c' : List Int} {o' x : Int} (hc : B.cl[i]? = some c) (ht : Turned B nt c c' o' (some x)) :
    LI V nt D ch { B with cl := B.cl.set i c', wt := upd B.wt x (B.wt x ++ [(i, o')]) } kept rest := by
  have hcm : c ∈ B.cl := List.mem_of_getElem? hc
  obtain ⟨hx1, hx2, hx3, hx4, hx5⟩ := ht.yes x rfl
  have hne := kept_ne h.wf
  have hsame : SameCl B.cl (B.cl.set i c') := SameCl.set hc ht.mem
  have h0 := h.wf
  obtain ⟨d1, d2, d3, d4⟩ := h0.cl c hcm
  have hnx : ∀ p ∈ B.wt x, p.1 ≠ i := by
    intro p hp e
    obtain ⟨c2, e1, e2, _, _⟩ := h0.wi x p (by simp only [upd_ne _ _ hx3]; exact hp)
    simp only [e, hc] at e1
    injection e1 with e1
    subst e1
    rcases (ht.old x).1 e2 with e3 | e3
    · exact hx2 e3
    · exact hx3 e3
  have hlen2 : 2 ≤ c'.length := by
    have : Wat x c' := (hx5 x).2 (.inr rfl)
    match c', this with
    | a :: b :: r, _ => simp
  have hcl : ∀ d, d ∈ B.cl.set i c' → d = c' ∨ d ∈ B.cl := fun d hd => mem_set_cl hd
  have ho'c : o' ∈ c' := Wat.mem ((hx5 o').2 (.inl rfl))
  refine ⟨?_, h.nt, ?_, h.ds, ?_, ?_, h.le⟩
  · refine ⟨fun d hd => ?_, h0.sn, h0.sc, h0.sr, h0.sp, ?_, ?_, ?_, h0.lv⟩
    · rcases hcl d hd with rfl | hd
      · exact ⟨ht.nd, by rw [ht.len]; exact d2, by rw [ht.len]; exact d3, fun y hy => d4 y ((ht.mem y).1 hy)⟩
      · exact h0.cl d hd
    · intro n p hp
      simp only at hp ⊢
      by_cases e1 : n = nt
      · subst e1
        rw [upd_same] at hp
        have hpi := hne p hp
        obtain ⟨c2, a1, a2, a3, a4⟩ := h0.wi n p (by
          simp only [upd_same]
          rcases List.mem_append.1 hp with hp | hp
          · exact List.mem_append.2 (.inl hp)
          · exact List.mem_append.2 (.inr (List.mem_cons_of_mem _ hp)))
        exact ⟨c2, by rw [set_other hpi]; exact a1, a2, a3, a4⟩
      · rw [upd_ne _ _ e1] at hp
        by_cases e2 : n = x
        · subst e2
          rw [upd_same] at hp
          rcases List.mem_append.1 hp with hp | hp
          · have hpi := hnx p hp
            obtain ⟨c2, a1, a2, a3, a4⟩ := h0.wi n p (by simp only [upd_ne _ _ e1]; exact hp)
            exact ⟨c2, by rw [set_other hpi]; exact a1, a2, a3, a4⟩
          · obtain rfl : p = (i, o') := by simpa using hp
            exact ⟨c', set_own hc, (hx5 n).2 (.inr rfl), ho'c, fun e => hx2 e.symm⟩
        · rw [upd_ne _ _ e2] at hp
          obtain ⟨c2, a1, a2, a3, a4⟩ := h0.wi n p (by simp only [upd_ne _ _ e1]; exact hp)
          by_cases hpi : p.1 = i
          · simp only [hpi, hc] at a1
            injection a1 with a1
            subst a1
            rcases (ht.old n).1 a2 with e3 | e3
            · exact ⟨c', by rw [hpi]; exact set_own hc, (hx5 n).2 (.inl e3), (ht.mem _).2 a3, a4⟩
            · exact absurd e3 e1
          · exact ⟨c2, by rw [set_other hpi]; exact a1, a2, a3, a4⟩
    · intro n
      simp only
      by_cases e1 : n = nt
      · subst e1
        rw [upd_same]
        have := h0.wd n
        simp only [upd_same] at this
        exact this.sublist (List.Sublist.map _ (List.Sublist.append_left (List.sublist_cons_self _ _) _))
      · rw [upd_ne _ _ e1]
        have hw := h0.wd n
        simp only [upd_ne _ _ e1] at hw
        by_cases e2 : n = x
        · subst e2
          rw [upd_same, List.map_append, List.nodup_append]
          refine ⟨hw, by simp, fun a ha b hb e => ?_⟩
          obtain ⟨p, hp, rfl⟩ := List.mem_map.1 ha
          have : b = i := by simpa using hb
          exact hnx p hp (e.trans this)
        · rw [upd_ne _ _ e2]
          exact hw
    · intro j d hd n hw
      simp only at hd ⊢
      rcases set_at hd with ⟨rfl, rfl⟩ | ⟨hji, hd⟩
      · rcases (hx5 n).1 hw with e | e
        · subst e
          obtain ⟨q, hq⟩ := h0.wa j c hc n ((ht.old n).2 (.inl rfl))
          simp only [upd_ne _ _ ht.ne] at hq
          exact ⟨q, by rw [upd_ne _ _ ht.ne, upd_ne _ _ (fun e => hx2 e.symm)]; exact hq⟩
        · subst e
          exact ⟨o', by rw [upd_ne _ _ hx3, upd_same]; simp⟩
      · obtain ⟨q, hq⟩ := h0.wa j d hd n hw
        simp only at hq
        by_cases e1 : n = nt
        · subst e1
          rw [upd_same] at hq ⊢
          refine ⟨q, ?_⟩
          rcases List.mem_append.1 hq with hq | hq
          · exact List.mem_append.2 (.inl hq)
          · rcases List.mem_cons.1 hq with hq | hq
            · exact absurd (congrArg Prod.fst hq) hji
            · exact List.mem_append.2 (.inr hq)
        · rw [upd_ne _ _ e1] at hq ⊢
          by_cases e2 : n = x
          · subst e2
            exact ⟨q, by rw [upd_same]; exact List.mem_append.2 (.inl hq)⟩
          · exact ⟨q, by rw [upd_ne _ _ e2]; exact hq⟩
  · refine ⟨fun d hd hl y hy => ?_, fun n hn d hd hw => ?_, fun n hn hz d hd hw => ?_⟩
    · rcases hcl d hd with rfl | hd
      · omega
      · exact h.cmp.one d hd hl y hy
    · rcases hcl d hd with rfl | hd
      · rcases (hx5 _).1 hw with e | e
        · obtain ⟨m, hm, hs⟩ := h.cmp.dn n hn c hcm ((ht.old _).2 (.inl e))
          exact ⟨m, (ht.mem m).2 hm, hs⟩
        · exact absurd (by rw [← e, Int.neg_neg]; exact h.ds n hn) hx4
      · exact h.cmp.dn n hn d hd hw
    · rcases hcl d hd with rfl | hd
      · rcases (hx5 _).1 hw with e | e
        · obtain ⟨m, hm, hs⟩ := h.cmp.dz n hn hz c hcm ((ht.old _).2 (.inl e))
          exact ⟨m, (ht.mem m).2 hm, hs⟩
        · exact absurd (by rw [← e, Int.neg_neg]; exact h.ds n hn) hx4
      · exact h.cmp.dz n hn hz d hd hw
  · exact ⟨fun n hn => (h.snd.st n hn).same hsame, fun n hn => (h.snd.zs n hn).same hsame⟩
  · intro p hp d hd
    have hpi := hne p (List.mem_append.2 (.inl hp))
    simp only at hd
    rw [set_other hpi] at hd
    exact h.kd p hp d hd

/-- A clause that has none to turn to stays, with its numbers in another order. -/
theorem LI.stay {V nt : Int} {D : List Int} {ch : Int → Prop} {B : Bd} {kept rest : List (Nat × Int)} {i : Nat} {o : Int} (h : LI V nt D ch B kept ((i, o) :: rest)) {c c' : List Int} {o' : Int} (hc : B.cl[i]? = some c) (ht : Turned B nt c c' o' none) :
    LI V nt D ch { B with cl := B.cl.set i c' } kept ((i, o') :: rest) := by
  have hcm : c ∈ B.cl := List.mem_of_getElem? hc
  obtain ⟨hy, _⟩ := ht.no rfl
  have hne := kept_ne h.wf
  have hsame : SameCl B.cl (B.cl.set i c') := SameCl.set hc ht.mem
  have h0 := h.wf
  obtain ⟨d1, d2, d3, d4⟩ := h0.cl c hcm
  have hcl : ∀ d, d ∈ B.cl.set i c' → d = c' ∨ d ∈ B.cl := fun d hd => mem_set_cl hd
  have hiff : ∀ y, Wat y c' ↔ Wat y c := fun y => (hy y).trans (ht.old y).symm
  have hwn : Wat nt c := (ht.old nt).2 (.inr rfl)
  refine ⟨?_, h.nt, ?_, h.ds, ?_, ?_, h.le⟩
  · refine ⟨fun d hd => ?_, h0.sn, h0.sc, h0.sr, h0.sp, ?_, ?_, ?_, h0.lv⟩
    · rcases hcl d hd with rfl | hd
      · exact ⟨ht.nd, by rw [ht.len]; exact d2, by rw [ht.len]; exact d3, fun y hy => d4 y ((ht.mem y).1 hy)⟩
      · exact h0.cl d hd
    · intro n p hp
      simp only at hp ⊢
      have old : (∃ c2, B.cl[p.1]? = some c2 ∧ Wat n c2 ∧ p.2 ∈ c2 ∧ p.2 ≠ n) → ∃ c2, (B.cl.set i c')[p.1]? = some c2 ∧ Wat n c2 ∧ p.2 ∈ c2 ∧ p.2 ≠ n := by
        rintro ⟨c2, a1, a2, a3, a4⟩
        by_cases hpi : p.1 = i
        · rw [hpi, hc] at a1
          injection a1 with a1
          subst a1
          exact ⟨c', by rw [hpi]; exact set_own hc, (hiff n).2 a2, (ht.mem _).2 a3, a4⟩
        · exact ⟨c2, by rw [set_other hpi]; exact a1, a2, a3, a4⟩
      by_cases e1 : n = nt
      · subst e1
        rw [upd_same] at hp
        rcases List.mem_append.1 hp with hp | hp
        · exact old (h0.wi n p (by simp only [upd_same]; exact List.mem_append.2 (.inl hp)))
        · rcases List.mem_cons.1 hp with rfl | hp
          · exact ⟨c', set_own hc, (hiff n).2 hwn, Wat.mem ((hy o').2 (.inl rfl)), ht.ne⟩
          · exact old (h0.wi n p (by simp only [upd_same]; exact List.mem_append.2 (.inr (List.mem_cons_of_mem _ hp))))
      · rw [upd_ne _ _ e1] at hp
        exact old (h0.wi n p (by simp only [upd_ne _ _ e1]; exact hp))
    · intro n
      have := h0.wd n
      simp only at this ⊢
      by_cases e1 : n = nt
      · subst e1
        rw [upd_same] at this ⊢
        simpa using this
      · rw [upd_ne _ _ e1] at this ⊢
        exact this
    · intro j d hd n hw
      simp only at hd ⊢
      have key : ∃ q, (j, q) ∈ upd B.wt nt (kept ++ (i, o) :: rest) n := by
        rcases set_at hd with ⟨rfl, rfl⟩ | ⟨hji, hd⟩
        · exact h0.wa j c hc n ((hiff n).1 hw)
        · exact h0.wa j d hd n hw
      obtain ⟨q, hq⟩ := key
      by_cases e1 : n = nt
      · subst e1
        rw [upd_same] at hq ⊢
        rcases List.mem_append.1 hq with hq | hq
        · exact ⟨q, List.mem_append.2 (.inl hq)⟩
        · rcases List.mem_cons.1 hq with hq | hq
          · have : j = i := congrArg Prod.fst hq
            subst this
            exact ⟨o', by simp⟩
          · exact ⟨q, List.mem_append.2 (.inr (List.mem_cons_of_mem _ hq))⟩
      · rw [upd_ne _ _ e1] at hq ⊢
        exact ⟨q, hq⟩
  · refine ⟨fun d hd hl y hy' => ?_, fun n hn d hd hw => ?_, fun n hn hz d hd hw => ?_⟩
    · rcases hcl d hd with rfl | hd
      · exact h.cmp.one c hcm (by rw [← ht.len]; exact hl) y ((ht.mem y).1 hy')
      · exact h.cmp.one d hd hl y hy'
    · rcases hcl d hd with rfl | hd
      · obtain ⟨m, hm, hs⟩ := h.cmp.dn n hn c hcm ((hiff _).1 hw)
        exact ⟨m, (ht.mem m).2 hm, hs⟩
      · exact h.cmp.dn n hn d hd hw
    · rcases hcl d hd with rfl | hd
      · obtain ⟨m, hm, hs⟩ := h.cmp.dz n hn hz c hcm ((hiff _).1 hw)
        exact ⟨m, (ht.mem m).2 hm, hs⟩
      · exact h.cmp.dz n hn hz d hd hw
  · exact ⟨fun n hn => (h.snd.st n hn).same hsame, fun n hn => (h.snd.zs n hn).same hsame⟩
  · intro p hp d hd
    have hpi := hne p (List.mem_append.2 (.inl hp))
    simp only at hd
    rw [set_other hpi] at hd
    exact h.kd p hp d hd

/-- A number that must be by a clause is put in. -/
theorem LI.put {V nt : Int} {D : List Int} {ch : Int → Prop} {B : Bd} {kept rest : List (Nat × Int)} (h : LI V nt D ch B kept rest) {c : List Int} {x k : Int} (hc : c ∈ B.cl) (hx : x ∈ c) (h1 : x ∉ B.st) (h2 : -x ∉ B.st) (hu : ∀ m ∈ c, m ≠ x → -m ∈ B.st) : LI V nt D ch (B.put x k) kept rest := by
  have h0 := h.wf
  have hnum := (h0.cl c hc).2.2.2 x hx
  have hst := st_put B x k
  have hz : ∀ n ∈ B.zero, n ∈ (B.put x k).zero := fun n hn => by rw [zero_put]; split <;> simp [hn]
  have hs : ∀ n ∈ B.st, n ∈ (B.put x k).st := fun n hn => by rw [hst]; simp [hn]
  have hst' : ({ B.put x k with wt := upd (B.put x k).wt nt (kept ++ rest) } : Bd).st = B.st ++ [x] := hst
  have hzo : ∀ n ∈ (B.put x k).zero, n ∈ B.zero ∨ (n = x ∧ B.level = 0) := fun n hn => by
    rw [zero_put] at hn
    split at hn
    · rename_i hl
      rcases List.mem_append.1 hn with hn | hn
      · exact .inl hn
      · exact .inr ⟨by simpa using hn, hl⟩
    · exact .inl hn
  refine ⟨?_, hs _ h.nt, ?_, fun n hn => hs n (h.ds n hn), ?_, fun p hp d hd => ?_, h.le⟩
  · refine ⟨h0.cl, ?_, ?_, ?_, ?_, h0.wi, h0.wd, h0.wa, ?_⟩
    · rw [hst', List.nodup_append]
      refine ⟨h0.sn, by simp, fun a ha b hb e => ?_⟩
      have : b = x := by simpa using hb
      exact h1 (this ▸ e ▸ ha)
    · intro n hn
      rw [hst'] at hn ⊢
      rcases List.mem_append.1 hn with hn | hn
      · intro h3
        rcases List.mem_append.1 h3 with h3 | h3
        · exact h0.sc n hn h3
        · have : -n = x := by simpa using h3
          exact h2 (by rw [← this, Int.neg_neg]; exact hn)
      · have : n = x := by simpa using hn
        subst this
        intro h3
        rcases List.mem_append.1 h3 with h3 | h3
        · exact h2 h3
        · have : -n = n := by simpa using h3
          have := hnum.1
          omega
    · intro n hn
      rw [hst'] at hn
      rcases List.mem_append.1 hn with hn | hn
      · exact h0.sr n hn
      · have : n = x := by simpa using hn
        exact this ▸ hnum
    · have := h0.sp
      simp only [Bd.put, List.length_append] at this ⊢
      omega
    · intro s hs
      simp only [Bd.put] at hs ⊢
      rcases List.mem_append.1 hs with hs | hs
      · exact h0.lv s hs
      · have : s = (x, B.level, k) := by simpa using hs
        subst this
        exact ⟨h.le, Int.le_refl _⟩
  · refine ⟨fun d hd hl y hy => hz y (h.cmp.one d hd hl y hy), fun n hn d hd hw => ?_, fun n hn hnz d hd hw => ?_⟩
    · obtain ⟨m, hm, hms⟩ := h.cmp.dn n hn d hd hw
      exact ⟨m, hm, hs m hms⟩
    · rcases hzo n hnz with h3 | ⟨h3, _⟩
      · obtain ⟨m, hm, hms⟩ := h.cmp.dz n hn h3 d hd hw
        exact ⟨m, hm, hz m hms⟩
      · exact absurd (h3 ▸ h.ds n hn) h1
  · refine ⟨fun n hn => ?_, fun n hn => ?_⟩
    · rw [hst] at hn
      rcases List.mem_append.1 hn with hn | hn
      · exact h.snd.st n hn
      · have : n = x := by simpa using hn
        subst this
        exact .unit c hc hx fun m hm hne => h.snd.st _ (hu m hm hne)
    · rcases hzo n hn with h3 | ⟨rfl, hl⟩
      · exact h.snd.zs n h3
      · exact .unit c hc hx fun m hm hne => h.snd.zs _ (at_zero h0.lv hl (hu m hm hne))
  · obtain ⟨m, hm, hms⟩ := h.kd p hp d hd
    exact ⟨m, hm, hs m hms⟩
end Go.Proofs.YtkinmangilbeeaaGreatDoor.Pf
