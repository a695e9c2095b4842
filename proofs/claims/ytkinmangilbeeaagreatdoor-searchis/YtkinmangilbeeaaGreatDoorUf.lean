/- A board of clauses: a number chosen, levels taken back, a clause added; whether a clause follows. Lists alone. -/
import Derived.Test.YtkinmangilbeeaaGreatDoorUeM
namespace Go.Proofs.YtkinmangilbeeaaGreatDoor.Pf

def Bd.choose (B : Bd) (n : Int) : Bd := ({ B with level := B.level + 1 } : Bd).put n (-1)
theorem choose_st (B : Bd) (n : Int) : (B.choose n).st = B.st ++ [n] := by unfold Bd.choose; rw [st_put]; rfl
theorem choose_zero {B : Bd} (h : 0 ≤ B.level) (n : Int) : (B.choose n).zero = B.zero := by
  unfold Bd.choose
  rw [zero_put, if_neg (by simp only; omega)]
  rfl
theorem choose_ok {V : Int} {L : List (List Int)} {ch : Int → Prop} {B : Bd} (h : Inv V L ch B) {n : Int} (hn : Num V n) (h1 : n ∉ B.st) (h2 : -n ∉ B.st) (hz : B.level = 0 → B.spread = B.sp.length) :
    Inv V L (fun x => ch x ∨ x = n) (B.choose n) := by
  have hst := choose_st B n
  have hze := choose_zero h.le n
  have hlv : (B.choose n).level = B.level + 1 := rfl
  have hcl : (B.choose n).cl = B.cl := rfl
  have hsp : (B.choose n).sp = B.sp ++ [(n, B.level + 1, -1)] := rfl
  have hss : (B.choose n).spread = B.spread := rfl
  have hs : ∀ m ∈ B.st, m ∈ (B.choose n).st := fun m hm => by rw [hst]; simp [hm]
  have h0 := h.wf
  have hone : Cmp (B.choose n) [] := ⟨fun c hc hl x hx => by rw [hze]; exact h.one.one c hc hl x hx, fun m hm => by simp at hm, fun m hm => by simp at hm⟩
  have htk : (B.choose n).st.take (B.choose n).spread = B.st.take B.spread := by
    rw [hst, hss, List.take_append_of_le_length (by rw [st_len]; exact h0.sp)]
  refine ⟨⟨h0.cl, ?_, ?_, ?_, ?_, h0.wi, h0.wd, h0.wa, ?_⟩, by rw [hlv]; have := h.le; omega, h.rep, h.lst, fun e => ?_, hone, ⟨fun m hm => ?_, fun m hm => ?_⟩, ?_⟩
  · rw [hst, List.nodup_append]
    exact ⟨h0.sn, by simp, fun a ha b hb e => by have : b = n := by simpa using hb
                                                 exact h1 (this ▸ e ▸ ha)⟩
  · intro m hm
    rw [hst] at hm ⊢
    rcases List.mem_append.1 hm with hm | hm
    · intro h3
      rcases List.mem_append.1 h3 with h3 | h3
      · exact h0.sc m hm h3
      · have : -m = n := by simpa using h3
        exact h2 (by rw [← this, Int.neg_neg]; exact hm)
    · have : m = n := by simpa using hm
      subst this
      intro h3
      rcases List.mem_append.1 h3 with h3 | h3
      · exact h2 h3
      · have : -m = m := by simpa using h3
        have := hn.1
        omega
  · intro m hm
    rw [hst] at hm
    rcases List.mem_append.1 hm with hm | hm
    · exact h0.sr m hm
    · have : m = n := by simpa using hm
      exact this ▸ hn
  · rw [hss, hsp, List.length_append]
    have := h0.sp
    omega
  · intro s hs'
    rw [hsp] at hs'
    rw [hlv]
    rcases List.mem_append.1 hs' with hs' | hs'
    · have := h0.lv s hs'; omega
    · have : s = (n, B.level + 1, -1) := by simpa using hs'
      subst this
      have := h.le
      exact ⟨by simp only; omega, Int.le_refl _⟩
  · have k := h.cmp e
    rw [htk]
    refine ⟨hone.one, fun m hm c hc hw => ?_, fun m hm hmz c hc hw => ?_⟩
    · obtain ⟨y, hy, hys⟩ := k.dn m hm c hc hw
      exact ⟨y, hy, hs y hys⟩
    · rw [hze] at hmz ⊢
      exact k.dz m hm hmz c hc hw
  · rw [hst] at hm
    rcases List.mem_append.1 hm with hm | hm
    · exact (h.snd.st m hm).mono fun x hx => .base (.inl hx)
    · have : m = n := by simpa using hm
      exact .base (.inr this)
  · rw [hze] at hm
    exact h.snd.zs m hm
  · obtain ⟨k, k1, k2, k3, k4⟩ := h.zp
    by_cases hl : B.level = 0
    · have e := hz hl
      refine ⟨B.sp.length, by rw [hsp, List.length_append]; omega, fun s hs' => ?_, fun s hs' => ?_, fun _ => by rw [hss, e]; exact Nat.le_refl _⟩
      · rw [hsp, List.take_left'] at hs'
        · have := h0.lv s hs'; omega
        · rfl
      · rw [hsp, List.drop_left'] at hs'
        · have : s = (n, B.level + 1, -1) := by simpa using hs'
          subst this
          have := h.le
          simp only
          omega
        · rfl
    · have hp : 0 < B.level := by have := h.le; omega
      refine ⟨k, by rw [hsp, List.length_append]; omega, fun s hs' => ?_, fun s hs' => ?_, fun _ => by rw [hss]; exact k4 hp⟩
      · rw [hsp, List.take_append_of_le_length k1] at hs'
        exact k2 s hs'
      · rw [hsp, List.drop_append_of_le_length k1] at hs'
        rcases List.mem_append.1 hs' with hs' | hs'
        · exact k3 s hs'
        · have : s = (n, B.level + 1, -1) := by simpa using hs'
          subst this
          simp only
          omega

theorem inw_of {V : Int} {L : List (List Int)} {ch : Int → Prop} {B : Bd} (h : Inv V L ch B) (hl : 0 < B.level) : Inw V L ch B := by
  obtain ⟨k, k1, k2, k3, k4⟩ := h.zp
  refine ⟨h.wf, h.le, h.rep, h.lst, fun e n hn c hc hw => (h.cmp e).dz n ?_ hn c hc hw, h.one, h.snd, k, k1, k2, k3, k4 hl⟩
  rw [zero_take k2 k3] at hn
  exact List.mem_of_mem_take (i := k) (by rw [List.take_take, Nat.min_eq_left (k4 hl)]; exact hn)

def Bd.back (B : Bd) : Bd := { B with sp := B.sp.take B.zero.length, level := 0, spread := min B.spread B.zero.length }
theorem back_ok {V : Int} {L : List (List Int)} {ch : Int → Prop} {B : Bd} (h : Inw V L ch B) : Inv V L (fun _ => False) B.back ∧ B.back.spread = B.back.sp.length := by
  obtain ⟨k, k1, k2, k3, k4⟩ := h.zp
  have hz := zero_take k2 k3
  have hzl : B.zero.length = k := by rw [hz, List.length_take, st_len]; omega
  have hsp : B.back.sp = B.sp.take k := by unfold Bd.back; rw [hzl]
  have hss : B.back.spread = k := by show min B.spread B.zero.length = k; rw [hzl]; omega
  have hst : B.back.st = B.zero := by unfold Bd.st; rw [hsp, hz, Bd.st, List.map_take]
  have hzz : B.back.zero = B.zero := by
    rw [← hst]
    unfold Bd.zero Bd.st
    rw [List.filter_eq_self.2]
    intro s hs
    rw [hsp] at hs
    simp [k2 s hs]
  have hsub : ∀ s ∈ B.back.sp, s ∈ B.sp := fun s hs => List.mem_of_mem_take (hsp ▸ hs)
  have hone : Cmp B.back [] := ⟨fun c hc hl x hx => by rw [hzz]; exact h.one.one c hc hl x hx, fun m hm => by simp at hm, fun m hm => by simp at hm⟩
  have h0 := h.wf
  have hin : ∀ n ∈ B.back.st, n ∈ B.st := fun n hn => zero_sub (hst ▸ hn)
  have hlen : B.back.spread = B.back.sp.length := by rw [hss, hsp, List.length_take]; omega
  refine ⟨⟨⟨h0.cl, ?_, fun n hn e => h0.sc n (hin n hn) (hin _ e), fun n hn => h0.sr n (hin n hn), by rw [hlen]; exact Nat.le_refl _, h0.wi, h0.wd, h0.wa, fun s hs => ?_⟩, Int.le_refl _, h.rep, h.lst, fun e => ?_, hone, ⟨fun n hn => ?_, fun n hn => ?_⟩, ?_⟩, hlen⟩
  · rw [hst, hz]
    exact h0.sn.sublist (List.take_sublist _ _)
  · rw [hsp] at hs
    rw [k2 s hs]
    exact ⟨Int.le_refl _, Int.le_refl _⟩
  · rw [hst, hss, List.take_of_length_le (by omega)]
    refine ⟨hone.one, fun n hn c hc hw => ?_, fun n hn hnz c hc hw => ?_⟩
    · rw [hst]
      exact h.cz e n hn c hc hw
    · rw [hzz]
      exact h.cz e n hn c hc hw
  · exact h.snd.zs n (hst ▸ hn)
  · exact h.snd.zs n (hzz ▸ hn)
  · exact ⟨B.back.sp.length, Nat.le_refl _, fun s hs => by rw [List.take_length, hsp] at hs; exact k2 s hs, fun s hs => by rw [List.drop_length] at hs; simp at hs, fun e => by simp [Bd.back] at e⟩
theorem back_id {V : Int} {L : List (List Int)} {ch : Int → Prop} {B : Bd} (h : Inv V L ch B) (h0 : B.level = 0) : B.back = B := by
  have hz : B.zero.length = B.sp.length := by
    unfold Bd.zero
    rw [List.filter_eq_self.2, List.length_map]
    intro s hs
    have := h.wf.lv s hs
    simp
    omega
  unfold Bd.back
  rw [hz, List.take_length, Nat.min_eq_left h.wf.sp]
  cases B
  simp only at h0
  subst h0
  rfl

/-- A clause as it is laid on a board: each number once, and first the two that are not not-so, if there are any. -/
structure Laid (B : Bd) (c d : List Int) : Prop where
  mem : ∀ x, x ∈ d ↔ x ∈ c
  nd : d.Nodup
  a0 : ∀ a r, d = a :: r → -a ∈ B.st → ∀ y ∈ d, -y ∈ B.st
  a1 : ∀ a b r, d = a :: b :: r → -b ∈ B.st → ∀ y ∈ d, y ≠ a → -y ∈ B.st
def Bd.wat2 (B : Bd) (d : List Int) : Int → List (Nat × Int) := match d with
  | a :: b :: _ => upd (upd B.wt a (B.wt a ++ [(B.cl.length, b)])) b (upd B.wt a (B.wt a ++ [(B.cl.length, b)]) b ++ [(B.cl.length, a)])
  | _ => B.wt
def Bd.add (B : Bd) (d : List Int) : Bd :=
  if d = [] ∨ -(d.getD 0 0) ∈ B.st then { B with lost := true }
  else if d.getD 0 0 ∉ B.st ∧ (d.length = 1 ∨ -(d.getD 1 0) ∈ B.st) then ({ B with cl := B.cl ++ [d], wt := B.wat2 d } : Bd).put (d.getD 0 0) B.cl.length
  else { B with cl := B.cl ++ [d], wt := B.wat2 d }
theorem wat2_in {V : Int} {B : Bd} (h : Wf V B) {d : List Int} (hd : d.Nodup) : (∀ n, ∀ p ∈ B.wat2 d n, p ∈ B.wt n ∨ (p.1 = B.cl.length ∧ Wat n d ∧ p.2 ∈ d ∧ p.2 ≠ n)) ∧ (∀ n, ∀ p ∈ B.wt n, p ∈ B.wat2 d n) ∧ (∀ n, Wat n d → ∃ o, (B.cl.length, o) ∈ B.wat2 d n) ∧ ∀ n, ((B.wat2 d n).map (·.1)).Nodup := by
  have hlt : ∀ n, ∀ p ∈ B.wt n, p.1 < B.cl.length := fun n p hp => by
    obtain ⟨c, hc, _⟩ := h.wi n p hp
    exact (List.getElem?_eq_some_iff.1 hc).1
  match d, hd with
  | [], _ => exact ⟨fun n p hp => .inl hp, fun n p hp => hp, fun n hn => hn.elim, h.wd⟩
  | [x], _ => exact ⟨fun n p hp => .inl hp, fun n p hp => hp, fun n hn => hn.elim, h.wd⟩
  | a :: b :: r, hd =>
    have hab : a ≠ b := by intro e; subst e; simp at hd
    have hba : b ≠ a := fun e => hab e.symm
    have e : B.wat2 (a :: b :: r) = upd (upd B.wt a (B.wt a ++ [(B.cl.length, b)])) b (B.wt b ++ [(B.cl.length, a)]) := by
      show upd _ _ _ = _
      rw [upd_ne _ _ hba]
    rw [e]
    have key : ∀ n, upd (upd B.wt a (B.wt a ++ [(B.cl.length, b)])) b (B.wt b ++ [(B.cl.length, a)]) n = B.wt n ∨ ∃ o, upd (upd B.wt a (B.wt a ++ [(B.cl.length, b)])) b (B.wt b ++ [(B.cl.length, a)]) n = B.wt n ++ [(B.cl.length, o)] ∧ Wat n (a :: b :: r) ∧ o ∈ a :: b :: r ∧ o ≠ n := by
      intro n
      by_cases h1 : n = b
      · subst h1
        exact .inr ⟨a, by rw [upd_same], .inr rfl, by simp, hab⟩
      · rw [upd_ne _ _ h1]
        by_cases h2 : n = a
        · subst h2
          exact .inr ⟨b, by rw [upd_same], .inl rfl, by simp, hba⟩
        · exact .inl (by rw [upd_ne _ _ h2])
    refine ⟨fun n p hp => ?_, fun n p hp => ?_, fun n hn => ?_, fun n => ?_⟩
    · rcases key n with k | ⟨o, k, k1, k2, k3⟩
      · exact .inl (k ▸ hp)
      · rw [k] at hp
        rcases List.mem_append.1 hp with hp | hp
        · exact .inl hp
        · obtain rfl : p = (B.cl.length, o) := by simpa using hp
          exact .inr ⟨rfl, k1, k2, k3⟩
    · rcases key n with k | ⟨o, k, _⟩
      · rw [k]; exact hp
      · rw [k]; exact List.mem_append.2 (.inl hp)
    · rcases hn with rfl | rfl
      · exact ⟨b, by rw [upd_ne _ _ hab, upd_same]; simp⟩
      · exact ⟨a, by rw [upd_same]; simp⟩
    · rcases key n with k | ⟨o, k, _⟩
      · rw [k]; exact h.wd n
      · rw [k, List.map_append, List.nodup_append]
        refine ⟨h.wd n, by simp, fun x hx y hy e => ?_⟩
        obtain ⟨p, hp, rfl⟩ := List.mem_map.1 hx
        have : y = B.cl.length := by simpa using hy
        have := hlt n p hp
        omega
end Go.Proofs.YtkinmangilbeeaaGreatDoor.Pf
