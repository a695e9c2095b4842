/- A board of clauses: a clause added; whether a clause follows. Lists alone. -/
import Derived.Test.YtkinmangilbeeaaGreatDoorUf
namespace Go.Proofs.YtkinmangilbeeaaGreatDoor.Pf

theorem same_app {A B : List (List Int)} (h : SameCl A B) {c d : List Int} (hm : ∀ x, x ∈ d ↔ x ∈ c) : SameCl (A ++ [c]) (B ++ [d]) := by
  refine ⟨fun e he => ?_, fun e he => ?_⟩
  · rcases List.mem_append.1 he with he | he
    · obtain ⟨f, hf, hx⟩ := h.to e he
      exact ⟨f, List.mem_append.2 (.inl hf), hx⟩
    · obtain rfl : e = c := by simpa using he
      exact ⟨d, by simp, hm⟩
  · rcases List.mem_append.1 he with he | he
    · obtain ⟨f, hf, hx⟩ := h.fro e he
      exact ⟨f, List.mem_append.2 (.inl hf), hx⟩
    · obtain rfl : e = d := by simpa using he
      exact ⟨c, by simp, fun x => (hm x).symm⟩
theorem confl_app {A : List (List Int)} {c : List Int} {ch : Int → Prop} (h : Confl A ch) : Confl (A ++ [c]) ch := by
  rcases h with ⟨n, h1, h2⟩ | ⟨e, he, hm⟩
  · exact .inl ⟨n, h1, h2⟩
  · exact .inr ⟨e, List.mem_append.2 (.inl he), fun m hme => (hm m hme).more fun f hf => ⟨f, List.mem_append.2 (.inl hf), fun _ => Iff.rfl⟩⟩
theorem up_app {A : List (List Int)} {c : List Int} {ch : Int → Prop} {n : Int} (h : UP A ch n) : UP (A ++ [c]) ch n := h.more fun f hf => ⟨f, List.mem_append.2 (.inl hf), fun _ => Iff.rfl⟩
theorem up_or {A B : List (List Int)} {ch : Int → Prop} (h : ∀ c ∈ A, ∃ d ∈ B, ∀ x, x ∈ d ↔ x ∈ c) {n : Int} (hn : UP A ch n) : UP B ch n := hn.more h

theorem add_wf {V : Int} {B : Bd} (h : Wf V B) {d : List Int} (hd : d.Nodup) (h1 : 1 ≤ d.length) (h2 : d.length ≤ 200) (hx : ∀ x ∈ d, Num V x) : Wf V { B with cl := B.cl ++ [d], wt := B.wat2 d } := by
  obtain ⟨w1, w2, w3, w4⟩ := wat2_in h hd
  have hap : ∀ {i : Nat} {c : List Int}, B.cl[i]? = some c → (B.cl ++ [d])[i]? = some c := fun {i c} hc => by
    have hi := (List.getElem?_eq_some_iff.1 hc).1
    rw [List.getElem?_append_left hi]
    exact hc
  have hown : (B.cl ++ [d])[B.cl.length]? = some d := by simp
  refine ⟨fun c hc => ?_, h.sn, h.sc, h.sr, h.sp, fun n p hp => ?_, w4, fun i c hc n hn => ?_, h.lv⟩
  · rcases List.mem_append.1 hc with hc | hc
    · exact h.cl c hc
    · obtain rfl : c = d := by simpa using hc
      exact ⟨hd, h1, h2, hx⟩
  · rcases w1 n p hp with hp | ⟨e1, e2, e3, e4⟩
    · obtain ⟨c, a1, a2, a3, a4⟩ := h.wi n p hp
      exact ⟨c, hap a1, a2, a3, a4⟩
    · exact ⟨d, by rw [e1]; exact hown, e2, e3, e4⟩
  · simp only at hc
    by_cases hi : i < B.cl.length
    · rw [List.getElem?_append_left hi] at hc
      obtain ⟨o, ho⟩ := h.wa i c hc n hn
      exact ⟨o, w2 n _ ho⟩
    · have hil : i < (B.cl ++ [d]).length := (List.getElem?_eq_some_iff.1 hc).1
      rw [List.length_append] at hil
      obtain rfl : i = B.cl.length := by simp at hil; omega
      rw [hown] at hc
      injection hc with hc
      subst hc
      exact w3 n hn

theorem add_ok {V : Int} {L : List (List Int)} {B : Bd} (h : Inv V L (fun _ => False) B) (h0 : B.level = 0) {c d : List Int} (hl : Laid B c d) (hlen : d.length ≤ 200) (hx : ∀ x ∈ c, Num V x) :
    Inv V (L ++ [c]) (fun _ => False) (B.add d) ∧ (B.add d).level = 0 := by
  have hzero : ∀ n ∈ B.st, n ∈ B.zero := fun n hn => at_zero h.wf.lv h0 hn
  unfold Bd.add
  by_cases hb : d = [] ∨ -(d.getD 0 0) ∈ B.st
  · rw [if_pos hb]
    have hconf : Confl (L ++ [c]) (fun _ => False) := by
      cases hlo : B.lost
      · refine .inr ⟨c, by simp, fun m hm => ?_⟩
        have hmd := (hl.mem m).2 hm
        match d, hb, hl, hmd with
        | [], _, _, hmd => simp at hmd
        | a :: r, hb, hl, hmd =>
          have ha : -a ∈ B.st := by simpa using hb
          exact up_app ((h.snd.zs _ (hzero _ (hl.a0 a r rfl ha m hmd))).same (h.rep hlo).symm)
      · exact confl_app (h.lst hlo)
    exact ⟨⟨⟨h.wf.cl, h.wf.sn, h.wf.sc, h.wf.sr, h.wf.sp, h.wf.wi, h.wf.wd, h.wf.wa, h.wf.lv⟩, h.le, fun e => by simp at e, fun _ => hconf, fun e => by simp at e, ⟨h.one.one, h.one.dn, h.one.dz⟩, ⟨h.snd.st, h.snd.zs⟩, h.zp⟩, h0⟩
  · rw [if_neg hb]
    have hne : d ≠ [] := fun e => hb (.inl e)
    have hn0 : -(d.getD 0 0) ∉ B.st := fun e => hb (.inr e)
    have hd1 : 1 ≤ d.length := by cases d with | nil => exact absurd rfl hne | cons _ _ => simp
    have hxd : ∀ x ∈ d, Num V x := fun x hxx => hx x ((hl.mem x).1 hxx)
    have hwf := add_wf h.wf hl.nd hd1 hlen hxd
    have hrep : B.lost = false → SameCl (L ++ [c]) (B.cl ++ [d]) := fun e => same_app (h.rep e) hl.mem
    have hlst : B.lost = true → Confl (L ++ [c]) (fun _ => False) := fun e => confl_app (h.lst e)
    have hsn : Snd ({ B with cl := B.cl ++ [d], wt := B.wat2 d } : Bd) (fun _ => False) := ⟨fun n hn => up_app (h.snd.st n hn), fun n hn => up_app (h.snd.zs n hn)⟩
    have hdm : d ∈ B.cl ++ [d] := by simp
    have h0m : d.getD 0 0 ∈ d := by cases d with | nil => exact absurd rfl hne | cons a r => simp
    -- what the new clause asks of those gone on from
    have hw : ∀ n ∈ B.st, Wat (-n) d → 2 ≤ d.length ∧ -(d.getD 1 0) ∈ B.st := fun n hn hwt => by
      match d, hwt, hn0 with
      | a :: b :: r, hwt, hn0 =>
        rcases hwt with e | e
        · exact absurd (by simp [← e]; exact hn) hn0
        · exact ⟨by simp, by simp [← e]; exact hn⟩
    by_cases hp : d.getD 0 0 ∉ B.st ∧ (d.length = 1 ∨ -(d.getD 1 0) ∈ B.st)
    · rw [if_pos hp]
      have hu : ∀ m ∈ d, m ≠ d.getD 0 0 → -m ∈ B.st := fun m hm hmn => by
        match d, hp, hl, hm, hmn with
        | [a], _, _, hm, hmn => simp at hm hmn; exact absurd hm hmn
        | a :: b :: r, hp, hl, hm, hmn =>
          have hb' : -b ∈ B.st := by simpa using hp.2
          exact hl.a1 a b r rfl hb' m hm (by simpa using hmn)
      -- as a loop's state with nothing left, so that put's law serves
      generalize hB1 : ({ B with cl := B.cl ++ [d], wt := B.wat2 d } : Bd) = B1 at *
      have e1 : B1.st = B.st := by rw [← hB1]; rfl
      have e2 : B1.zero = B.zero := by rw [← hB1]; rfl
      have e3 : B1.cl = B.cl ++ [d] := by rw [← hB1]
      have e4 : B1.level = 0 := by rw [← hB1]; exact h0
      have e5 : B1.lost = B.lost := by rw [← hB1]
      have e6 : B1.spread = B.spread := by rw [← hB1]
      have e7 : B1.sp = B.sp := by rw [← hB1]
      have hst := st_put B1 (d.getD 0 0) (B.cl.length : Nat)
      have hze : (B1.put (d.getD 0 0) (B.cl.length : Nat)).zero = B.zero ++ [d.getD 0 0] := by rw [zero_put, if_pos e4, e2]
      rw [e1] at hst
      have hs : ∀ n ∈ B.st, n ∈ (B1.put (d.getD 0 0) (B.cl.length : Nat)).st := fun n hn => by rw [hst]; simp [hn]
      have hz : ∀ n ∈ B.zero, n ∈ (B1.put (d.getD 0 0) (B.cl.length : Nat)).zero := fun n hn => by rw [hze]; simp [hn]
      have hone : ∀ e ∈ B.cl ++ [d], e.length = 1 → ∀ x ∈ e, x ∈ (B1.put (d.getD 0 0) (B.cl.length : Nat)).zero := fun e he hle x hxe => by
        rcases List.mem_append.1 he with he | he
        · exact hz x (h.one.one e he hle x hxe)
        · obtain rfl : e = d := by simpa using he
          match e, hle, hxe with
          | [a], _, hxe => rw [hze]; simp at hxe ⊢; exact .inr hxe
      have hlv : ∀ s ∈ (B1.put (d.getD 0 0) (B.cl.length : Nat)).sp, 0 ≤ s.2.1 ∧ s.2.1 ≤ B1.level := fun s hs' => by
        simp only [Bd.put] at hs'
        rcases List.mem_append.1 hs' with hs' | hs'
        · have := h.wf.lv s (e7 ▸ hs'); omega
        · have : s = (d.getD 0 0, B1.level, (B.cl.length : Int)) := by simpa using hs'
          subst this
          simp only [e4]
          omega
      have hspl : (B1.put (d.getD 0 0) (B.cl.length : Nat)).sp.length = B.sp.length + 1 := by simp [Bd.put, e7]
      refine ⟨⟨⟨hwf.cl, ?_, ?_, ?_, ?_, hwf.wi, hwf.wd, hwf.wa, hlv⟩, by show 0 ≤ B1.level; rw [e4]; exact Int.le_refl _, fun e => by show SameCl _ B1.cl; rw [e3]; exact hrep (e5 ▸ e), fun e => hlst (e5 ▸ e), fun e => ?_, ?_, ⟨fun n hn => ?_, fun n hn => ?_⟩, ?_⟩, e4⟩
      · rw [hst, List.nodup_append]
        exact ⟨h.wf.sn, by simp, fun a ha b hb' e => by have : b = d.getD 0 0 := by simpa using hb'
                                                        exact hp.1 (this ▸ e ▸ ha)⟩
      · intro n hn
        rw [hst] at hn ⊢
        rcases List.mem_append.1 hn with hn | hn
        · intro h3
          rcases List.mem_append.1 h3 with h3 | h3
          · exact h.wf.sc n hn h3
          · have : -n = d.getD 0 0 := by simpa using h3
            exact hn0 (by rw [← this, Int.neg_neg]; exact hn)
        · have e : n = d.getD 0 0 := by simpa using hn
          intro h3
          rcases List.mem_append.1 h3 with h3 | h3
          · exact hn0 (e ▸ h3)
          · have e2' : -n = d.getD 0 0 := by simpa using h3
            have := (hxd _ h0m).1
            omega
      · intro n hn
        rw [hst] at hn
        rcases List.mem_append.1 hn with hn | hn
        · exact h.wf.sr n hn
        · have : n = d.getD 0 0 := by simpa using hn
          exact this ▸ hxd _ h0m
      · rw [hspl]
        have := h.wf.sp
        show B1.spread ≤ _
        omega
      · have hk := h.cmp (e5 ▸ e)
        have htk : (B1.put (d.getD 0 0) (B.cl.length : Nat)).st.take (B1.put (d.getD 0 0) (B.cl.length : Nat)).spread = B.st.take B.spread := by
          show ((B1.put (d.getD 0 0) (B.cl.length : Nat)).st).take B1.spread = _
          rw [hst, e6, List.take_append_of_le_length (by rw [st_len]; exact h.wf.sp)]
        rw [htk]
        have hcl : (B1.put (d.getD 0 0) (B.cl.length : Nat)).cl = B.cl ++ [d] := e3
        refine ⟨fun e' he => hone e' (hcl ▸ he), fun n hn e' he hwt => ?_, fun n hn hnz e' he hwt => ?_⟩
        · rw [hcl] at he
          rcases List.mem_append.1 he with he | he
          · obtain ⟨m, hm, hms⟩ := hk.dn n hn e' he hwt
            exact ⟨m, hm, hs m hms⟩
          · obtain rfl : e' = d := by simpa using he
            exact ⟨e'.getD 0 0, h0m, by rw [hst]; simp⟩
        · rw [hcl] at he
          rcases List.mem_append.1 he with he | he
          · obtain ⟨m, hm, hms⟩ := hk.dz n hn (hzero n (List.mem_of_mem_take hn)) e' he hwt
            exact ⟨m, hm, hz m hms⟩
          · obtain rfl : e' = d := by simpa using he
            exact ⟨e'.getD 0 0, h0m, by rw [hze]; simp⟩
      · have hcl : (B1.put (d.getD 0 0) (B.cl.length : Nat)).cl = B.cl ++ [d] := e3
        exact ⟨fun e' he => hone e' (hcl ▸ he), fun n hn => by simp at hn, fun n hn => by simp at hn⟩
      · show UP B1.cl _ n
        rw [e3]
        rw [hst] at hn
        rcases List.mem_append.1 hn with hn | hn
        · exact up_app (h.snd.st n hn)
        · have : n = d.getD 0 0 := by simpa using hn
          subst this
          exact .unit d hdm h0m fun m hm hmn => up_app (h.snd.st _ (hu m hm hmn))
      · show UP B1.cl _ n
        rw [e3]
        rw [hze] at hn
        rcases List.mem_append.1 hn with hn | hn
        · exact up_app (h.snd.zs n hn)
        · have : n = d.getD 0 0 := by simpa using hn
          subst this
          exact .unit d hdm h0m fun m hm hmn => up_app (h.snd.zs _ (hzero _ (hu m hm hmn)))
      · refine ⟨(B1.put (d.getD 0 0) (B.cl.length : Nat)).sp.length, Nat.le_refl _, fun s hs' => ?_, fun s hs' => by rw [List.drop_length] at hs'; simp at hs', fun e => by have : B1.level = 0 := e4; simp only [Bd.put] at e; omega⟩
        rw [List.take_length] at hs'
        have := hlv s hs'
        omega
    · rw [if_neg hp]
      have hso : ∀ n ∈ B.st, Wat (-n) d → d.getD 0 0 ∈ B.st := fun n hn hwt => by
        have := hw n hn hwt
        exact Classical.byContradiction fun e => hp ⟨e, .inr this.2⟩
      have hone : ∀ e ∈ B.cl ++ [d], e.length = 1 → ∀ x ∈ e, x ∈ B.zero := fun e he hle x hxe => by
        rcases List.mem_append.1 he with he | he
        · exact h.one.one e he hle x hxe
        · obtain rfl : e = d := by simpa using he
          have hin : e.getD 0 0 ∈ B.st := Classical.byContradiction fun e' => hp ⟨e', .inl hle⟩
          match e, hle, hxe, hin with
          | [a], _, hxe, hin => simp at hxe hin; exact hxe ▸ hzero _ hin
      refine ⟨⟨hwf, h.le, hrep, hlst, fun e => ⟨hone, fun n hn e' he hwt => ?_, fun n hn hnz e' he hwt => ?_⟩, ⟨hone, fun n hn => by simp at hn, fun n hn => by simp at hn⟩, hsn, h.zp⟩, h0⟩
      · rcases List.mem_append.1 he with he | he
        · exact (h.cmp e).dn n hn e' he hwt
        · obtain rfl : e' = d := by simpa using he
          exact ⟨_, h0m, hso n (List.mem_of_mem_take hn) hwt⟩
      · rcases List.mem_append.1 he with he | he
        · exact (h.cmp e).dz n hn hnz e' he hwt
        · obtain rfl : e' = d := by simpa using he
          exact ⟨_, h0m, hzero _ (hso n (List.mem_of_mem_take hn) hwt)⟩
/-- The empty board. -/
def Bd.nil : Bd := ⟨[], [], 0, false, 0, fun _ => []⟩
theorem nil_ok (V : Int) : Inv V [] (fun _ => False) Bd.nil := by
  have e1 : Bd.nil.st = [] := rfl
  have e2 : Bd.nil.zero = [] := rfl
  have e3 : Bd.nil.cl = [] := rfl
  have e4 : Bd.nil.sp = [] := rfl
  refine ⟨⟨fun c hc => by simp [e3] at hc, by simp [e1], fun n hn => by simp [e1] at hn, fun n hn => by simp [e1] at hn, by simp [Bd.nil], fun n p hp => by simp [Bd.nil] at hp, fun n => by simp [Bd.nil], fun i c hc => by simp [e3] at hc, fun s hs => by simp [e4] at hs⟩, Int.le_refl _, fun _ => .refl _, fun e => by simp [Bd.nil] at e, fun _ => ?_, ?_, ⟨fun n hn => by simp [e1] at hn, fun n hn => by simp [e2] at hn⟩, 0, by simp, by simp, by simp [e4], by simp⟩
  · exact ⟨fun c hc => by simp [e3] at hc, fun n hn => by simp [e1] at hn, fun n hn => by simp [e1] at hn⟩
  · exact ⟨fun c hc => by simp [e3] at hc, fun n hn => by simp at hn, fun n hn => by simp at hn⟩

/-- A clause that is laid down follows, if a board that had it chosen fails; and only then. -/
def negs (c : List Int) : Int → Prop := fun x => ∃ m ∈ c, x = -m
theorem follow_no {V : Int} {L : List (List Int)} {ch : Int → Prop} {B : Bd} (h : Inv V L ch B) (hl : B.lost = false) (hs : B.spread = B.sp.length) {c : List Int} (hc : ∀ m ∈ c, -m ∈ B.st) : ¬ Confl L (negs c) := by
  intro hk
  have hcm := h.cmp hl
  rw [List.take_of_length_le (by rw [st_len, hs]; exact Nat.le_refl _)] at hcm
  exact no_confl (S := (· ∈ B.st)) (fun n ⟨m, hm, e⟩ => e ▸ hc m hm) h.wf.sc (sat_of h.wf hcm) (confl_same (h.rep hl).symm hk)
theorem follow_so {V : Int} {L : List (List Int)} {ch : Int → Prop} {B : Bd} (h : Inv V L ch B) (hl : B.lost = false) {c : List Int} (hch : ∀ n, ch n → negs c n) {x : Int} (hx : x ∈ c) (hs : x ∈ B.st) : Confl L (negs c) :=
  confl_of_both (n := x) (((h.snd.st x hs).same (h.rep hl).symm).mono fun n hn => .base (hch n hn)) (.base ⟨x, hx, rfl⟩)
end Go.Proofs.YtkinmangilbeeaaGreatDoor.Pf
