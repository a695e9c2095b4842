/- The search of searchBegun, reckoned. -/
import Derived.Test.YtjhkecnnhddhbaaGreatDoorLt
namespace Go.Proofs.YtjhkecnnhddhbaaGreatDoor.Sr
open Go.Proofs.YtjhkecnnhddhbaaGreatDoor.Pf
set_option maxRecDepth 100000
set_option autoImplicit false

/-- What Spread makes of a board, by its steps. -/
theorem spr_of {V : Int} {L : List (List Int)} {ch : Int → Prop} {B0 : Bd} : ∀ (g : Nat) (B : Bd), Spn V L ch B0 B → ∀ r, spreadN g B = some r → Spr V L ch B0 r.1 r.2 := by
  intro g
  induction g with
  | zero => intro B _ r h; cases h
  | succ g ih =>
    intro B hs r h
    rw [spreadN] at h
    split at h
    · rename_i hlt
      have hn : B.st[B.spread]? = some (B.st.getD B.spread 0) := by
        have : B.spread < B.st.length := by rw [st_len]; exact hlt
        rw [List.getD_eq_getElem?_getD, List.getElem?_eq_getElem this]
        rfl
      have hst := hs.step hn (B2 := (({ B with spread := B.spread + 1 } : Bd).lookAt (-(B.st.getD B.spread 0))).1) (f := (({ B with spread := B.spread + 1 } : Bd).lookAt (-(B.st.getD B.spread 0))).2) rfl
      split at h
      · rename_i hf
        exact ih _ (hst.2.1 hf) r h
      · rename_i hf
        injection h with h
        subst h
        exact hst.2.2.1 hf
    · rename_i hlt
      injection h with h
      subst h
      exact hs.done hlt
theorem undo_B (l : List Int) : ∀ S : Sx, (l.foldl Sx.undo S).B = S.B ∧ (l.foldl Sx.undo S).left = S.left := by
  induction l with
  | nil => exact fun _ => ⟨rfl, rfl⟩
  | cons x l ih => exact fun S => ih (S.undo x)
theorem back_B (S : Sx) (k : Nat) (lv : Int) : (S.back k lv).B = S.B.backTo k lv ∧ (S.back k lv).left = S.left := undo_B _ _
instance (n : Nat) (Q : Qu) : Decidable (QOk n Q) := decidable_of_iff (Q.pl.length = n ∧ Q.wt.length = n ∧ (∀ v ∈ Q.hp, 0 ≤ v ∧ v < n) ∧ Q.hp.length ≤ 1000000 ∧ n ≤ 1000000) ⟨fun ⟨a, b, c, d, e⟩ => ⟨a, b, c, d, e⟩, fun h => ⟨h.pl, h.wt, h.hp, h.len, h.n⟩⟩
instance (x : Int) : Decidable (Small x) := inferInstanceAs (Decidable (_ ∧ _))
instance (n : Nat) (T : Lz) (c : List Int) : Decidable (MeetOk n T c) := decidable_of_iff ((∀ x ∈ c, Small x) ∧ c.length ≤ 1000 ∧ T.S.B.sp.length ≤ T.S.marks.length ∧ (0 ≤ T.op ∧ T.op ≤ 1000000) ∧ T.oth.length ≤ 100000 ∧
  ∀ k, k < c.length → (T.meet (c.take k)).S.skip (c.getD k 0) = false → QOk n (T.meet (c.take k)).S.Q ∧ (c.getD k 0).natAbs < n ∧ ((T.meet (c.take k)).S.Q.pl.getD (c.getD k 0).natAbs 0 = -1 ∨ (0 ≤ (T.meet (c.take k)).S.Q.pl.getD (c.getD k 0).natAbs 0 ∧ (T.meet (c.take k)).S.Q.pl.getD (c.getD k 0).natAbs 0 < (T.meet (c.take k)).S.Q.hp.length))) ⟨fun ⟨a, b, c, d, e, f⟩ => ⟨a, b, c, d, e, f⟩, fun h => ⟨h.sm, h.len, h.ma, h.op, h.oth, h.q⟩⟩
instance (n : Nat) (S : Sx) : Decidable (ChOk n S) := decidable_of_iff (QOk n S.Q ∧ n ≤ 200000 ∧ S.lean.length = n ∧ S.B.sp.length ≤ 1000000 ∧ 0 ≤ S.B.level ∧ S.B.level ≤ 1000000) ⟨fun ⟨a, b, c, d, e⟩ => ⟨a, b, c, d, e⟩, fun h => ⟨h.q, h.nn, h.ln, h.sp, h.lv⟩⟩
theorem step_at {B : Bd} {j : Nat} (h : j < B.sp.length) {r : Int × Int × Int} (e : B.sp.getD j (0, 0, 0) = r) : B.sp[j] = r := by
  rw [List.getD_eq_getElem?_getD, List.getElem?_eq_getElem h] at e
  exact e
/-- At first. -/
def Sa : Sx := newSx 2 B3 100000
/-- Behind the first choice. -/
def Sb : Sx := { Sa with Q := (newQ 2 2).hpop, B := B4 }
theorem ch0 : Sx.choose Sa = (Sb, true) := rfl
def B5 : Bd := ((spreadN 5 B4).getD (B4, 0)).1
theorem spr5 : spreadN 5 B4 = some (B5, 1) := by
  have h := spr1
  unfold B5
  generalize spreadN 5 B4 = o at *
  cases o with
  | none => cases h
  | some r =>
    obtain ⟨B, f⟩ := r
    simp only [Option.map_some, Option.some.injEq, Prod.mk.injEq] at h
    obtain ⟨_, _, rfl⟩ := h
    rfl
def Sl : Sx := { Sb with B := B5 }
def S1' : Sx := { Sl with lessons := Sl.lessons + 1 }
def T1 : Lz := Lz.meet ⟨S1', 0, []⟩ (S1'.B.cl.getD 1 [])
def T2 : Lz := { T1.meet (T1.S.B.cl.getD 0 []) with op := (T1.meet (T1.S.B.cl.getD 0 [])).op - 1 }
def S2' : Sx := { T2.S with Q := T2.S.Q.fade }
def S3' : Sx := S2'.back 0 0
def Bc : Bd := (B5.backTo 0 0).add [1]
def Sc : Sx := { S3' with B := Bc, left := Sl.left - 1 }
def B7 : Bd := ((spreadN 5 Bc).getD (B4, 0)).1
def Sz : Sx := (Sx.choose { Sc with B := B7 }).1
theorem wk2 : Wk 3 T1 (S1'.B.sp.length - 1) T2 0 := by
  rw [show S1'.B.sp.length - 1 = 0 + 1 by decide +kernel]
  have h : 0 + 1 < T1.S.B.sp.length := by decide +kernel
  refine Wk.meet (ci := 0) h (by decide +kernel) (by decide +kernel) (by decide +kernel) ?_ (by decide +kernel) (by decide +kernel) (Wk.done (by decide +kernel) (by decide +kernel) (by decide +kernel) (by decide +kernel))
  rw [step_at h (r := (2, 1, 0)) (by decide +kernel)]
  rfl
theorem st3 : S3'.B = B5.backTo 0 0 := (back_B S2' 0 0).1
theorem add5 : S3'.B.add (layD S3'.B.st [1]) = Bc := by
  rw [st3]
  have h : (B5.backTo 0 0).st = [] := rfl
  rw [h, l3]
  rfl
theorem back5 : B5.backTo 0 0 = B5.back := by
  have h : B5.zero.length = 0 := by decide +kernel
  unfold Bd.back Bd.backTo
  rw [h]
theorem num2 (x : Int) (h : x = 1 ∨ x = -1 ∨ x = 2 ∨ x = -2) : Num 2 x := ⟨by omega, by omega, by omega⟩
theorem inv4 (h : Inv 2 c3 (fun _ => False) B3) : Inv 2 c3 (fun x => False ∨ x = -1) B4 := choose_ok h (num2 _ (.inr (.inl rfl))) (by decide +kernel) (by decide +kernel) (fun _ => by decide +kernel)
theorem spr4 (h : Inv 2 c3 (fun _ => False) B3) : Spr 2 c3 (fun x => False ∨ x = -1) B4 B5 1 := spr_of 5 B4 (Spn.refl (inv4 h)) _ spr5
theorem inv5 (h : Inv 2 c3 (fun _ => False) B3) : Inv 2 c3 (fun _ => False) S3'.B := by
  rw [st3, back5]
  exact (back_ok (((spr4 h).bad (by decide)).2.1 (by decide +kernel)).1).1
theorem learn5 (h : Inv 2 c3 (fun _ => False) B3) : LearnOk 2 3 c3 Sl 1 1 S1' T2 0 S2' 0 S3' where
  hS1 := rfl
  hles := by decide +kernel
  hleft := by decide +kernel
  hci := by decide +kernel
  ok := by decide +kernel
  hsp := by decide +kernel
  h0 := by decide +kernel
  hw := wk2
  hoth := by decide +kernel
  hx := fun h => by rw [step_at h (r := (-1, 1, -1)) (by decide +kernel)]; rfl
  hxs := by decide +kernel
  hg0 := by decide +kernel
  hg1 := by decide +kernel
  hS2 := rfl
  qok := by decide +kernel
  hn := by decide
  hln := by decide +kernel
  hq := by decide +kernel
  hxn := by decide +kernel
  hk := by decide +kernel
  hb0 := by decide +kernel
  hb1 := by decide +kernel
  hsn := by decide +kernel
  hspr := by decide +kernel
  hS3 := rfl
  hI := inv5 h
  hlv := by rw [st3]; rfl
  hV := by decide
  hcl := by decide +kernel
  hxV := num2 _ (.inl rfl)
  hl3 := (back_B S2' 0 0).2.trans (by decide +kernel)
theorem invc (h : Inv 2 c3 (fun _ => False) B3) : Inv 2 (c3 ++ [[1]]) (fun _ => False) Bc := by
  have h5 := inv5 h
  rw [st3] at h5
  refine (add_ok h5 rfl (c := [1]) (d := [1]) ⟨fun _ => Iff.rfl, by simp, fun a r e hm => ?_, fun a b r e => by simp at e⟩ (by decide) (fun x hx => num2 _ (.inl (by simpa using hx)))).1
  have e2 : (B5.backTo 0 0).st = [] := rfl
  rw [e2] at hm
  cases hm
theorem spr7 : spreadN 5 Bc = some (B7, -1) := by
  have h : ((spreadN 5 Bc).map fun r => r.2) = some (-1) := by decide +kernel
  unfold B7
  generalize spreadN 5 Bc = o at *
  cases o with
  | none => cases h
  | some r =>
    obtain ⟨B, f⟩ := r
    simp only [Option.map_some, Option.some.injEq] at h
    subst h
    rfl
theorem ch7 : Sx.choose { Sc with B := B7 } = (Sz, false) := Prod.ext rfl (by decide +kernel)
theorem valz : valN Sz.B Sz.V Sz.V = [true, true] := by decide +kernel
theorem vz : Sz.V = 2 := by decide +kernel
end Go.Proofs.YtjhkecnnhddhbaaGreatDoor.Sr
