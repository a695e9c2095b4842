/- A board of clauses: a clause added; whether a clause follows. Lists alone. -/
import Derived.Test.YtmambfdimeeijaaGreatDoorUfM
import Derived.Test.YtmambfdimeeijaaGreatDoorCb
import Derived.Maps.OwnSet
import Derived.Deep.RegionLaw
import Derived.Deep.RegionHeld3
import Derived.Deep.QuietTactic
import Derived.BigQuiet
namespace Go.Proofs.YtmambfdimeeijaaGreatDoor.Pf
theorem same_app {A B : List (List Int)} (h : SameCl A B) {c d : List Int} (hm : ∀ x, x ∈ d ↔ x ∈ c) : SameCl (A ++ [c]) (B ++ [d]) := by
 refine ⟨fun e he => ?_, fun e he => ?_⟩
 · rcases List.mem_append.1 he with he | he
   · obtain ⟨f, hf, hx⟩ := h.to e he
     exact ⟨f, List.mem_append.2 (.inl hf), hx⟩
   · obtain rfl : e = c := by simpa using he
     exact ⟨d, by simp, hm⟩
 · rcases List.mem_append.1 he with he | he
   · obtain ⟨f, hf, hx⟩ := h.fro e he
     exact ⟨f, List.mem_append.2 (.inl hf), hx⟩
   · obtain rfl : e = d := by simpa using he
     exact ⟨c, by simp, fun x => (hm x).symm⟩
theorem confl_app {A : List (List Int)} {c : List Int} {ch : Int → Prop} (h : Confl A ch) : Confl (A ++ [c]) ch := by
 rcases h with ⟨n, h1, h2⟩ | ⟨e, he, hm⟩
 · exact .inl ⟨n, h1, h2⟩
 · exact .inr ⟨e, List.mem_append.2 (.inl he), fun m hme => (hm m hme).more fun f hf => ⟨f, List.mem_append.2 (.inl hf), fun _ => Iff.rfl⟩⟩
theorem up_app {A : List (List Int)} {c : List Int} {ch : Int → Prop} {n : Int} (h : UP A ch n) : UP (A ++ [c]) ch n := h.more fun f hf => ⟨f, List.mem_append.2 (.inl hf), fun _ => Iff.rfl⟩
theorem add_wf {V : Int} {B : Bd} (h : Wf V B) {d : List Int} (hd : d.Nodup) (h1 : 1 ≤ d.length) (h2 : d.length ≤ 200) (hx : ∀ x ∈ d, Num V x) : Wf V { B with cl := B.cl ++ [d], wt := B.wat2 d } := by
 obtain ⟨w1, w2, w3, w4⟩ := wat2_in h hd
 have hap : ∀ {i : Nat} {c : List Int}, B.cl[i]? = some c → (B.cl ++ [d])[i]? = some c := fun {i c} hc => by
   have hi := (List.getElem?_eq_some_iff.1 hc).1
   rw [List.getElem?_append_left hi]
   exact hc
 have hown : (B.cl ++ [d])[B.cl.length]? = some d := by simp
 refine ⟨fun c hc => ?_, h.sn, h.sc, h.sr, h.sp, fun n p hp => ?_, w4, fun i c hc n hn => ?_, h.lv⟩
 · rcases List.mem_append.1 hc with hc | hc
   · exact h.cl c hc
   · obtain rfl : c = d := by simpa using hc
     exact ⟨hd, h1, h2, hx⟩
 · rcases w1 n p hp with hp | ⟨e1, e2, e3, e4⟩
   · obtain ⟨c, a1, a2, a3, a4⟩ := h.wi n p hp
     exact ⟨c, hap a1, a2, a3, a4⟩
   · exact ⟨d, by rw [e1]; exact hown, e2, e3, e4⟩
 · simp only at hc
   by_cases hi : i < B.cl.length
   · rw [List.getElem?_append_left hi] at hc
     obtain ⟨o, ho⟩ := h.wa i c hc n hn
     exact ⟨o, w2 n _ ho⟩
   · have hil : i < (B.cl ++ [d]).length := (List.getElem?_eq_some_iff.1 hc).1
     rw [List.length_append] at hil
     obtain rfl : i = B.cl.length := by simp at hil; omega
     rw [hown] at hc
     injection hc with hc
     subst hc
     exact w3 n hn
theorem add_ok {V : Int} {L : List (List Int)} {B : Bd} (h : Inv V L (fun _ => False) B) (h0 : B.level = 0) {c d : List Int} (hl : Laid B c d) (hlen : d.length ≤ 200) (hx : ∀ x ∈ c, Num V x) :
   Inv V (L ++ [c]) (fun _ => False) (B.add d) ∧ (B.add d).level = 0 := by
 have hzero : ∀ n ∈ B.st, n ∈ B.zero := fun n hn => at_zero h.wf.lv h0 hn
 unfold Bd.add
 by_cases hb : d = [] ∨ -(d.getD 0 0) ∈ B.st
 · rw [if_pos hb]
   have hconf : Confl (L ++ [c]) (fun _ => False) := by
     cases hlo : B.lost
     · refine .inr ⟨c, by simp, fun m hm => ?_⟩
       have hmd := (hl.mem m).2 hm
       match d, hb, hl, hmd with
       | [], _, _, hmd => simp at hmd
       | a :: r, hb, hl, hmd =>
         have ha : -a ∈ B.st := by simpa using hb
         exact up_app ((h.snd.zs _ (hzero _ (hl.a0 a r rfl ha m hmd))).same (h.rep hlo).symm)
     · exact confl_app (h.lst hlo)
   exact ⟨⟨⟨h.wf.cl, h.wf.sn, h.wf.sc, h.wf.sr, h.wf.sp, h.wf.wi, h.wf.wd, h.wf.wa, h.wf.lv⟩, h.le, fun e => by simp at e, fun _ => hconf, fun e => by simp at e, ⟨h.one.one, h.one.dn, h.one.dz⟩, ⟨h.snd.st, h.snd.zs⟩, h.zp⟩, h0⟩
 · rw [if_neg hb]
   have hne : d ≠ [] := fun e => hb (.inl e)
   have hn0 : -(d.getD 0 0) ∉ B.st := fun e => hb (.inr e)
   have hd1 : 1 ≤ d.length := by cases d with | nil => exact absurd rfl hne | cons _ _ => simp
   have hxd : ∀ x ∈ d, Num V x := fun x hxx => hx x ((hl.mem x).1 hxx)
   have hwf := add_wf h.wf hl.nd hd1 hlen hxd
   have hrep : B.lost = false → SameCl (L ++ [c]) (B.cl ++ [d]) := fun e => same_app (h.rep e) hl.mem
   have hlst : B.lost = true → Confl (L ++ [c]) (fun _ => False) := fun e => confl_app (h.lst e)
   have hsn : Snd ({ B with cl := B.cl ++ [d], wt := B.wat2 d } : Bd) (fun _ => False) := ⟨fun n hn => up_app (h.snd.st n hn), fun n hn => up_app (h.snd.zs n hn)⟩
   have hdm : d ∈ B.cl ++ [d] := by simp
   have h0m : d.getD 0 0 ∈ d := by cases d with | nil => exact absurd rfl hne | cons a r => simp
   -- what the new clause asks of those gone on from
   have hw : ∀ n ∈ B.st, Wat (-n) d → 2 ≤ d.length ∧ -(d.getD 1 0) ∈ B.st := fun n hn hwt => by
     match d, hwt, hn0 with
     | a :: b :: r, hwt, hn0 =>
       rcases hwt with e | e
       · exact absurd (by simp [← e]; exact hn) hn0
       · exact ⟨by simp, by simp [← e]; exact hn⟩
   by_cases hp : d.getD 0 0 ∉ B.st ∧ (d.length = 1 ∨ -(d.getD 1 0) ∈ B.st)
   · rw [if_pos hp]
     have hu : ∀ m ∈ d, m ≠ d.getD 0 0 → -m ∈ B.st := fun m hm hmn => by
       match d, hp, hl, hm, hmn with
       | [a], _, _, hm, hmn => simp at hm hmn; exact absurd hm hmn
       | a :: b :: r, hp, hl, hm, hmn =>
         have hb' : -b ∈ B.st := by simpa using hp.2
         exact hl.a1 a b r rfl hb' m hm (by simpa using hmn)
     -- as a loop's state with nothing left, so that put's law serves
     generalize hB1 : ({ B with cl := B.cl ++ [d], wt := B.wat2 d } : Bd) = B1 at *
     have e1 : B1.st = B.st := by rw [← hB1]; rfl
     have e2 : B1.zero = B.zero := by rw [← hB1]; rfl
     have e3 : B1.cl = B.cl ++ [d] := by rw [← hB1]
     have e4 : B1.level = 0 := by rw [← hB1]; exact h0
     have e5 : B1.lost = B.lost := by rw [← hB1]
     have e6 : B1.spread = B.spread := by rw [← hB1]
     have e7 : B1.sp = B.sp := by rw [← hB1]
     have hst := st_put B1 (d.getD 0 0) (B.cl.length : Nat)
     have hze : (B1.put (d.getD 0 0) (B.cl.length : Nat)).zero = B.zero ++ [d.getD 0 0] := by rw [zero_put, if_pos e4, e2]
     rw [e1] at hst
     have hs : ∀ n ∈ B.st, n ∈ (B1.put (d.getD 0 0) (B.cl.length : Nat)).st := fun n hn => by rw [hst]; simp [hn]
     have hz : ∀ n ∈ B.zero, n ∈ (B1.put (d.getD 0 0) (B.cl.length : Nat)).zero := fun n hn => by rw [hze]; simp [hn]
     have hone : ∀ e ∈ B.cl ++ [d], e.length = 1 → ∀ x ∈ e, x ∈ (B1.put (d.getD 0 0) (B.cl.length : Nat)).zero := fun e he hle x hxe => by
       rcases List.mem_append.1 he with he | he
       · exact hz x (h.one.one e he hle x hxe)
       · obtain rfl : e = d := by simpa using he
         match e, hle, hxe with
         | [a], _, hxe => rw [hze]; simp at hxe ⊢; exact .inr hxe
     have hlv : ∀ s ∈ (B1.put (d.getD 0 0) (B.cl.length : Nat)).sp, 0 ≤ s.2.1 ∧ s.2.1 ≤ B1.level := fun s hs' => by
       simp only [Bd.put] at hs'
       rcases List.mem_append.1 hs' with hs' | hs'
       · have := h.wf.lv s (e7 ▸ hs'); omega
       · have : s = (d.getD 0 0, B1.level, (B.cl.length : Int)) := by simpa using hs'
         subst this
         simp only [e4]
         omega
     have hspl : (B1.put (d.getD 0 0) (B.cl.length : Nat)).sp.length = B.sp.length + 1 := by simp [Bd.put, e7]
     refine ⟨⟨⟨hwf.cl, ?_, ?_, ?_, ?_, hwf.wi, hwf.wd, hwf.wa, hlv⟩, by show 0 ≤ B1.level; rw [e4]; exact Int.le_refl _, fun e => by show SameCl _ B1.cl; rw [e3]; exact hrep (e5 ▸ e), fun e => hlst (e5 ▸ e), fun e => ?_, ?_, ⟨fun n hn => ?_, fun n hn => ?_⟩, ?_⟩, e4⟩
     · rw [hst, List.nodup_append]
       exact ⟨h.wf.sn, by simp, fun a ha b hb' e => by have : b = d.getD 0 0 := by simpa using hb'
                                                       exact hp.1 (this ▸ e ▸ ha)⟩
     · intro n hn
       rw [hst] at hn ⊢
       rcases List.mem_append.1 hn with hn | hn
       · intro h3
         rcases List.mem_append.1 h3 with h3 | h3
         · exact h.wf.sc n hn h3
         · have : -n = d.getD 0 0 := by simpa using h3
           exact hn0 (by rw [← this, Int.neg_neg]; exact hn)
       · have e : n = d.getD 0 0 := by simpa using hn
         intro h3
         rcases List.mem_append.1 h3 with h3 | h3
         · exact hn0 (e ▸ h3)
         · have e2' : -n = d.getD 0 0 := by simpa using h3
           have := (hxd _ h0m).1
           omega
     · intro n hn
       rw [hst] at hn
       rcases List.mem_append.1 hn with hn | hn
       · exact h.wf.sr n hn
       · have : n = d.getD 0 0 := by simpa using hn
         exact this ▸ hxd _ h0m
     · rw [hspl]
       have := h.wf.sp
       show B1.spread ≤ _
       omega
     · have hk := h.cmp (e5 ▸ e)
       have htk : (B1.put (d.getD 0 0) (B.cl.length : Nat)).st.take (B1.put (d.getD 0 0) (B.cl.length : Nat)).spread = B.st.take B.spread := by
         show ((B1.put (d.getD 0 0) (B.cl.length : Nat)).st).take B1.spread = _
         rw [hst, e6, List.take_append_of_le_length (by rw [st_len]; exact h.wf.sp)]
       rw [htk]
       have hcl : (B1.put (d.getD 0 0) (B.cl.length : Nat)).cl = B.cl ++ [d] := e3
       refine ⟨fun e' he => hone e' (hcl ▸ he), fun n hn e' he hwt => ?_, fun n hn hnz e' he hwt => ?_⟩
       · rw [hcl] at he
         rcases List.mem_append.1 he with he | he
         · obtain ⟨m, hm, hms⟩ := hk.dn n hn e' he hwt
           exact ⟨m, hm, hs m hms⟩
         · obtain rfl : e' = d := by simpa using he
           exact ⟨e'.getD 0 0, h0m, by rw [hst]; simp⟩
       · rw [hcl] at he
         rcases List.mem_append.1 he with he | he
         · obtain ⟨m, hm, hms⟩ := hk.dz n hn (hzero n (List.mem_of_mem_take hn)) e' he hwt
           exact ⟨m, hm, hz m hms⟩
         · obtain rfl : e' = d := by simpa using he
           exact ⟨e'.getD 0 0, h0m, by rw [hze]; simp⟩
     · have hcl : (B1.put (d.getD 0 0) (B.cl.length : Nat)).cl = B.cl ++ [d] := e3
       exact ⟨fun e' he => hone e' (hcl ▸ he), fun n hn => by simp at hn, fun n hn => by simp at hn⟩
     · show UP B1.cl _ n
       rw [e3]
       rw [hst] at hn
       rcases List.mem_append.1 hn with hn | hn
       · exact up_app (h.snd.st n hn)
       · have : n = d.getD 0 0 := by simpa using hn
         subst this
         exact .unit d hdm h0m fun m hm hmn => up_app (h.snd.st _ (hu m hm hmn))
     · show UP B1.cl _ n
       rw [e3]
       rw [hze] at hn
       rcases List.mem_append.1 hn with hn | hn
       · exact up_app (h.snd.zs n hn)
       · have : n = d.getD 0 0 := by simpa using hn
         subst this
         exact .unit d hdm h0m fun m hm hmn => up_app (h.snd.zs _ (hzero _ (hu m hm hmn)))
     · refine ⟨(B1.put (d.getD 0 0) (B.cl.length : Nat)).sp.length, Nat.le_refl _, fun s hs' => ?_, fun s hs' => by rw [List.drop_length] at hs'; simp at hs', fun e => by have : B1.level = 0 := e4; simp only [Bd.put] at e; omega⟩
       rw [List.take_length] at hs'
       have := hlv s hs'
       omega
   · rw [if_neg hp]
     have hso : ∀ n ∈ B.st, Wat (-n) d → d.getD 0 0 ∈ B.st := fun n hn hwt => by
       have := hw n hn hwt
       exact Classical.byContradiction fun e => hp ⟨e, .inr this.2⟩
     have hone : ∀ e ∈ B.cl ++ [d], e.length = 1 → ∀ x ∈ e, x ∈ B.zero := fun e he hle x hxe => by
       rcases List.mem_append.1 he with he | he
       · exact h.one.one e he hle x hxe
       · obtain rfl : e = d := by simpa using he
         have hin : e.getD 0 0 ∈ B.st := Classical.byContradiction fun e' => hp ⟨e', .inl hle⟩
         match e, hle, hxe, hin with
         | [a], _, hxe, hin => simp at hxe hin; exact hxe ▸ hzero _ hin
     refine ⟨⟨hwf, h.le, hrep, hlst, fun e => ⟨hone, fun n hn e' he hwt => ?_, fun n hn hnz e' he hwt => ?_⟩, ⟨hone, fun n hn => by simp at hn, fun n hn => by simp at hn⟩, hsn, h.zp⟩, h0⟩
     · rcases List.mem_append.1 he with he | he
       · exact (h.cmp e).dn n hn e' he hwt
       · obtain rfl : e' = d := by simpa using he
         exact ⟨_, h0m, hso n (List.mem_of_mem_take hn) hwt⟩
     · rcases List.mem_append.1 he with he | he
       · exact (h.cmp e).dz n hn hnz e' he hwt
       · obtain rfl : e' = d := by simpa using he
         exact ⟨_, h0m, hzero _ (hso n (List.mem_of_mem_take hn) hwt)⟩
def Bd.nil : Bd := ⟨[], [], 0, false, 0, fun _ => []⟩
theorem nil_ok (V : Int) : Inv V [] (fun _ => False) Bd.nil := by
 have e1 : Bd.nil.st = [] := rfl
 have e2 : Bd.nil.zero = [] := rfl
 have e3 : Bd.nil.cl = [] := rfl
 have e4 : Bd.nil.sp = [] := rfl
 refine ⟨⟨fun c hc => by simp [e3] at hc, by simp [e1], fun n hn => by simp [e1] at hn, fun n hn => by simp [e1] at hn, by simp [Bd.nil], fun n p hp => by simp [Bd.nil] at hp, fun n => by simp [Bd.nil], fun i c hc => by simp [e3] at hc, fun s hs => by simp [e4] at hs⟩, Int.le_refl _, fun _ => .refl _, fun e => by simp [Bd.nil] at e, fun _ => ?_, ?_, ⟨fun n hn => by simp [e1] at hn, fun n hn => by simp [e2] at hn⟩, 0, by simp, by simp, by simp [e4], by simp⟩
 · exact ⟨fun c hc => by simp [e3] at hc, fun n hn => by simp [e1] at hn, fun n hn => by simp [e1] at hn⟩
 · exact ⟨fun c hc => by simp [e3] at hc, fun n hn => by simp at hn, fun n hn => by simp at hn⟩
end Go.Proofs.YtmambfdimeeijaaGreatDoor.Pf

namespace Go.Proofs.YtmambfdimeeijaaGreatDoor.Pf
open Go.RowKit Go.Maps Go.WideMaps
set_option maxRecDepth 100000
theorem law3 : Keyed Tryz.prog 3 := int_keyed Tryz.underlying3
theorem zero3 (w : World) : (zeroValue 3).run Tryz.prog w = .ok (.int .i64 0) w := by kernel_rfl
theorem lit_inj {a b : Int} (h : (DataW.lit (.int .i64 a) : DataW Unit) = .lit (.int .i64 b)) : a = b := by simpa using h
structure SoIs (st : List Int) (D : DataW Unit) : Prop where
 has : ∀ x : Int, Maps.has D (.int .i64 x) = decide (x ∈ st)
 at' : ∀ (i : Nat) (x : Int), st[i]? = some x → D.atKey (.int .i64 x) (.lit (.int .i64 0)) = .lit (.int .i64 i)
theorem soIs_zero : SoIs [] (.map []) := ⟨fun _ => by simp; rfl, fun i x h => by simp at h⟩
theorem SoIs.put {st : List Int} {D : DataW Unit} (h : SoIs st D) (hm : IsMap D) {x : Int} (hx : x ∉ st) : SoIs (st ++ [x]) (D.put (.int .i64 x) (.lit (.int .i64 st.length))) := by
 refine ⟨fun y => ?_, fun i y hy => ?_⟩
 · by_cases e : y = x
   · subst e
     rw [has_put_same hm (k := .int .i64 y) trivial]
     simp
   · rw [has_put_other (by simpa using e), h.has y]
     simp [e]
 · by_cases hi : i < st.length
   · rw [List.getElem?_append_left hi] at hy
     have hm' : y ∈ st := List.mem_of_getElem? hy
     have e : y ≠ x := fun e => hx (e ▸ hm')
     rw [atKey_put_other (by simpa using e)]
     exact h.at' i y hy
   · have hil : i < (st ++ [x]).length := (List.getElem?_eq_some_iff.1 hy).1
     rw [List.length_append] at hil
     obtain rfl : i = st.length := by simp at hil; omega
     have : y = x := by simpa using hy.symm
     subst this
     rw [atKey_put_same hm (k := .int .i64 y) trivial]
def Sm (w : World) (S n : Nat) (st : List Int) : Prop := ∃ D : DataW Unit, w.ownsMap Tryz.prog 3 (plainElem Tryz.prog 3) S n D ∧ SoIs st D
theorem map_same {H : Type} {P : Program} {k : TypeId} {R : Value → Option (DataW H × List MemPlace)} {w w1 : World} {b n : Nat} {D : DataW H} (h : w.ownsMap P k R b n D) (e : w1.heap[b]? = w.heap[b]?) : w1.ownsMap P k R b n D := by
 obtain ⟨es, cl, h1, h2⟩ := h
 exact ⟨es, cl, e.trans h1, h2⟩
theorem Sm.same {w w1 : World} {S n : Nat} {st : List Int} (h : Sm w S n st) (e : w1.heap[S]? = w.heap[S]?) : Sm w1 S n st := by
 obtain ⟨D, h1, h2⟩ := h
 exact ⟨D, map_same h1 e, h2⟩
theorem row_same {w w1 : World} {base : Nat} {e : TypeId} {sz : Nat} {v : Value} {n : Nat} {xs : List Value} (h : w.ownsRow base e sz v n xs) (hb : ∀ g, v.ownBlock = some g → w1.heap[g]? = w.heap[g]?) : w1.ownsRow base e sz v n xs := by
 refine ⟨h.1, ?_⟩
 rcases h.2 with hn | ⟨g, cap, cur, rfl, hbg, hg, rest⟩
 · exact .inl hn
 · exact .inr ⟨g, cap, cur, rfl, hbg, (hb g rfl).trans hg, rest⟩
def Small (x : Int) : Prop := -1000000 ≤ x ∧ x ≤ 1000000
theorem key3 {x : Int} (h : Small x) : keyOf Tryz.prog 3 (.int .i64 x) = some (.int .i64 x) := keyOf_int_mk Tryz.underlying3 (WalkArith.wf_i64 (by have := h.1; have := h.2; omega))
theorem look103 {w : World} {S n : Nat} {st : List Int} (h : Sm w S n st) {x : Int} (hx : Small x) :
   ∃ c, (Instr.lookup 127 (.map (some S)) (.int .i64 x) true).run Tryz.prog w = .ok (.tuple #[.int .i64 c, .bool (decide (x ∈ st))]) w ∧ ∀ i : Nat, st[i]? = some x → c = i := by
 obtain ⟨D, h1, h2⟩ := h
 obtain ⟨v, ps, h3, h4⟩ := World.ownsMap.look_ok h1 law3 Tryz.underlying127 (zero3 _) (plainElem_int Tryz.underlying3 (a := 0) (by decide)) (key3 hx)
 obtain ⟨c, rfl, h5, _⟩ := plainElem_int_inv Tryz.underlying3 h4
 rw [h2.has x] at h3
 refine ⟨c, h3, fun i hi => ?_⟩
 have h6 := h2.at' i x hi
 have h7 := congrArg Prod.fst h5
 simp only at h7
 rw [h6] at h7
 exact (lit_inj h7).symm
set_option maxHeartbeats 1000000 in
theorem isSo_any (R S n : Nat) (st : List Int) (x : Int) (hx : Small x) (w : World) (h5 : w.cell? ⟨R, 5, none⟩ = some (.map (some S))) (hS : Sm w S n st) :
   Calls Tryz.prog 210 #[.pointer (some ⟨R, 0, none⟩), .int .i64 x] w fun e w' => e = .returned (.bool (decide (x ∈ st))) ∧ w' = w := by
 obtain ⟨c, hl, _⟩ := look103 hS hx
 clear hS
 generalize decide (x ∈ st) = t at *
 go_enter Tryz.func210, Tryz.ntmps210
 go_wp2_with fail
 go_ret
 exact ⟨rfl, rfl⟩
theorem Small.neg {x : Int} (h : Small x) : Small (-x) := ⟨by have := h.2; omega, by have := h.1; omega⟩
set_option maxHeartbeats 1000000 in
theorem isNot_any (R S n : Nat) (st : List Int) (x : Int) (hx : Small x) (w : World) (h5 : w.cell? ⟨R, 5, none⟩ = some (.map (some S))) (hS : Sm w S n st) :
   Calls Tryz.prog 211 #[.pointer (some ⟨R, 0, none⟩), .int .i64 x] w fun e w' => e = .returned (.bool (decide (-x ∈ st))) ∧ w' = w := by
 have HI := hide (isSo_any R S n st (-x) hx.neg w h5 hS)
 have h1 := hx.1
 have h2 := hx.2
 clear hS
 generalize decide (-x ∈ st) = t at *
 go_enter Tryz.func211, Tryz.ntmps211
 go_wp2_with (go_at_call 210; refine HI.out.mono ?_; rintro e w' ⟨rfl, rfl⟩)
 go_ret
 exact ⟨rfl, rfl⟩
def flatS (l : List (Int × Int × Int)) : List Value := l.flatMap fun p => [.int .i64 p.1, .int .i64 p.2.1, .int .i64 p.2.2]
theorem flatS_app (l : List (Int × Int × Int)) (p : Int × Int × Int) : flatS (l ++ [p]) = flatS l ++ [.int .i64 p.1, .int .i64 p.2.1, .int .i64 p.2.2] := by simp [flatS]
def flatW (l : List (Nat × Int)) : List Value := l.flatMap fun p => [.int .i64 p.1, .int .i64 p.2]
theorem flatW_app (l : List (Nat × Int)) (p : Nat × Int) : flatW (l ++ [p]) = flatW l ++ [.int .i64 p.1, .int .i64 p.2] := by simp [flatW]
def slD (b o n c : Nat) : DataW Unit := .agg [.lit (.int .i64 b), .lit (.int .i64 o), .lit (.int .i64 n), .lit (.int .i64 c)]
def slR : Value → Option (DataW Unit × List MemPlace)
 | .slice (some ⟨b, o, none⟩) n c => some (slD b o n c, [])
 | .slice none 0 0 => some (.nil, [])
 | _ => none
def slV : Value → DataW Unit
 | .slice (some ⟨b, o, none⟩) n c => slD b o n c
 | _ => .nil
theorem slD_inj {b o n c b' o' n' c' : Nat} (h : slD b o n c = slD b' o' n' c') : b = b' ∧ o = o' ∧ n = n' ∧ c = c' := by
 unfold slD at h
 simp at h
 omega
def IsSl (v : Value) : Prop := v = .slice none 0 0 ∨ ∃ g n c, v = .slice (some ⟨g, 0, none⟩) n c
theorem slR_of {v : Value} (h : IsSl v) : slR v = some (slV v, []) := by
 rcases h with rfl | ⟨g, n, c, rfl⟩ <;> rfl
theorem slV_inj {v u : Value} (hv : IsSl v) (hu : ∃ ps, slR u = some (slV v, ps)) : u = v := by
 obtain ⟨ps, hu⟩ := hu
 unfold slR at hu
 split at hu
 · injection hu with hu
   have h1 := (Prod.mk.inj hu).1
   rcases hv with rfl | ⟨g, n, c, rfl⟩
   · simp [slV, slD] at h1
   · obtain ⟨rfl, rfl, rfl, rfl⟩ := slD_inj h1
     rfl
 · injection hu with hu
   have h1 := (Prod.mk.inj hu).1
   rcases hv with rfl | ⟨g, n, c, rfl⟩
   · rfl
   · simp [slV, slD] at h1
 · cases hu
theorem row_sl {w : World} {base : Nat} {e : TypeId} {sz : Nat} {v : Value} {n : Nat} {xs : List Value} (h : w.ownsRow base e sz v n xs) : IsSl v := by
 rcases h.2 with ⟨rfl, _⟩ | ⟨g, cap, cur, rfl, _⟩
 · exact .inl rfl
 · exact .inr ⟨g, n, cap, rfl⟩
theorem zero123 (w : World) : (zeroValue 234).run Tryz.prog w = .ok (.slice none 0 0) w := by kernel_rfl
def Wm (w : World) (W n : Nat) (wv : Int → Value) : Prop := ∃ D : DataW Unit, w.ownsMap Tryz.prog 3 slR W n D ∧ ∀ x : Int, D.atKey (.int .i64 x) .nil = slV (wv x)
theorem Wm.same {w w1 : World} {W n : Nat} {wv : Int → Value} (h : Wm w W n wv) (e : w1.heap[W]? = w.heap[W]?) : Wm w1 W n wv := by
 obtain ⟨D, h1, h2⟩ := h
 exact ⟨D, map_same h1 e, h2⟩
theorem look104 {w : World} {W n : Nat} {wv : Int → Value} (h : Wm w W n wv) {x : Int} (hx : Small x) (hv : IsSl (wv x)) :
   (Instr.lookup 214 (.map (some W)) (.int .i64 x) false).run Tryz.prog w = .ok (wv x) w := by
 obtain ⟨D, h1, h2⟩ := h
 obtain ⟨v, ps, h3, h4⟩ := World.ownsMap.lookup h1 law3 Tryz.underlying214 (zero123 _) (show slR (.slice none 0 0) = some (.nil, []) from rfl) (key3 hx)
 rw [h2 x] at h4
 rw [h3, slV_inj hv ⟨ps, h4⟩]
theorem Wm.put {w1 : World} {W n : Nat} {wv : Int → Value} {D : DataW Unit} (hm : IsMap D) (h2 : ∀ x : Int, D.atKey (.int .i64 x) .nil = slV (wv x)) {x : Int} {v : Value} (h : w1.ownsMap Tryz.prog 3 slR W n (D.put (.int .i64 x) (slV v))) : Wm w1 W n (upd wv x v) := by
 refine ⟨_, h, fun y => ?_⟩
 by_cases e : y = x
 · subst e
   rw [atKey_put_same hm (k := .int .i64 y) trivial, upd_same]
 · rw [atKey_put_other (by simpa using e), upd_ne _ _ e]
   exact h2 y
structure Mb (w : World) (X : Nat → Prop) (R S W nS nW : Nat) (vc vs : Value) (wk : Int) (cg cc : Nat → Nat) (wv : Int → Value) (B : Bd) : Prop where
 bd : w.heap[R]? = some (.cells #[vc, vs, .int .i64 B.level, .bool B.lost, .int .i64 wk, .map (some S), .map (some W), .int .i64 B.spread] 216 (0, 0))
 so : Sm w S nS B.st
 wm : Wm w W nW wv
 st : w.ownsRow 0 225 3 vs B.sp.length (flatS B.sp)
 rw : w.ownsRow 0 25 1 vc B.cl.length ((List.range B.cl.length).map fun i => .slice (some ⟨cg i, 0, none⟩) (B.cl.getD i []).length (cc i))
 cl : ∀ i, i < B.cl.length → w.ownsRow 0 3 1 (.slice (some ⟨cg i, 0, none⟩) (B.cl.getD i []).length (cc i)) (B.cl.getD i []).length ((B.cl.getD i []).map (Value.int .i64))
 wl : ∀ x, w.ownsRow 0 233 2 (wv x) (B.wt x).length (flatW (B.wt x))
 cn : ∀ i j, i < B.cl.length → j < B.cl.length → cg i = cg j → i = j
 wn : ∀ x y g, (wv x).ownBlock = some g → (wv y).ownBlock = some g → x = y
 sw : S ≠ W
 xr : X R
 xs : X S
 xw : X W
 xt : ∀ g, vs.ownBlock = some g → X g
 xc : ∀ g, vc.ownBlock = some g → X g
 xi : ∀ i, i < B.cl.length → X (cg i)
 xl : ∀ x g, (wv x).ownBlock = some g → X g
 xb : ∀ g, X g → g < w.heap.size
structure Fr (X : Nat → Prop) (w w' : World) (X' : Nat → Prop) : Prop where
 os : w'.os = w.os
 tape : w'.tape = w.tape
 output : w'.output = w.output
 size : w.heap.size ≤ w'.heap.size
 far : ∀ g, g < w.heap.size → ¬ X g → w'.heap[g]? = w.heap[g]?
 to : ∀ g, X g → X' g
 fro : ∀ g, g < w.heap.size → X' g → X g
theorem Fr.refl (X : Nat → Prop) (w : World) : Fr X w w X := ⟨rfl, rfl, rfl, Nat.le_refl _, fun _ _ _ => rfl, fun _ h => h, fun _ _ h => h⟩
theorem Fr.trans {X Y Z : Nat → Prop} {a b c : World} (h : Fr X a b Y) (k : Fr Y b c Z) : Fr X a c Z :=
 ⟨k.os.trans h.os, k.tape.trans h.tape, k.output.trans h.output, Nat.le_trans h.size k.size, fun g hg hx => (k.far g (Nat.lt_of_lt_of_le hg h.size) fun e => hx (h.fro g hg e)).trans (h.far g hg hx), fun g e => k.to g (h.to g e), fun g hg e => h.fro g hg (k.fro g (Nat.lt_of_lt_of_le hg h.size) e)⟩
theorem Fr.below {X Y : Nat → Prop} {a b : World} (h : Fr X a b Y) {base : Nat} (hb : base ≤ a.heap.size) (hx : ∀ g, X g → base ≤ g) : Below base a b :=
 ⟨h.os, h.tape, h.output, h.size, fun k hk => h.far k (by omega) fun e => by have := hx k e; omega⟩
theorem Fr.quiet {X : Nat → Prop} {a b : World} (h : Below a.heap.size a b) : Fr X a b X := ⟨h.os, h.tape, h.output, h.size, fun g hg _ => h.block g hg, fun _ e => e, fun _ _ e => e⟩
theorem Fr.cell {X Y : Nat → Prop} {a b : World} (h : Fr X a b Y) {q : Addr} {v : Value} (hq : a.cell? q = some v) (hx : ¬ X q.block) : b.cell? q = some v := by
 rw [World.cell?_of_block (w := a) (h.far _ (World.block_lt_of_cell? _ _ hq) hx)]
 exact hq
section
variable {w : World} {X : Nat → Prop} {R S W nS nW : Nat} {vc vs : Value} {wk : Int} {cg cc : Nat → Nat} {wv : Int → Value} {B : Bd}
theorem Mb.later {w1 : World} (h : Mb w X R S W nS nW vc vs wk cg cc wv B) (hb : Below w.heap.size w w1) : Mb w1 X R S W nS nW vc vs wk cg cc wv B := by
 have lt : ∀ {g o}, w.heap[g]? = some o → g < w.heap.size := fun h => (Array.getElem?_eq_some_iff.1 h).1
 have row : ∀ {e : TypeId} {sz : Nat} {v : Value} {n : Nat} {xs : List Value}, w.ownsRow 0 e sz v n xs → w1.ownsRow 0 e sz v n xs := fun hr => row_same hr fun g hg => hb.block g (hr.lt g hg).2
 refine ⟨(hb.block R (lt h.bd)).trans h.bd, h.so.same ?_, h.wm.same ?_, row h.st, row h.rw, fun i hi => row (h.cl i hi), fun x => row (h.wl x), h.cn, h.wn, h.sw, h.xr, h.xs, h.xw, h.xt, h.xc, h.xi, h.xl, fun g hg => Nat.lt_of_lt_of_le (h.xb g hg) hb.size⟩
 · obtain ⟨D, h1, _⟩ := h.so; exact hb.block S h1.lt
 · obtain ⟨D, h1, _⟩ := h.wm; exact hb.block W h1.lt
theorem Mb.c0 (h : Mb w X R S W nS nW vc vs wk cg cc wv B) : w.cell? ⟨R, 0, none⟩ = some vc := by rw [Lib.cell_of_heap h.bd]; rfl
theorem Mb.c1 (h : Mb w X R S W nS nW vc vs wk cg cc wv B) : w.cell? ⟨R, 1, none⟩ = some vs := by rw [Lib.cell_of_heap h.bd]; rfl
theorem Mb.c2 (h : Mb w X R S W nS nW vc vs wk cg cc wv B) : w.cell? ⟨R, 2, none⟩ = some (.int .i64 B.level) := by rw [Lib.cell_of_heap h.bd]; rfl
theorem Mb.c3 (h : Mb w X R S W nS nW vc vs wk cg cc wv B) : w.cell? ⟨R, 3, none⟩ = some (.bool B.lost) := by rw [Lib.cell_of_heap h.bd]; rfl
theorem Mb.c4 (h : Mb w X R S W nS nW vc vs wk cg cc wv B) : w.cell? ⟨R, 4, none⟩ = some (.int .i64 wk) := by rw [Lib.cell_of_heap h.bd]; rfl
theorem Mb.c5 (h : Mb w X R S W nS nW vc vs wk cg cc wv B) : w.cell? ⟨R, 5, none⟩ = some (.map (some S)) := by rw [Lib.cell_of_heap h.bd]; rfl
theorem Mb.c6 (h : Mb w X R S W nS nW vc vs wk cg cc wv B) : w.cell? ⟨R, 6, none⟩ = some (.map (some W)) := by rw [Lib.cell_of_heap h.bd]; rfl
theorem Mb.c7 (h : Mb w X R S W nS nW vc vs wk cg cc wv B) : w.cell? ⟨R, 7, none⟩ = some (.int .i64 B.spread) := by rw [Lib.cell_of_heap h.bd]; rfl
theorem Mb.fz (h : Mb w X R S W nS nW vc vs wk cg cc wv B) (k : Nat) : w.frozen? ⟨R, k, none⟩ = false := Lib.frozen_of_heap h.bd k
end
end Go.Proofs.YtmambfdimeeijaaGreatDoor.Pf

namespace Go.Proofs.YtmambfdimeeijaaGreatDoor.Pf
open Go.RowKit Go.Maps Go.WideMaps
set_option maxRecDepth 100000
theorem info115 : (Tryz.prog.info? 225).map (fun i => (i.zero, i.size, i.bytes)) = some (some (.agg #[.int .i64 0, .int .i64 0, .int .i64 0]), 3, 24) := by kernel_rfl
theorem info120 : (Tryz.prog.info? 233).map (fun i => (i.zero, i.size, i.bytes)) = some (some (.agg #[.int .i64 0, .int .i64 0]), 2, 16) := by kernel_rfl
theorem row_ne {w : World} {base : Nat} {e T : TypeId} {sz : Nat} {v : Value} {n : Nat} {xs : List Value} {b : Nat} {cs : Array Value} {fr : Nat × Nat} (hown : w.ownsRow base e sz v n xs) (hb : w.heap[b]? = some (.cells cs T fr)) (hTe : T ≠ e) : v.ownBlock ≠ some b := by
 rcases hown.2 with ⟨rfl, _⟩ | ⟨g, cap, cur, rfl, _, hg, _⟩
 · simp [Value.ownBlock]
 · intro h
   simp only [Value.ownBlock, Option.some.injEq] at h
   subst h
   rw [hg] at hb
   simp only [Option.some.injEq, Obj.cells.injEq] at hb
   exact hTe hb.2.1.symm
theorem rows_ne {w : World} {b1 b2 : Nat} {e1 e2 : TypeId} {s1 s2 : Nat} {v1 v2 : Value} {n1 n2 : Nat} {x1 x2 : List Value} (h1 : w.ownsRow b1 e1 s1 v1 n1 x1) (h2 : w.ownsRow b2 e2 s2 v2 n2 x2) (he : e1 ≠ e2) {g : Nat} (hg : v1.ownBlock = some g) : v2.ownBlock ≠ some g := by
 rcases h1.2 with ⟨rfl, _⟩ | ⟨g1, cap, cur, rfl, _, hg1, _⟩
 · simp [Value.ownBlock] at hg
 · simp only [Value.ownBlock, Option.some.injEq] at hg
   subst hg
   exact row_ne h2 hg1 he
theorem row_nmap {w : World} {base : Nat} {e : TypeId} {sz : Nat} {v : Value} {n : Nat} {xs : List Value} (hown : w.ownsRow base e sz v n xs) {H : Type} {P : Program} {k : TypeId} {R : Value → Option (DataW H × List MemPlace)} {b m : Nat} {D : DataW H} (hm : w.ownsMap P k R b m D) : v.ownBlock ≠ some b := by
 obtain ⟨es, cl, h1, _⟩ := hm
 rcases hown.2 with ⟨rfl, _⟩ | ⟨g, cap, cur, rfl, _, hg, _⟩
 · simp [Value.ownBlock]
 · intro h
   simp only [Value.ownBlock, Option.some.injEq] at h
   subst h
   rw [hg] at h1
   cases h1
theorem heap_nmap {w : World} {H : Type} {P : Program} {k : TypeId} {R : Value → Option (DataW H × List MemPlace)} {b m : Nat} {D : DataW H} (hm : w.ownsMap P k R b m D) {g : Nat} {cs : Array Value} {T : TypeId} {fr : Nat × Nat} (hg : w.heap[g]? = some (.cells cs T fr)) : b ≠ g := by
 obtain ⟨es, cl, h1, _⟩ := hm
 intro e
 subst e
 rw [hg] at h1
 cases h1
theorem size_set (w : World) (q : Addr) (u : Value) : (w.setCell q u).heap.size = w.heap.size := by
 simp
section
variable {w : World} {X : Nat → Prop} {R S W nS nW : Nat} {vc vs : Value} {wk : Int} {cg cc : Nat → Nat} {wv : Int → Value} {B : Bd}
theorem Mb.neS (h : Mb w X R S W nS nW vc vs wk cg cc wv B) : S ≠ R := by obtain ⟨D, h1, _⟩ := h.so; exact heap_nmap h1 h.bd
theorem Mb.neW (h : Mb w X R S W nS nW vc vs wk cg cc wv B) : W ≠ R := by obtain ⟨D, h1, _⟩ := h.wm; exact heap_nmap h1 h.bd
theorem Mb.board {w1 : World} (h : Mb w X R S W nS nW vc vs wk cg cc wv B) (hs : w.heap.size ≤ w1.heap.size) (hb : ∀ g, g ≠ R → w1.heap[g]? = w.heap[g]?) (level : Int) (lost : Bool) (spread : Nat) (wk' : Int)
   (hR : w1.heap[R]? = some (.cells #[vc, vs, .int .i64 level, .bool lost, .int .i64 wk', .map (some S), .map (some W), .int .i64 spread] 216 (0, 0))) : Mb w1 X R S W nS nW vc vs wk' cg cc wv { B with level := level, lost := lost, spread := spread } := by
 have row : ∀ {e : TypeId} {sz : Nat} {v : Value} {n : Nat} {xs : List Value}, 216 ≠ e → w.ownsRow 0 e sz v n xs → w1.ownsRow 0 e sz v n xs := fun he hr => row_same hr fun g hg => hb g fun e' => row_ne hr h.bd he (e' ▸ hg)
 exact ⟨hR, h.so.same (hb S h.neS), h.wm.same (hb W h.neW), row (by decide) h.st, row (by decide) h.rw, fun i hi => row (by decide) (h.cl i hi), fun x => row (by decide) (h.wl x), h.cn, h.wn, h.sw, h.xr, h.xs, h.xw, h.xt, h.xc, h.xi, h.xl, fun g hg => Nat.lt_of_lt_of_le (h.xb g hg) hs⟩
theorem Mb.work (h : Mb w X R S W nS nW vc vs wk cg cc wv B) (k : Int) : Mb (w.setCell ⟨R, 4, none⟩ (.int .i64 k)) X R S W nS nW vc vs k cg cc wv B :=
 h.board ((Below.refl 0 w).setCell (Nat.zero_le _) _).size (fun g hg => Below.heap_setCell _ _ _ _ hg) B.level B.lost B.spread k (by rw [heap_setCell_same _ _ _ _ _ _ h.bd]; rfl)
theorem Fr.set {q : Addr} (hq : X q.block) (u : Value) : Fr X w (w.setCell q u) X := by
 have hb : Below 0 w (w.setCell q u) := (Below.refl 0 w).setCell (Nat.zero_le _) u
 exact ⟨hb.os, hb.tape, hb.output, hb.size, fun g _ hx => Below.heap_setCell _ _ _ _ fun e => hx (e ▸ hq), fun _ e => e, fun _ _ e => e⟩
theorem Fr.grown {w1 : World} {row : Option Nat} (hg : w.grownBy w1 row) (hr : ∀ g, row = some g → X g) : Fr X w w1 X := ⟨hg.os, hg.tape, hg.output, hg.size, fun g h hx => hg.block g h fun e => hx (hr g e.symm), fun _ e => e, fun _ _ e => e⟩
theorem Mb.put {w3 : World} {X' : Nat → Prop} {vs' : Value} {wk' : Int} {n c : Int} (h : Mb w X R S W nS nW vc vs wk cg cc wv B)
   (hb : ∀ g, g < w.heap.size → g ≠ R → g ≠ S → vs.ownBlock ≠ some g → w3.heap[g]? = w.heap[g]?) (hx : ∀ g, X g → X' g)
   (hR : w3.heap[R]? = some (.cells #[vc, vs', .int .i64 B.level, .bool B.lost, .int .i64 wk', .map (some S), .map (some W), .int .i64 B.spread] 216 (0, 0)))
   (hS : Sm w3 S (nS + 1) (B.st ++ [n])) (hst : w3.ownsRow 0 225 3 vs' (B.sp.length + 1) (flatS (B.sp ++ [(n, B.level, c)]))) (hxt : ∀ g, vs'.ownBlock = some g → X' g) (hxb : ∀ g, X' g → g < w3.heap.size) :
   Mb w3 X' R S W (nS + 1) nW vc vs' wk' cg cc wv (B.put n c) := by
 have hso := h.so
 have hwm := h.wm
 obtain ⟨D, h1, _⟩ := hso
 obtain ⟨D2, h2, _⟩ := hwm
 have row : ∀ {e : TypeId} {sz : Nat} {v : Value} {m : Nat} {xs : List Value}, 216 ≠ e → e ≠ 225 → w.ownsRow 0 e sz v m xs → w3.ownsRow 0 e sz v m xs := fun he he2 hr => row_same hr fun g hg => hb g (hr.lt g hg).2 (fun e' => row_ne hr h.bd he (e' ▸ hg)) (fun e' => row_nmap hr h1 (e' ▸ hg)) (rows_ne hr h.st he2 hg)
 refine ⟨hR, ?_, h.wm.same (hb W h2.lt h.neW (fun e => h.sw e.symm) (row_nmap h.st h2)), ?_, row (by decide) (by decide) h.rw, fun i hi => row (by decide) (by decide) (h.cl i hi), fun x => row (by decide) (by decide) (h.wl x), h.cn, h.wn, h.sw, hx _ h.xr, hx _ h.xs, hx _ h.xw, hxt, fun g e => hx g (h.xc g e), fun i hi => hx _ (h.xi i hi), fun x g e => hx g (h.xl x g e), hxb⟩
 · rw [st_put]; exact hS
 · have : (B.put n c).sp.length = B.sp.length + 1 := by simp [Bd.put]
   rw [this]; exact hst
end
theorem three_news (x y z : Int) (w : World) : ∀ j u, ([.int .i64 x, .int .i64 y, .int .i64 z] : List Value)[j]? = some u → (w.drew.alloc (.cells #[.int .i64 x, .int .i64 y, .int .i64 z] 225)).cell? ((⟨w.heap.size, 0, none⟩ : Addr).add j) = some u := fun j u hj => by
 match j, hj with
 | 0, hj => simp at hj; subst hj; simp [go_sem, Addr.add]
 | 1, hj => simp at hj; subst hj; simp [go_sem, Addr.add]
 | 2, hj => simp at hj; subst hj; simp [go_sem, Addr.add]
theorem three_cell (x y z : Int) : ∀ u ∈ ([.int .i64 x, .int .i64 y, .int .i64 z] : List Value), u.oneCell' = true := fun u hu => by
 simp at hu; rcases hu with rfl | rfl | rfl <;> rfl
set_option maxHeartbeats 4000000 in
theorem put_any (w : World) (X : Nat → Prop) (R S W nS nW : Nat) (vc vs : Value) (wk : Int) (cg cc : Nat → Nat) (wv : Int → Value) (B : Bd) (h : Mb w X R S W nS nW vc vs wk cg cc wv B) (n c : Int) (hn : Small n) (hno : n ∉ B.st) (hl : B.sp.length ≤ 1000000) (hnS : nS ≤ 1000000000000000) :
   Calls Tryz.prog 220 #[.pointer (some ⟨R, 0, none⟩), .int .i64 n, .int .i64 c] w fun e w' => e = .returned (.tuple #[]) ∧ ∃ X' vs' wk', Mb w' X' R S W (nS + 1) nW vc vs' wk' cg cc wv (B.put n c) ∧ Fr X w w' X' := by
 obtain ⟨i0, hi, hz0, hz1, hz2⟩ := info_parts info115
 have c4 := h.c4
 have f4 := h.fz 4
 obtain ⟨ps, cs, rfl⟩ : ∃ p c, vs = .slice p B.sp.length c := by
   rcases h.st.2 with ⟨rfl, h0⟩ | ⟨g, cap, cur, rfl, _⟩
   · rw [h0]; exact ⟨_, _, rfl⟩
   · exact ⟨_, _, rfl⟩
 have H1 := hide (h.work (wrap64 (wk + 1)))
 have HF1 : Hid (Fr X w (w.setCell ⟨R, 4, none⟩ (.int .i64 (wrap64 (wk + 1)))) X) := Fr.set (q := ⟨R, 4, none⟩) h.xr _
 have hHS := h.so
 clear hHS
 go_enter Tryz.func220, Tryz.ntmps220
 go_wp2_with fail
 clear c4 f4 h
 generalize w.setCell ⟨R, 4, none⟩ (.int .i64 (wrap64 (wk + 1))) = w1 at *
 generalize wrap64 (wk + 1) = wk1 at *
 have c1 := H1.out.c1
 have c5 := H1.out.c5
 obtain ⟨D, hD, hDs⟩ := H1.out.so
 have HD := hide hD
 have hst := st_len B
 have HNP := hide (hDs.put hD.isMap hno)
 have hkey := key3 hn
 obtain ⟨w2, hrun2, hown2, hg2⟩ := hD.drew.update law3 Tryz.underlying127 (show nS < maxLen by unfold maxLen; omega) hkey (plainElem_int Tryz.underlying3 (a := (B.sp.length : Int)) (WalkArith.wf_i64 (by omega)))
 have hSR := H1.out.neS
 have d1 : w2.cell? ⟨R, 1, none⟩ = some (.slice ps B.sp.length cs) := hg2.cell c1 (by simpa using fun e => hSR e.symm)
 have d5 : w2.cell? ⟨R, 5, none⟩ = some (.map (some S)) := hg2.cell c5 (by simpa using fun e => hSR e.symm)
 go_region_held3 (fun w' => w'.cell? ⟨R, 1, none⟩ = some (.slice ps B.sp.length cs) ∧ w'.cell? ⟨R, 5, none⟩ = some (.map (some S))) (first | exact ⟨c1, c5⟩ | exact ⟨d1, d5⟩ | go_keep) (fail)
 have hrow2 : w2.ownsRow 0 225 3 (.slice ps B.sp.length cs) B.sp.length (flatS B.sp) := row_same H1.out.st fun g hg => hg2.block g (H1.out.st.lt g hg).2 (fun e => row_nmap H1.out.st HD.out (hg.trans e))
 have d2 : w2.cell? ⟨R, 2, none⟩ = some (.int .i64 B.level) := hg2.cell H1.out.c2 (by simpa using fun e => hSR e.symm)
 have hb2 : w2.heap[R]? = some (.cells #[vc, .slice ps B.sp.length cs, .int .i64 B.level, .bool B.lost, .int .i64 wk1, .map (some S), .map (some W), .int .i64 B.spread] 216 (0, 0)) := (hg2.block R (Array.getElem?_eq_some_iff.1 H1.out.bd).1 (by simpa using fun e => hSR e.symm)).trans H1.out.bd
 have e1 : w2.frozen? ⟨R, 1, none⟩ = false := Lib.frozen_of_heap hb2 1
 have HB2 := hide hb2
 have HRW := hide hrow2
 have HO2 := hide hown2
 have HG2 := hide hg2
 have HIN := hide (And.intro hi (And.intro hz0 (And.intro hz1 hz2)))
 have hR1 := World.block_lt_of_cell? _ _ d1
 simp only at hR1
 have hR2 := World.new_ne w2 ⟨R, 1, none⟩ d1
 simp only at hR2
 have HNE : Hid (Value.ownBlock (.slice ps B.sp.length cs) ≠ some R) := row_ne hrow2 hb2 (by decide)
 clear c1 c5 d5 hown2 hg2 hrow2 hrun2 hi hz0 hz1 hz2 hb2 hD
 go_wp2_with fail
 go_region_law (first
   | (refine step_append_lies _ rfl (.tmp 27) (.tmp 35) 213 rfl 0 225 i0 (.agg #[.int .i64 0, .int .i64 0, .int .i64 0]) 3 24 Tryz.underlying213 HIN.out.1 HIN.out.2.1 HIN.out.2.2.1 HIN.out.2.2.2 rfl (by decide) _ B.sp.length (flatS B.sp) (by simp [Act.eval]) (HRW.out.alloc _) ⟨w2.heap.size, 0, none⟩ 1 1 [.int .i64 n, .int .i64 B.level, .int .i64 c] (by simp [Act.eval]) rfl (three_news n B.level c w2) (three_cell n B.level c) (by decide) (by unfold maxLen; omega) (by omega) (by simp) (w2.heap.size + 1) (by simp) ?_
      intro g cap w3 hown3 hg3 hat3 hlt3
      have g1 := hg3.cell (a := ⟨R, 1, none⟩) (past1 d1 _) (fun e => HNE.out e.symm)
      have f2 : w3.frozen? ⟨R, 1, none⟩ = false := (grown_frozen hg3 (past1 d1 _) (fun e => HNE.out e.symm)).trans (((bal (Below.refl _ _) _).frozen (World.block_lt_of_cell? _ _ d1)).trans e1)))
 all_goals
   have hs2 : w1.heap.size ≤ w2.heap.size := HG2.out.size
   have ha : Below w2.heap.size w2 (w2.alloc (.cells #[.int .i64 n, .int .i64 B.level, .int .i64 c] 225)) := bal (Below.refl _ _) _
   have hs3 := hg3.size
   have h3 : ∀ k, k < w2.heap.size → Value.ownBlock (.slice ps B.sp.length cs) ≠ some k → w3.heap[k]? = w2.heap[k]? := fun k hk hne => (hg3.block k (by have := ha.size; simp at this ⊢; omega) (fun e => hne e.symm)).trans (ha.block k hk)
   have t3 := (h3 R hR1 HNE.out).trans HB2.out
   have hSb : Value.ownBlock (.slice ps B.sp.length cs) ≠ some S := row_nmap HRW.out HO2.out
   have hm4 := map_same (w1 := w3.setCell ⟨R, 1, none⟩ (.slice (some ⟨g, 0, none⟩) (B.sp.length + 1) cap)) HO2.out ((Below.heap_setCell _ _ _ _ hSR).trans (h3 S HO2.out.lt hSb))
   have HFN : Hid (∀ k, k < w1.heap.size → k ≠ R → k ≠ S → Value.ownBlock (.slice ps B.sp.length cs) ≠ some k → (w3.setCell ⟨R, 1, none⟩ (.slice (some ⟨g, 0, none⟩) (B.sp.length + 1) cap)).heap[k]? = w1.heap[k]?) := fun k hk h1 h2 h4 => (Below.heap_setCell _ _ _ _ h1).trans ((h3 k (by omega) h4).trans (HG2.out.block k hk (by simpa using h2)))
   have hne3 := row_ne hown3 t3 (by decide)
   rw [hst] at HNP
   have HM : Hid (Mb (w3.setCell ⟨R, 1, none⟩ (.slice (some ⟨g, 0, none⟩) (B.sp.length + 1) cap)) (fun k => X k ∨ k = g) R S W (nS + 1) nW vc (.slice (some ⟨g, 0, none⟩) (B.sp.length + 1) cap) wk1 cg cc wv (B.put n c)) :=
     H1.out.put HFN.out (fun k hk => .inl hk) (by rw [heap_setCell_same _ _ _ _ _ _ t3]; rfl) ⟨_, hm4, HNP.out⟩ (by rw [flatS_app]; exact ownsRow_setCell_other hown3 hne3 _) (fun k hk => by simp [Value.ownBlock] at hk; exact .inr hk.symm) (fun k hk => by
       have hz : (w3.setCell ⟨R, 1, none⟩ (.slice (some ⟨g, 0, none⟩) (B.sp.length + 1) cap)).heap.size = w3.heap.size := size_set _ _ _
       rcases hk with hk | rfl
       · have := H1.out.xb k hk; have := ha.size; simp at this hs3; omega
       · omega)
   have HF : Hid (Fr X w1 (w3.setCell ⟨R, 1, none⟩ (.slice (some ⟨g, 0, none⟩) (B.sp.length + 1) cap)) (fun k => X k ∨ k = g)) := by
     have hb0 : Below 0 w1 (w3.setCell ⟨R, 1, none⟩ (.slice (some ⟨g, 0, none⟩) (B.sp.length + 1) cap)) := ((((Below.refl 0 w1).drew.grown HG2.out (Nat.zero_le _) (fun _ _ => Nat.zero_le _)).trans (ha.mono (Nat.zero_le _)).drew).grown hg3 (Nat.zero_le _) (fun _ _ => Nat.zero_le _)).setCell (Nat.zero_le _) _
     refine ⟨hb0.os, hb0.tape, hb0.output, hb0.size, fun k hk hx => HFN.out k hk (fun e => hx (e ▸ H1.out.xr)) (fun e => hx (e ▸ H1.out.xs)) (fun e => hx (H1.out.xt k e)), fun k hk => .inl hk, fun k hk hx => ?_⟩
     rcases hx with hx | rfl
     · exact hx
     · rcases hat3 with e | e
       · exact H1.out.xt _ e
       · omega
   have HFF := hide (HF1.out.trans HF.out)
   clear hown3 hg3 hat3 hlt3 g1 f2 ha h3 t3 hm4 HFN hne3 HNP HF HF1
   go_end0
   exact ⟨rfl, _, _, _, HM.out, HFF.out⟩
end Go.Proofs.YtmambfdimeeijaaGreatDoor.Pf
