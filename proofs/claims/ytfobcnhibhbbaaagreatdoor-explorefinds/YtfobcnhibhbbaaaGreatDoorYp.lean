/- The moves of a model, and what comes of taking them: lists alone. -/
import Derived.Test.YtfobcnhibhbbaaaGreatDoorYnM
namespace Go.Proofs.YtfobcnhibhbbaaaGreatDoor.Ev.Xp

theorem words_len {ns : List Nd} {kind : Int} {l : List Int} (h : wordsE ns kind l = 0) : l.length = (sel (isK ns kind) ns.length).length := by
  unfold wordsE at h
  split at h
  · omega
  · omega
/-- The widths of a kind's nodes; their words by number; how many there are. -/
def wsK (ns : List Nd) (kind : Int) : List Int := (sel (isK ns kind) ns.length).map (wdOf ns)
def wrdK (ns : List Nd) (kind : Int) (k : Nat) : List Int := wordsL (wsK ns kind) k
def cntK (ns : List Nd) (kind : Int) : Nat := (allL (wsK ns kind)).toNat
theorem cntK_int (ns : List Nd) (kind : Int) : (cntK ns kind : Int) = allL (wsK ns kind) := Int.toNat_of_nonneg (Int.le_of_lt (allL_pos _))
theorem fitL_of {ns : List Nd} {S l : List Int} (hl : l.length = S.length) (h : ∀ k, k < S.length → 0 ≤ l.getD k 0 ∧ l.getD k 0 < two (wdOf ns (S.getD k 0))) : FitL (S.map (wdOf ns)) l := by
  induction S generalizing l with
  | nil => cases l with
    | nil => exact trivial
    | cons a l => simp at hl
  | cons s S ih =>
    cases l with
    | nil => simp at hl
    | cons a l =>
      have h0 := h 0 (by simp)
      refine ⟨h0.1, h0.2, ih (by simpa using hl) fun k hk => ?_⟩
      exact h (k + 1) (by simpa using hk)
theorem fit_words {ns : List Nd} {kind : Int} {l : List Int} : FitL (wsK ns kind) l ↔ wordsE ns kind l = 0 := by
  unfold wsK
  constructor
  · intro h
    obtain ⟨h1, h2⟩ := fitL_at h
    exact wordsE_ok h1 fun k hk => isW_iff.2 (h2 k (by omega))
  · intro h
    have hl := words_len h
    refine fitL_of hl fun k hk => ?_
    unfold wordsE at h
    rw [if_neg (by simp [hl])] at h
    by_cases h2 : (List.range l.length).any (fun i => !isW (l.getD i 0) (wdOf ns ((sel (isK ns kind) ns.length).getD i 0))) = true
    · rw [if_pos h2] at h; omega
    · have := List.any_eq_false.1 ((Bool.not_eq_true _).mp h2) k (List.mem_range.2 (by omega))
      exact isW_iff.1 (by simpa using this)
theorem wrd_ok (ns : List Nd) (kind : Int) (k : Nat) : wordsE ns kind (wrdK ns kind k) = 0 := fit_words.1 (words_fit _ _)
theorem wrd_num {ns : List Nd} {kind : Int} {l : List Int} (h : wordsE ns kind l = 0) : (numL (wsK ns kind) l).toNat < cntK ns kind ∧ wrdK ns kind (numL (wsK ns kind) l).toNat = l ∧ 0 ≤ numL (wsK ns kind) l := by
  have hf := fit_words.2 h
  obtain ⟨h1, h2⟩ := num_bd _ _ hf
  have hc := cntK_int ns kind
  refine ⟨by omega, ?_, h1⟩
  unfold wrdK
  rw [Int.toNat_of_nonneg h1]
  exact words_num _ _ hf
theorem num_wrd {ns : List Nd} {kind : Int} {k : Nat} (h : k < cntK ns kind) : numL (wsK ns kind) (wrdK ns kind k) = k := by
  have hc := cntK_int ns kind
  exact num_words _ _ (by omega) (by omega)
theorem fromOf_wd {ns : List Nd} {l : List (Int × Int)} (h : ∀ p ∈ l, pairE ns p.1 p.2 = 0) (s : Int) : wdOf ns (fromOf s l) = wdOf ns s := by
  unfold fromOf
  have : ∀ (l : List (Int × Int)) (a : Int), (∀ p ∈ l, pairE ns p.1 p.2 = 0) → wdOf ns a = wdOf ns s → wdOf ns (l.foldl (fun acc p => if p.1 == s then p.2 else acc) a) = wdOf ns s := by
    intro l
    induction l with
    | nil => intro a _ ha; exact ha
    | cons p l ih =>
      intro a hp ha
      rw [List.foldl_cons]
      refine ih _ (fun q hq => hp q (List.mem_cons_of_mem _ hq)) ?_
      by_cases e : (p.1 == s) = true
      · rw [if_pos e]
        have := (pairE_zero (hp p List.mem_cons_self)).2.2.2
        rw [← this, eq_of_beq e]
      · rw [if_neg e]; exact ha
  exact this l s h rfl
theorem follow_words {ns : List Nd} {l : List (Int × Int)} (hn : firstN (nodeAtE ns) ns.length = 0) (hp : ∀ p ∈ l, pairE ns p.1 p.2 = 0) {s i : List Int} (hs : wordsE ns 3 s = 0) (hi : wordsE ns 2 i = 0) : wordsE ns 3 (followL ns l (vals ns s i ns.length)) = 0 := by
  have hlen : (followL ns l (vals ns s i ns.length)).length = (sel (isK ns 3) ns.length).length := by unfold followL; rw [List.length_map]
  refine wordsE_ok hlen fun k hk => ?_
  rw [hlen] at hk
  have hb := sel_bd hk
  rw [getD_at (by rw [hlen]; exact hk), getD_at hk]
  unfold followL
  rw [List.getElem_map]
  obtain ⟨f0, f1⟩ := fromOf_in (n := ns.length) hb fun p hp' => (pairE_zero (hp p hp')).2.1
  rw [← fromOf_wd hp]
  generalize fromOf (sel (isK ns 3) ns.length)[k] l = x at *
  have := vals_isW hn hs hi x.toNat (by omega)
  rw [Int.toNat_of_nonneg f0] at this
  rw [vals_at ns s i (show x.toNat < ns.length by omega)]
  exact this
theorem two_small {ns : List Nd} (hW : Wok ns) (x : Int) : two (wdOf ns x) ≤ 256 := by
  have hd := wdOf_bd hW x
  have h := two_le (wdOf ns x).toNat 8 (by omega)
  rw [Int.toNat_of_nonneg hd.1] at h
  exact h
theorem words_fits {ns : List Nd} (hW : Wok ns) {kind : Int} {l : List Int} (h : wordsE ns kind l = 0) : Fits (sel (isK ns kind) ns.length).length l := by
  obtain ⟨h1, h2⟩ := fitL_at (fit_words.2 h)
  refine ⟨h1, fun x hx => ?_⟩
  obtain ⟨k, hk, rfl⟩ := List.getElem_of_mem hx
  have := h2 k (by omega)
  rw [getD_at hk] at this
  have := two_small hW ((sel (isK ns kind) ns.length).getD k 0)
  exact WalkArith.wf_i64 (by omega)
/-- A move: do all hold, is one bad, where does it come to; all of them; where it begins. -/
def mvOf (ns : List Nd) (xs : List (Int × Int)) (bs hs : List Int) (s i : Sg) : Bool × Bool × Sg := (!hs.any (fun x => (vals ns s i ns.length).getD x.toNat 0 == 0), bs.any (fun x => (vals ns s i ns.length).getD x.toNat 0 == 1), followL ns xs (vals ns s i ns.length))
def mvL (ns : List Nd) (xs : List (Int × Int)) (bs hs : List Int) (s : Sg) : List (Bool × Bool × Sg) := (List.range (cntK ns 2)).map fun k => mvOf ns xs bs hs s (wrdK ns 2 k)
def beL (ns : List Nd) (is : List (Int × Int)) (k : Nat) : Sg := followL ns is (vals ns (wrdK ns 3 k) (zeroI ns) ns.length)
def iniL (ns : List Nd) (is : List (Int × Int)) : List Sg := (List.range (cntK ns 3)).map (beL ns is)
/-- A move is taken: what was met, and by how few steps one is bad. -/
def takeM (k : Nat) (m : List (Sg × Nat)) (x : Bool × Bool × Sg) : List (Sg × Nat) := if x.1 then meetE m x.2.2 (k + 1) else m
def takeB (k : Nat) (bad : Option Nat) (x : Bool × Bool × Sg) : Option Nat := if x.1 && (x.2.1 && bad.isNone) then some k else bad
def allM (k : Nat) (m : List (Sg × Nat)) (l : List (Bool × Bool × Sg)) : List (Sg × Nat) := l.foldl (takeM k) m
def allB (k : Nat) (bad : Option Nat) (l : List (Bool × Bool × Sg)) : Option Nat := l.foldl (takeB k) bad
theorem allM_snoc (k : Nat) (m : List (Sg × Nat)) (l : List (Bool × Bool × Sg)) (x : Bool × Bool × Sg) : allM k m (l ++ [x]) = takeM k (allM k m l) x := by simp [allM, List.foldl_append]
theorem allB_snoc (k : Nat) (bad : Option Nat) (l : List (Bool × Bool × Sg)) (x : Bool × Bool × Sg) : allB k bad (l ++ [x]) = takeB k (allB k bad l) x := by simp [allB, List.foldl_append]
theorem meet_len (m : List (Sg × Nat)) (s : Sg) (k : Nat) : (meetE m s k).length ≤ m.length + 1 := by unfold meetE; split <;> simp
theorem takeM_len (k : Nat) (m : List (Sg × Nat)) (x : Bool × Bool × Sg) : (takeM k m x).length ≤ m.length + 1 := by
  unfold takeM
  split
  · exact meet_len _ _ _
  · omega
theorem takeM_pre (k : Nat) (m : List (Sg × Nat)) (x : Bool × Bool × Sg) : m <+: takeM k m x := by
  unfold takeM
  split
  · exact meet_pre _ _ _
  · exact List.prefix_refl _
theorem allM_len (k : Nat) (l : List (Bool × Bool × Sg)) : ∀ m : List (Sg × Nat), (allM k m l).length ≤ m.length + l.length := by
  induction l with
  | nil => intro m; exact Nat.le_refl _
  | cons x l ih =>
    intro m
    have h1 := ih (takeM k m x)
    have h2 := takeM_len k m x
    rw [List.length_cons]
    show (allM k (takeM k m x) l).length ≤ _
    omega
theorem allM_pre (k : Nat) (l : List (Bool × Bool × Sg)) : ∀ m : List (Sg × Nat), m <+: allM k m l := by
  induction l with
  | nil => intro m; exact List.prefix_refl _
  | cons x l ih => intro m; exact (takeM_pre k m x).trans (ih _)
section
variable {ini : List Sg} {mv : Sg → List (Bool × Bool × Sg)} {m : List (Sg × Nat)} {q : Nat}
theorem leave_some {a : Sg × Nat} (l : List (Bool × Bool × Sg)) : ∀ m : List (Sg × Nat), Jb ini mv m q → m[q]? = some a → (∀ x ∈ l, x ∈ mv a.1) → Jb ini mv (allM a.2 m l) q ∧ ∀ x ∈ l, x.1 = true → x.2.2 ∈ (allM a.2 m l).map (·.1) := by
  induction l with
  | nil => intro m h _ _; exact ⟨h, fun x hx => by simp at hx⟩
  | cons x l ih =>
    intro m h ha hl
    have h1 : Jb ini mv (takeM a.2 m x) q := by
      unfold takeM
      by_cases hx : x.1 = true
      · rw [if_pos hx]
        refine h.meet ha (b := x.2.1) ?_
        have := hl x List.mem_cons_self
        obtain ⟨x1, x2, x3⟩ := x
        simp only at hx
        subst hx
        exact this
      · rw [if_neg hx]; exact h
    obtain ⟨h2, h3⟩ := ih (takeM a.2 m x) h1 (pre_at (takeM_pre _ _ _) ha) fun y hy => hl y (List.mem_cons_of_mem _ hy)
    refine ⟨h2, fun y hy e => ?_⟩
    rcases List.mem_cons.1 hy with rfl | hy
    · refine pre_in (allM_pre _ l _) ?_
      unfold takeM
      rw [if_pos e]
      exact meet_mem
    · exact h3 y hy e
theorem allB_is (k : Nat) (l : List (Bool × Bool × Sg)) : ∀ bad : Option Nat, allB k bad l = if l.any (fun x => x.1 && x.2.1) then (if bad.isNone then some k else bad) else bad := by
  induction l with
  | nil => intro bad; rfl
  | cons x l ih =>
    intro bad
    show allB k (takeB k bad x) l = _
    rw [ih, List.any_cons]
    unfold takeB
    generalize l.any (fun x => x.1 && x.2.1) = y
    cases x.1 <;> cases x.2.1 <;> cases bad <;> cases y <;> simp
/-- A state is left by all its moves. -/
theorem leave_all {a : Sg × Nat} {bad : Option Nat} (h : Jb ini mv m q) (hb : Bb mv m q bad) (ha : m[q]? = some a) : Jb ini mv (allM a.2 m (mv a.1)) (q + 1) ∧ Bb mv (allM a.2 m (mv a.1)) (q + 1) (allB a.2 bad (mv a.1)) := by
  obtain ⟨h1, h2⟩ := leave_some (mv a.1) m h ha fun _ e => e
  have hp := allM_pre a.2 (mv a.1) m
  have ha' := pre_at hp ha
  obtain ⟨n1, n2⟩ := (hb.grow hp h.ql).next h1 ha'
  refine ⟨h1.left ha' fun b t ht => h2 _ ht rfl, ?_⟩
  rw [allB_is]
  by_cases hx : (mv a.1).any (fun x => x.1 && x.2.1) = true
  · rw [if_pos hx]
    refine n2 ?_
    obtain ⟨x, h3, h4⟩ := List.any_eq_true.1 hx
    obtain ⟨x1, x2, x3⟩ := x
    simp only [Bool.and_eq_true] at h4
    obtain ⟨rfl, rfl⟩ := h4
    exact ⟨x3, h3⟩
  · rw [if_neg hx]
    refine n1 fun t ht => hx (List.any_eq_true.2 ⟨_, ht, rfl⟩)
end
theorem found_meet (m : List (Sg × Nat)) (bad : Option Nat) (s : Sg) (k : Nat) : (if s ∈ m.map (·.1) then foundE m bad else { foundE m bad with r := (foundE m bad).r + 1, dp := k }) = foundE (meetE m s k) bad := by
  unfold meetE
  split
  · rfl
  · unfold foundE
    refine Fd.ext ?_ ?_ rfl rfl
    · simp
    · simp
theorem found_bad (m : List (Sg × Nat)) (k : Nat) : { foundE m none with bad := true, bdd := k } = foundE m (some k) := rfl
theorem ahead_meet {rows : List Rw} {m : List (Sg × Nat)} {q : Nat} (h : rows.map Rw.ns = (m.map (·.1)).drop q) (hq : q ≤ m.length) (r : Rw) (k : Nat) : (if r.ns ∈ m.map (·.1) then rows else rows ++ [r]).map Rw.ns = ((meetE m r.ns k).map (·.1)).drop q := by
  unfold meetE
  split
  · exact h
  · rw [List.map_append, List.map_append, h, List.drop_append_of_le_length (by simpa using hq)]
    rfl
/-- The numbers tell the states. -/
def nxK (ns : List Nd) (xs : List (Int × Int)) (bs hs : List Int) (s : Nat) : List Int := (mvL ns xs bs hs (wrdK ns 3 s)).map fun x => if x.1 then numL (wsK ns 3) x.2.2 else -1
def bdK (ns : List Nd) (xs : List (Int × Int)) (bs hs : List Int) (s : Nat) : List Bool := (mvL ns xs bs hs (wrdK ns 3 s)).map fun x => x.2.1 && x.1
def bsK (ns : List Nd) (is : List (Int × Int)) (s : Nat) : Nat := (numL (wsK ns 3) (beL ns is s)).toNat
section
variable {ns : List Nd} {is xs : List (Int × Int)} {bs hs : List Int}
theorem mv_words (h : checkE ns is xs bs hs = 0) {s : Sg} (hs' : wordsE ns 3 s = 0) : ∀ x ∈ mvL ns xs bs hs s, wordsE ns 3 x.2.2 = 0 := fun x hx => by
  obtain ⟨_, hn, hp, _⟩ := check_zero h
  unfold mvL at hx
  obtain ⟨k, _, rfl⟩ := List.mem_map.1 hx
  exact follow_words hn (pairs_zero hp).2.1 hs' (wrd_ok _ _ _)
theorem be_words (h : checkE ns is xs bs hs = 0) (k : Nat) : wordsE ns 3 (beL ns is k) = 0 := by
  obtain ⟨_, hn, hp, _⟩ := check_zero h
  exact follow_words hn (fun p hp' => init_zero ((pairs_zero hp).1 p hp')) (wrd_ok _ _ _) (zeros_fit 2)
theorem tellsK (h : checkE ns is xs bs hs = 0) : Tells (cntK ns 3) (wrdK ns 3) (bsK ns is) (nxK ns xs bs hs) (iniL ns is) (mvL ns xs bs hs) := by
  refine ⟨fun a b ha hb e => ?_, fun t => ?_, fun s _ => (wrd_num (be_words h s)).1, fun s hs' t ht => ?_, fun s hs' b t hm => ?_, fun s hs' x hx => ?_⟩
  · have h1 := num_wrd ha
    rw [e, num_wrd hb] at h1
    omega
  · unfold iniL
    constructor
    · intro ht
      obtain ⟨k, hk, rfl⟩ := List.mem_map.1 ht
      exact ⟨k, List.mem_range.1 hk, (wrd_num (be_words h k)).2.1.symm⟩
    · rintro ⟨s, hs', rfl⟩
      exact List.mem_map.2 ⟨s, List.mem_range.2 hs', (wrd_num (be_words h s)).2.1.symm⟩
  · unfold nxK
    constructor
    · intro hm
      obtain ⟨⟨x1, x2, x3⟩, hx, e⟩ := List.mem_map.1 hm
      have hw := mv_words h (wrd_ok ns 3 s) _ hx
      simp only at e hw
      cases x1 with
      | false => simp at e
      | true =>
        rw [if_pos rfl] at e
        refine ⟨x2, ?_⟩
        have := (wrd_num hw).2.1
        rw [e, Int.toNat_natCast] at this
        rw [this]
        exact hx
    · rintro ⟨b, hm⟩
      exact List.mem_map.2 ⟨_, hm, by rw [if_pos rfl]; exact num_wrd ht⟩
  · have hw := mv_words h (wrd_ok ns 3 s) _ hm
    exact ⟨_, (wrd_num hw).1, (wrd_num hw).2.1.symm⟩
  · unfold nxK at hx
    obtain ⟨y, hy, rfl⟩ := List.mem_map.1 hx
    have hw := mv_words h (wrd_ok ns 3 s) _ hy
    have h1 := (wrd_num hw).1
    have h2 := (wrd_num hw).2.2
    split
    · omega
    · omega
theorem bad_tells (s : Nat) : true ∈ bdK ns xs bs hs s ↔ ∃ t, (true, true, t) ∈ mvL ns xs bs hs (wrdK ns 3 s) := by
  unfold bdK
  constructor
  · intro hm
    obtain ⟨⟨x1, x2, x3⟩, hx, e⟩ := List.mem_map.1 hm
    simp only [Bool.and_eq_true] at e
    obtain ⟨rfl, rfl⟩ := e
    exact ⟨x3, hx⟩
  · rintro ⟨t, ht⟩
    exact List.mem_map.2 ⟨_, ht, rfl⟩
theorem met_few (h : checkE ns is xs bs hs = 0) {m : List (Sg × Nat)} {q : Nat} (hj : Jb (iniL ns is) (mvL ns xs bs hs) m q) : m.length ≤ cntK ns 3 := by
  have hT := tellsK h
  have hn : ((m.map (·.1)).map fun s => (numL (wsK ns 3) s).toNat).Nodup := by
    rw [List.nodup_iff_pairwise_ne, List.pairwise_map]
    refine List.Pairwise.imp_of_mem ?_ hj.nd
    intro a b ha hb hne e
    obtain ⟨x, hx, rfl⟩ := List.mem_map.1 ha
    obtain ⟨y, hy, rfl⟩ := List.mem_map.1 hb
    obtain ⟨u, hu, e1⟩ := hT.num (hj.ds x hx).1
    obtain ⟨v, hv, e2⟩ := hT.num (hj.ds y hy).1
    rw [e1, e2, num_wrd hu, num_wrd hv] at e
    refine hne ?_
    rw [e1, e2]
    congr 1
  have := nodup_nat (cntK ns 3) _ hn fun x hx => by
    obtain ⟨s, hs', rfl⟩ := List.mem_map.1 hx
    obtain ⟨y, hy, rfl⟩ := List.mem_map.1 hs'
    obtain ⟨u, hu, e1⟩ := hT.num (hj.ds y hy).1
    rw [e1, num_wrd hu]
    omega
  simpa using this
theorem reach_words (h : checkE ns is xs bs hs = 0) {k : Nat} {s : Sg} (hr : Reach (iniL ns is) (mvL ns xs bs hs) k s) : wordsE ns 3 s = 0 := by
  obtain ⟨u, _, rfl⟩ := (tellsK h).num hr
  exact wrd_ok _ _ _
end
end Go.Proofs.YtfobcnhibhbbaaaGreatDoor.Ev.Xp
