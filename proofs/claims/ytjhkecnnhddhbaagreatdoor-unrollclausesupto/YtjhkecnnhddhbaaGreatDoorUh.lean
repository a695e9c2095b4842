/- Numbers in order, each once. Lists alone. -/
import Derived.Test.YtjhkecnnhddhbaaGreatDoorPbM
import Derived.Lib.SlicesCompact
namespace Go.Proofs.YtjhkecnnhddhbaaGreatDoor.Pf
open Go.Lib
theorem compact_upto (d : Array Int) (hs : ∀ i j, i ≤ j → j < d.size → d[i]! ≤ d[j]!) : ∀ m, m ≤ d.size → (∀ x, x ∈ compactUpTo d m ↔ ∃ j, j < m ∧ d[j]! = x) ∧ (compactUpTo d m).Nodup := by
 intro m
 induction m with
 | zero => intro _; exact ⟨fun x => by simp [compactUpTo], by simp [compactUpTo]⟩
 | succ m ih =>
   intro hm
   obtain ⟨h1, h2⟩ := ih (by omega)
   rw [compactUpTo_succ]
   have hk : keeps d m = false → ∃ j, j < m ∧ d[j]! = d[m]! := fun e => by
     cases m with
     | zero => simp [keeps] at e
     | succ k => exact ⟨k, by omega, (by simpa [keeps] using e : d[k + 1]! = d[k]!).symm⟩
   have hk2 : keeps d m = true → ∀ j, j < m → d[j]! ≠ d[m]! := fun e j hj ej => by
     cases m with
     | zero => omega
     | succ k =>
       have a := hs j k (by omega) (by omega)
       have b := hs k (k + 1) (by omega) (by omega)
       have : d[k]! = d[k + 1]! := by omega
       simp [keeps, this] at e
   refine ⟨fun x => ?_, ?_⟩
   · rw [List.mem_append, h1]
     constructor
     · rintro (⟨j, hj, e⟩ | h)
       · exact ⟨j, by omega, e⟩
       · split at h
         · exact ⟨m, by omega, ((by simpa using h : x = d[m]!)).symm⟩
         · simp at h
     · rintro ⟨j, hj, e⟩
       by_cases hjm : j = m
       · subst hjm
         cases hkk : keeps d j
         · obtain ⟨i, hi, ei⟩ := hk hkk
           exact .inl ⟨i, hi, ei.trans e⟩
         · right; simp [e]
       · exact .inl ⟨j, by omega, e⟩
   · rw [List.nodup_append]
     refine ⟨h2, by split <;> simp, fun a ha b hb e => ?_⟩
     split at hb
     · rename_i hkk
       have hb' : b = d[m]! := by simpa using hb
       obtain ⟨j, hj, ej⟩ := (h1 a).1 ha
       exact hk2 hkk j hj (ej.trans (e.trans hb'))
     · simp at hb
def sortC (l : List Int) : List Int := compact (l.mergeSort fun x y => decide (x ≤ y))
theorem sortC_ok (l : List Int) : (∀ x, x ∈ sortC l ↔ x ∈ l) ∧ (sortC l).Nodup := by
 have hp : (l.mergeSort fun x y => decide (x ≤ y)).Perm l := List.mergeSort_perm _ _
 have hsr : (l.mergeSort fun x y => decide (x ≤ y)).Pairwise fun a b => decide (a ≤ b) = true := List.pairwise_mergeSort (fun a b c h1 h2 => by simp at *; omega) (fun a b => by simp; omega) l
 unfold sortC compact
 generalize l.mergeSort (fun x y => decide (x ≤ y)) = s at *
 have hs : ∀ i j, i ≤ j → j < s.toArray.size → s.toArray[i]! ≤ s.toArray[j]! := fun i j hij hj => by
   have hj' : j < s.length := by simpa using hj
   rw [List.pairwise_iff_getElem] at hsr
   by_cases e : i = j
   · subst e; exact Int.le_refl _
   · have := hsr i j (by omega) hj' (by omega)
     simp [getElem!_pos, hj', show i < s.length by omega] at this ⊢
     exact this
 obtain ⟨h1, h2⟩ := compact_upto s.toArray hs s.length (by simp)
 refine ⟨fun x => ?_, h2⟩
 rw [h1, ← hp.mem_iff]
 constructor
 · rintro ⟨j, hj, e⟩
   have : s.toArray[j]! = s[j] := by simp [getElem!_pos, hj]
   rw [← e, this]
   exact List.getElem_mem hj
 · intro hx
   obtain ⟨j, hj, e⟩ := List.getElem_of_mem hx
   exact ⟨j, hj, by simp [getElem!_pos, hj, e]⟩
end Go.Proofs.YtjhkecnnhddhbaaGreatDoor.Pf
