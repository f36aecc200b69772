/-
  The program's 'operands' answers as the plain function 'ops' says: for every reader and every text of at most three letters.
-/
import Derived.Test.YtohobhbcjikhpaaDoorTake
import Derived.Test.YtohobhbcjikhpaaDoorTarget
namespace Go.Proofs.YtohobhbcjikhpaaDoor
open Go.RowKit

set_option maxHeartbeats 400000 in
theorem operands_any (b : Nat) (s S : ByteArray) (p R F L : Nat) (f r l : Int) (w : World) (h : w.heap[b]? = some (rdA s p f r l)) (hs : s.size ≤ maxLen) (hS : S.size ≤ 3) (hp : p ≤ s.size)
    (hr : Hid (r = R)) (hf : Hid (f = F)) (hl : Hid (l = L)) (h1 : 1 ≤ R) (h2 : 1 ≤ F) (h3 : R ≤ 8) (h4 : F ≤ 8) :
    Calls Tryd.prog 80 #[.pointer (some ⟨b, 0, none⟩), .string S] w fun e w' => e = .returned (.bool (M.ops s R F L (M.letters S) p).2) ∧ w'.heap[b]? = some (rdA s ((M.ops s R F L (M.letters S) p).1 : Nat) f r l) ∧ w.grownBy w' (some b) := by
  have hs' : s.size ≤ 9223372036854775807 := by unfold maxLen at hs; omega
  have HS : Hid (s.size ≤ maxLen) := hs
  clear hs
  go_enter Tryd.func80, Tryd.ntmps80
  go_wp2
  go_loopw [10] (fun i wr => ∃ k q : Nat, k ≤ S.size ∧ q ≤ s.size ∧ i = .int .i64 k ∧ Hid (wr.heap[b]? = some (rdA s q f r l)) ∧ w.grownBy wr (some b) ∧ Hid (M.ops s R F L ((M.letters S).drop k) q = M.ops s R F L (M.letters S) p)) (fun i _ => S.size - (intOf i).toNat)
  case atStart => exact ⟨0, p, by omega, hp, rfl, h, grown_refl _ _, rfl⟩
  case round =>
    obtain ⟨k, q, hk, hq, rfl, hq1, hg, ho⟩ := hrel
    by_cases hlt : k < S.size
    · have hc := M.letters_drop S k hlt
      have ho2 : Hid (M.ops s R F L (M.letters S) p = if S[k].toNat = 116 then M.tgt s q L else if M.tk s q 0 (M.hiOf R F S[k].toNat) = true then M.ops s R F L ((M.letters S).drop (k + 1)) (q + 1) else (q, false)) := by
        show _ = _
        rw [← ho.out, hc]; rfl
      clear hc ho
      by_cases ht : S[k].toNat = 116
      · have ho3 : Hid (M.ops s R F L (M.letters S) p = M.tgt s q L) := by show _ = _; rw [ho2.out, if_pos ht]
        clear ho2
        have hb1 : ((S[k].toNat : Int) == 116) = true := by simp; omega
        clear ht
        go_wp2_with fail
        refine (target_any b s q L f r l _ hq1.out HS.out hq hl.out).mono ?_
        rintro e w1 ⟨rfl, hh, hg1⟩
        go_wp2_with fail
        go_ret
        refine ⟨?_, ?_, grown_trans hg hg1⟩
        · rw [ho3.out]; rfl
        · rw [ho3.out]; exact hh
      · have hb1 : ((S[k].toNat : Int) == 116) = false := by simp; omega
        rw [if_neg ht] at ho2
        clear ht
        go_wp2_with fail
        refine (highest_any b s S[k].toNat R F q f r l _ _ hq1.out hr.out hf.out h1 h2 h3 h4 rfl).mono ?_
        rintro e w1 ⟨rfl, rfl⟩
        go_wp2_with fail
        by_cases htk : M.tk s q 0 (M.hiOf R F S[k].toNat) = true
        · have ho3 : Hid (M.ops s R F L (M.letters S) p = M.ops s R F L ((M.letters S).drop (k + 1)) (q + 1)) := by show _ = _; rw [ho2.out, if_pos htk]
          have hq2 := (M.tk_lt htk).1
          clear ho2
          refine (take_good b s q 0 _ f r l _ _ _ hq1.out HS.out rfl rfl htk).mono ?_
          rintro e w2 ⟨rfl, hh, hg2⟩
          have HH : Hid (w2.heap[b]? = some (rdA s ((q + 1 : Nat) : Int) f r l)) := hh
          clear hh htk
          go_wp2_with fail
          go_roundw
          case rel => exact ⟨k + 1, q + 1, by omega, by omega, by go_num, HH, grown_trans hg hg2, ho3.out.symm⟩
          case measure => simp [intOf]; omega
        · have htf : M.tk s q 0 (M.hiOf R F S[k].toNat) = false := by simpa using htk
          have ho3 : Hid (M.ops s R F L (M.letters S) p = (q, false)) := by show _ = _; rw [ho2.out, if_neg htk]
          clear ho2
          refine (take_bad b s q 0 _ f r l _ _ _ hq1.out hq rfl rfl htf).mono ?_
          rintro e w2 ⟨rfl, hh, hg2⟩
          have HH : Hid (w2.heap[b]? = some (rdA s q f r l)) := hh
          clear hh htk htf
          go_wp2_with fail
          go_ret
          refine ⟨?_, ?_, grown_trans hg hg2⟩
          · rw [ho3.out]; rfl
          · rw [ho3.out]; exact HH.out
    · obtain rfl : k = S.size := by omega
      have ho3 : Hid (M.ops s R F L (M.letters S) p = (q, true)) := by
        show _ = _
        rw [← ho.out, M.letters_end]; rfl
      clear ho
      go_wp2_with fail
      go_ret
      refine ⟨?_, ?_, hg⟩
      · rw [ho3.out]; rfl
      · rw [ho3.out]; exact hq1.out

end Go.Proofs.YtohobhbcjikhpaaDoor
