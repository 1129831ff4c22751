/-
  What the laws of package ecc share: the examples, Around, ranges of arguments.
-/
import Derived.Test.YtbhefdincmfmjaaDoorEProg2
namespace Go.Proofs.YtbhefdincmfmjaaDoor
open Go.RowKit
namespace E
open H
set_option linter.unusedVariables false
set_option maxRecDepth 100000
theorem below_of {w w' : World} (h : ∃ n, w' = w.drewN n) : Below w.heap.size w w' := by
  obtain ⟨n, rfl⟩ := h
  exact below_drewN (Below.refl _ _) n
theorem u32_nat_of {a : Int} (h : (Lit.int .u32 a).wf = true) : ∃ n : Nat, a = n ∧ n < 4294967296 := by
  simp [Lit.wf, IntKind.min, IntKind.max, IntKind.signed, IntKind.bits] at h
  exact ⟨a.toNat, by omega, by omega⟩
theorem u64_nat_of {a : Int} (h : (Lit.int .u64 a).wf = true) : ∃ n : Nat, a = n ∧ n < 18446744073709551616 := by
  have := u64_range h
  exact ⟨a.toNat, by omega, by omega⟩
theorem i64_range {a : Int} (h : (Lit.int .i64 a).wf = true) : -9223372036854775808 ≤ a ∧ a ≤ 9223372036854775807 := by
  simp [Lit.wf, IntKind.min, IntKind.max, IntKind.signed, IntKind.bits] at h
  omega
theorem dec7 : dec 7 = (1, 1) := by decide +kernel
theorem dec3 : dec 3 = (0, 2) := by decide +kernel
theorem dec4 : dec 4 = (0, 1) := by decide +kernel
theorem dec39 : dec 549755813888 = (0, 2) := by decide +kernel
theorem flip39 : flip 0 39 = 549755813888 := by decide +kernel
theorem flip38 : flip 7 38 = 274877906951 := by decide +kernel
theorem flip64 : flip 0 64 = 0 := by decide +kernel
theorem enc1 : enc 1 = 274877906951 := by decide +kernel
theorem dist74 : dist 7 4 = 2 := by decide +kernel
set_option maxHeartbeats 1000000 in
theorem plives_any (w : World) (tb : Tab w) :
    Calls Tryd.prog 16 #[] w fun e w' => e = .returned (.bool true) ∧ ∃ n, w' = w.drewN n := by
  have H7 := Lib.hid (pdec_any 7 (by decide) w tb)
  have H3 := Lib.hid (pdec_any 3 (by decide) w tb)
  have H4 := Lib.hid (pdec_any 4 (by decide) w tb)
  have HD := Lib.hid (pdec_any 549755813888 (by decide) w tb)
  have HF := Lib.hid (pflip_any 0 39 (by decide) w)
  have HE := Lib.hid (penc_any 1 (by decide) w tb)
  have HG := Lib.hid (fun W => pflip_any 7 38 (by decide) W)
  have HH := Lib.hid (fun W => pflip_any 0 64 (by decide) W)
  have HI := Lib.hid (fun W => pdist_any 7 4 (by decide) (by decide) W)
  rw [dec7] at H7
  rw [dec3] at H3
  rw [dec4] at H4
  rw [dec39] at HD
  rw [flip39] at HF
  rw [enc1] at HE
  rw [flip38] at HG
  rw [flip64] at HH
  rw [dist74] at HI
  clear tb
  go_enter Tryd.func16, Tryd.ntmps16
  go_wp2_with fail
  refine H7.out.mono ?_
  rintro r w1 ⟨rfl, rfl⟩
  go_wp2_with fail
  refine H3.out.mono ?_
  rintro r w1 ⟨rfl, rfl⟩
  go_wp2_with fail
  refine H4.out.mono ?_
  rintro r w1 ⟨rfl, rfl⟩
  go_wp2_with fail
  refine HF.out.mono ?_
  rintro r w1 ⟨rfl, rfl⟩
  go_wp2_with fail
  refine HD.out.mono ?_
  rintro r w1 ⟨rfl, rfl⟩
  go_wp2_with fail
  refine HE.out.mono ?_
  rintro r w2 ⟨rfl, hdr⟩
  have HDR := Lib.hid hdr
  clear hdr
  go_wp2_with fail
  refine (HG.out _).mono ?_
  rintro r w3 ⟨rfl, rfl⟩
  go_wp2_with fail
  refine (HG.out _).mono ?_
  rintro r w3 ⟨rfl, rfl⟩
  go_wp2_with fail
  refine (HH.out _).mono ?_
  rintro r w3 ⟨rfl, rfl⟩
  go_wp2_with fail
  refine (HI.out _).mono ?_
  rintro r w3 ⟨rfl, rfl⟩
  go_wp2_with fail
  go_ret
  exact ⟨rfl, HDR.out⟩
end E
end Go.Proofs.YtbhefdincmfmjaaDoor
