import Derived.Test.YtcnbhpghcjcejaaDoorFace
/- The hash of "abc", by the kernel's own reckoning. -/
namespace Go.Proofs.YtcnbhpghcjcejaaDoor
def blkAbc : List UInt8 := [97, 98, 99, 128] ++ List.replicate 119 0 ++ [0, 0, 0, 0, 24]
def stAbc : S8 := ⟨15974045371385084602#64, 14718171817514647857#64, 1362051152550133410#64, 765311659573367706#64, 2419164356178592168#64, 3943530547489205181#64, 4993722480620005390#64, 3069987439919277215#64⟩
theorem abc_st : iv.add (rnds (sch blkAbc 64) iv 80) = stAbc := by kernel_rfl
def abcBytes : List UInt8 := [221, 175, 53, 161, 147, 97, 122, 186, 204, 65, 115, 73, 174, 32, 65, 49, 18, 230, 250, 78, 137, 169, 126, 162, 10, 158, 238, 230, 75, 85, 211, 154, 33, 146, 153, 42, 39, 79, 193, 168, 54, 186, 60, 35, 163, 254, 235, 189, 69, 77, 68, 35, 100, 60, 232, 14, 42, 154, 201, 79, 165, 76, 164, 159]
theorem abc_bytes : stAbc.words.flatMap be8 = abcBytes := by kernel_rfl
def JAbc : HS := ⟨iv, [97, 98, 99] ++ List.replicate 125 0, 3⟩
theorem abc_puts : H0.puts [97, 98, 99] = JAbc := by
  rw [← HS.chunk_puts [97, 98, 99] H0 (by simp) H0_len (by decide)]
  unfold HS.chunk HS.done
  rw [if_neg (by decide)]
  have e : splice H0.blk H0.filled [97, 98, 99] = [97, 98, 99] ++ List.replicate 125 0 := by decide
  rw [e]; rfl
theorem abc_roomed : JAbc.roomed = JAbc.marked := by unfold HS.roomed; rw [if_neg (by decide)]
theorem abc_blk : layB (layB JAbc.marked.blk 112 JAbc.hi3 8) 120 JAbc.lo3 8 = blkAbc := by decide +kernel
theorem mix_st (H : HS) : H.mix.st = H.st.add (rnds (sch H.blk 64) H.st 80) := by
  cases H
  unfold HS.mix mixS
  rw [sch64_eq, rnd80_eq]
theorem abc_ended : JAbc.ended.st = stAbc := by
  unfold HS.ended
  rw [mix_st, abc_roomed, abc_blk]
  exact abc_st
theorem hash_abc : hashOf [97, 98, 99] = abcBytes := by
  unfold hashOf HS.sum
  rw [abc_puts, abc_ended, abc_bytes]
end Go.Proofs.YtcnbhpghcjcejaaDoor
