/- The document's Make is makeP, at any input; by-name template. -/
import Derived.Test.YtokbmahnjmmcaaaNaRnt
import Derived.Test.YtokbmahnjmmcaaaNaRnf
import Derived.Test.YtokbmahnjmmcaaaNaRct
import Derived.Test.YtokbmahnjmmcaaaNaRcf
import Derived.Test.YtokbmahnjmmcaaaNaRdt
import Derived.Test.YtokbmahnjmmcaaaNaRdf
import Derived.Test.YtokbmahnjmmcaaaNaRdu
import Derived.Test.YtokbmahnjmmcaaaNaRe1t
import Derived.Test.YtokbmahnjmmcaaaNaRe1f
import Derived.Test.YtokbmahnjmmcaaaNaRe2t
import Derived.Test.YtokbmahnjmmcaaaNaRe2f
import Derived.Test.YtokbmahnjmmcaaaNaRe3t
import Derived.Test.YtokbmahnjmmcaaaNaRe3f
import Derived.Test.YtokbmahnjmmcaaaNaRft
import Derived.Test.YtokbmahnjmmcaaaNaRff
import Derived.Test.YtokbmahnjmmcaaaNaRfu
namespace Go.Proofs.Ytokbmahnjmmcaaa
open Go.RowKit Go.Lib Go.Maps
set_option linter.unusedVariables false

theorem rmake_any (c : CF) (inn : Int) (k : KR) (A : Option Addr) (n cap : Nat) (tk : List KR) {w : World} (hc : c.Ok w) (hk : KyOk k) (hS : Sl w 7 krc A n tk) :
    Calls Try.prog 14 #[.agg (cfc c), .int .i64 inn, .agg (KA k), .slice A n cap] w (MPost w (makeP c inn k tk)) := by
  cases hi : icmpB k.proto with
  | true =>
    have hpo : portedB k.proto = true := by unfold portedB; rw [hi]; simp
    by_cases hno : ¬ ((routeP c (judK c k).dh (judK c k).dl).1 ≠ -1 ∧ (routeP c (judK c k).dh (judK c k).dl).2 ≠ -1)
    · exact rmake_no_true c inn k A n cap tk hc hk hS hi hno
    · obtain ⟨h1, h2⟩ := Classical.not_not.1 hno
      rcases src_place c (routeP c (judK c k).dh (judK c k).dl).2 (judK c k) with hs | ⟨i, nn, hs, hnn⟩
      · by_cases hd : (dstP c k).2.2.2 = -1
        · exact rmake_e1t c inn k A n cap tk hc hk hS hi h1 h2 hs hd
        · have hd0 : 0 ≤ (dstP c k).2.2.2 := by have := dst_ge c k; omega
          by_cases hz : (routeP c (judK c k).dh (judK c k).dl).2 = inn
          · obtain ⟨j, z, hj, hzz⟩ := (route_zone c (judK c k).dh (judK c k).dl).resolve_left h2
            cases h4 : (is4I z.ah z.al == is4I k.sh k.sl) with
            | true => exact rmake_ft c inn k A n cap tk hc hk hS hi h1 h2 hs hd0 j z (hz.symm.trans hj) hj hzz h4
            | false => exact rmake_e3t c inn k A n cap tk hc hk hS hi h1 h2 hs hd0 j z (hz.symm.trans hj) hj hzz h4
          · exact rmake_e2t c inn k A n cap tk hc hk hS hi h1 h2 hs hd0 hz
      · by_cases hkd : nn.kind = 1
        · exact rmake_dt c inn k A n cap tk hc hk hS hi h1 h2 i nn hs hnn hkd
        · exact rmake_ct c inn k A n cap tk hc hk hS hi h1 h2 i nn hs hnn hkd
  | false =>
    by_cases hno : ¬ ((routeP c (judK c k).dh (judK c k).dl).1 ≠ -1 ∧ (routeP c (judK c k).dh (judK c k).dl).2 ≠ -1)
    · exact rmake_no_false c inn k A n cap tk hc hk hS hi hno
    · obtain ⟨h1, h2⟩ := Classical.not_not.1 hno
      rcases src_place c (routeP c (judK c k).dh (judK c k).dl).2 (judK c k) with hs | ⟨i, nn, hs, hnn⟩
      · by_cases hd : (dstP c k).2.2.2 = -1
        · exact rmake_e1f c inn k A n cap tk hc hk hS hi h1 h2 hs hd
        · have hd0 : 0 ≤ (dstP c k).2.2.2 := by have := dst_ge c k; omega
          by_cases hz : (routeP c (judK c k).dh (judK c k).dl).2 = inn
          · obtain ⟨j, z, hj, hzz⟩ := (route_zone c (judK c k).dh (judK c k).dl).resolve_left h2
            cases h4 : (is4I z.ah z.al == is4I k.sh k.sl) with
            | true =>
              cases hpo : portedB k.proto with
              | true => exact rmake_ff c inn k A n cap tk hc hk hS hi h1 h2 hs hd0 j z (hz.symm.trans hj) hj hzz h4 hpo
              | false => exact rmake_fu c inn k A n cap tk hc hk hS hi h1 h2 hs hd0 j z (hz.symm.trans hj) hj hzz h4 hpo
            | false => exact rmake_e3f c inn k A n cap tk hc hk hS hi h1 h2 hs hd0 j z (hz.symm.trans hj) hj hzz h4
          · exact rmake_e2f c inn k A n cap tk hc hk hS hi h1 h2 hs hd0 hz
      · by_cases hkd : nn.kind = 1
        · cases hpo : portedB k.proto with
          | true => exact rmake_df c inn k A n cap tk hc hk hS hi h1 h2 i nn hs hnn hkd hpo
          | false => exact rmake_du c inn k A n cap tk hc hk hS hi h1 h2 i nn hs hnn hkd hpo
        · exact rmake_cf c inn k A n cap tk hc hk hS hi h1 h2 i nn hs hnn hkd
end Go.Proofs.Ytokbmahnjmmcaaa
