/- The document's Next: whether a segment belongs; by-name template (gen_wi2.py). -/
import Derived.Test.YtdgodndaaenafabWiRbS
import Derived.Test.YtdgodndaaenafabWiRbF
import Derived.Test.YtdgodndaaenafabWiRbY
import Derived.Test.YtdgodndaaenafabWiRbZ
import Derived.Test.YtdgodndaaenafabWiRbff
import Derived.Test.YtdgodndaaenafabWiRbft
import Derived.Test.YtdgodndaaenafabWiRbtf
import Derived.Test.YtdgodndaaenafabWiRbtt
namespace Go.Proofs.Ytdgodndaaenafab
open Go.RowKit Go.Lib Go.Sort
set_option linter.unusedVariables false
set_option linter.unusedSimpArgs false

theorem rnext_b (c : CN) (t : TR) (w : World) : Calls Try.prog 12 #[.agg (CA c), .bool true, .agg (TA t)] w (ROK w (nextP c true t).2) := by
  rcases hs1 : decide (c.st < 1) with _ | _
  · rcases hs5 : decide (4 < c.st) with _ | _
    · rcases h16 : hb t 16 with _ | _
      · rcases h2 : hb t 2 with _ | _
        · rcases h4 : hb t 4 with _ | _
          · have hst : strayP t c.a = true := by unfold strayP; rw [h16, hb6, h2, h4]; rfl
            rcases hys : c.a.seen with _ | _
            · exact rn_sfalse_b c t w hs1 hs5 h16 hys trivial hst h2 h4 trivial trivial trivial
            · exact rn_strue_b c t w hs1 hs5 h16 hys trivial hst h2 h4 trivial trivial trivial
          · have hst : strayP t c.a = false := by unfold strayP; rw [h16, hb6, h2, h4]; rfl
            rcases hys : c.a.seen with _ | _
            · rcases hxs : c.b.seen with _ | _
              · exact rn_refff_b c t w hs1 hs5 h16 hys trivial hst h2 h4 hxs trivial trivial
              · rcases hl1 : lessP c.b.m (endP t) with _ | _
                · rcases hl2 : lessP t.sq (IntKind.u32.wrap (c.b.e - 65536)) with _ | _
                  · exact rn_inff_b c t w hs1 hs5 h16 hys trivial hst h2 h4 hxs hl1 hl2
                  · exact rn_fbff_b c t w hs1 hs5 h16 hys trivial hst h2 h4 hxs hl1 hl2
                · exact rn_faff_b c t w hs1 hs5 h16 hys trivial hst h2 h4 hxs hl1 trivial
            · rcases hxs : c.b.seen with _ | _
              · exact rn_refft_b c t w hs1 hs5 h16 hys trivial hst h2 h4 hxs trivial trivial
              · rcases hl1 : lessP c.b.m (endP t) with _ | _
                · rcases hl2 : lessP t.sq (IntKind.u32.wrap (c.b.e - 65536)) with _ | _
                  · exact rn_inft_b c t w hs1 hs5 h16 hys trivial hst h2 h4 hxs hl1 hl2
                  · exact rn_fbft_b c t w hs1 hs5 h16 hys trivial hst h2 h4 hxs hl1 hl2
                · exact rn_faft_b c t w hs1 hs5 h16 hys trivial hst h2 h4 hxs hl1 trivial
        · have hst : strayP t c.a = false := by unfold strayP; rw [h16, hb6, h2]; rfl
          rcases hys : c.a.seen with _ | _
          · exact rn_synff_b c t w hs1 hs5 h16 hys trivial hst h2 trivial trivial trivial trivial
          · exact rn_synft_b c t w hs1 hs5 h16 hys trivial hst h2 trivial trivial trivial trivial
      · rcases hys : c.a.seen with _ | _
        · have hst : strayP t c.a = false := by unfold strayP; rw [h16, hys]; rfl
          rcases h2 : hb t 2 with _ | _
          · rcases hxs : c.b.seen with _ | _
            · exact rn_reftf_b c t w hs1 hs5 h16 hys trivial hst h2 trivial hxs trivial trivial
            · rcases hl1 : lessP c.b.m (endP t) with _ | _
              · rcases hl2 : lessP t.sq (IntKind.u32.wrap (c.b.e - 65536)) with _ | _
                · exact rn_intf_b c t w hs1 hs5 h16 hys trivial hst h2 trivial hxs hl1 hl2
                · exact rn_fbtf_b c t w hs1 hs5 h16 hys trivial hst h2 trivial hxs hl1 hl2
              · exact rn_fatf_b c t w hs1 hs5 h16 hys trivial hst h2 trivial hxs hl1 trivial
          · exact rn_syntf_b c t w hs1 hs5 h16 hys trivial hst h2 trivial trivial trivial trivial
        · rcases hl : lessP c.a.e t.ak with _ | _
          · have hst : strayP t c.a = false := by unfold strayP; rw [h16, hys, hl]; rfl
            rcases h2 : hb t 2 with _ | _
            · rcases hxs : c.b.seen with _ | _
              · exact rn_reftt_b c t w hs1 hs5 h16 hys hl hst h2 trivial hxs trivial trivial
              · rcases hl1 : lessP c.b.m (endP t) with _ | _
                · rcases hl2 : lessP t.sq (IntKind.u32.wrap (c.b.e - 65536)) with _ | _
                  · exact rn_intt_b c t w hs1 hs5 h16 hys hl hst h2 trivial hxs hl1 hl2
                  · exact rn_fbtt_b c t w hs1 hs5 h16 hys hl hst h2 trivial hxs hl1 hl2
                · exact rn_fatt_b c t w hs1 hs5 h16 hys hl hst h2 trivial hxs hl1 trivial
            · exact rn_syntt_b c t w hs1 hs5 h16 hys hl hst h2 trivial trivial trivial trivial
          · have hst : strayP t c.a = true := by unfold strayP; rw [h16, hys, hl]; rfl
            exact rn_sl_b c t w hs1 hs5 h16 hys hl hst trivial trivial trivial trivial trivial
    · exact rn_gt_b c t w hs1 hs5 trivial trivial trivial trivial trivial trivial trivial trivial trivial
  · exact rn_lt_b c t w hs1 trivial trivial trivial trivial trivial trivial trivial trivial trivial trivial
end Go.Proofs.Ytdgodndaaenafab
