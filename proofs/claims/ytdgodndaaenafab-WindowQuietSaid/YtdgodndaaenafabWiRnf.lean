/- The document's Next: whether a segment belongs; by-name template (gen_wi2.py). -/
import Derived.Test.YtdgodndaaenafabWiRfS
import Derived.Test.YtdgodndaaenafabWiRfF
import Derived.Test.YtdgodndaaenafabWiRfY
import Derived.Test.YtdgodndaaenafabWiRfZ
import Derived.Test.YtdgodndaaenafabWiRfff
import Derived.Test.YtdgodndaaenafabWiRfft
import Derived.Test.YtdgodndaaenafabWiRftf
import Derived.Test.YtdgodndaaenafabWiRftt
namespace Go.Proofs.Ytdgodndaaenafab
open Go.RowKit Go.Lib Go.Sort
set_option linter.unusedVariables false
set_option linter.unusedSimpArgs false

theorem rnext_f (c : CN) (t : TR) (w : World) : Calls Try.prog 12 #[.agg (CA c), .bool false, .agg (TA t)] w (ROK w (nextP c false t).2) := by
  rcases hs1 : decide (c.st < 1) with _ | _
  · rcases hs5 : decide (4 < c.st) with _ | _
    · rcases h16 : hb t 16 with _ | _
      · rcases h2 : hb t 2 with _ | _
        · rcases h4 : hb t 4 with _ | _
          · have hst : strayP t c.b = true := by unfold strayP; rw [h16, hb6, h2, h4]; rfl
            rcases hys : c.b.seen with _ | _
            · exact rn_sfalse_f c t w hs1 hs5 h16 hys trivial hst h2 h4 trivial trivial trivial
            · exact rn_strue_f c t w hs1 hs5 h16 hys trivial hst h2 h4 trivial trivial trivial
          · have hst : strayP t c.b = false := by unfold strayP; rw [h16, hb6, h2, h4]; rfl
            rcases hys : c.b.seen with _ | _
            · rcases hxs : c.a.seen with _ | _
              · exact rn_refff_f c t w hs1 hs5 h16 hys trivial hst h2 h4 hxs trivial trivial
              · rcases hl1 : lessP c.a.m (endP t) with _ | _
                · rcases hl2 : lessP t.sq (IntKind.u32.wrap (c.a.e - 65536)) with _ | _
                  · exact rn_inff_f c t w hs1 hs5 h16 hys trivial hst h2 h4 hxs hl1 hl2
                  · exact rn_fbff_f c t w hs1 hs5 h16 hys trivial hst h2 h4 hxs hl1 hl2
                · exact rn_faff_f c t w hs1 hs5 h16 hys trivial hst h2 h4 hxs hl1 trivial
            · rcases hxs : c.a.seen with _ | _
              · exact rn_refft_f c t w hs1 hs5 h16 hys trivial hst h2 h4 hxs trivial trivial
              · rcases hl1 : lessP c.a.m (endP t) with _ | _
                · rcases hl2 : lessP t.sq (IntKind.u32.wrap (c.a.e - 65536)) with _ | _
                  · exact rn_inft_f c t w hs1 hs5 h16 hys trivial hst h2 h4 hxs hl1 hl2
                  · exact rn_fbft_f c t w hs1 hs5 h16 hys trivial hst h2 h4 hxs hl1 hl2
                · exact rn_faft_f c t w hs1 hs5 h16 hys trivial hst h2 h4 hxs hl1 trivial
        · have hst : strayP t c.b = false := by unfold strayP; rw [h16, hb6, h2]; rfl
          rcases hys : c.b.seen with _ | _
          · exact rn_synff_f c t w hs1 hs5 h16 hys trivial hst h2 trivial trivial trivial trivial
          · exact rn_synft_f c t w hs1 hs5 h16 hys trivial hst h2 trivial trivial trivial trivial
      · rcases hys : c.b.seen with _ | _
        · have hst : strayP t c.b = false := by unfold strayP; rw [h16, hys]; rfl
          rcases h2 : hb t 2 with _ | _
          · rcases hxs : c.a.seen with _ | _
            · exact rn_reftf_f c t w hs1 hs5 h16 hys trivial hst h2 trivial hxs trivial trivial
            · rcases hl1 : lessP c.a.m (endP t) with _ | _
              · rcases hl2 : lessP t.sq (IntKind.u32.wrap (c.a.e - 65536)) with _ | _
                · exact rn_intf_f c t w hs1 hs5 h16 hys trivial hst h2 trivial hxs hl1 hl2
                · exact rn_fbtf_f c t w hs1 hs5 h16 hys trivial hst h2 trivial hxs hl1 hl2
              · exact rn_fatf_f c t w hs1 hs5 h16 hys trivial hst h2 trivial hxs hl1 trivial
          · exact rn_syntf_f c t w hs1 hs5 h16 hys trivial hst h2 trivial trivial trivial trivial
        · rcases hl : lessP c.b.e t.ak with _ | _
          · have hst : strayP t c.b = false := by unfold strayP; rw [h16, hys, hl]; rfl
            rcases h2 : hb t 2 with _ | _
            · rcases hxs : c.a.seen with _ | _
              · exact rn_reftt_f c t w hs1 hs5 h16 hys hl hst h2 trivial hxs trivial trivial
              · rcases hl1 : lessP c.a.m (endP t) with _ | _
                · rcases hl2 : lessP t.sq (IntKind.u32.wrap (c.a.e - 65536)) with _ | _
                  · exact rn_intt_f c t w hs1 hs5 h16 hys hl hst h2 trivial hxs hl1 hl2
                  · exact rn_fbtt_f c t w hs1 hs5 h16 hys hl hst h2 trivial hxs hl1 hl2
                · exact rn_fatt_f c t w hs1 hs5 h16 hys hl hst h2 trivial hxs hl1 trivial
            · exact rn_syntt_f c t w hs1 hs5 h16 hys hl hst h2 trivial trivial trivial trivial
          · have hst : strayP t c.b = true := by unfold strayP; rw [h16, hys, hl]; rfl
            exact rn_sl_f c t w hs1 hs5 h16 hys hl hst trivial trivial trivial trivial trivial
    · exact rn_gt_f c t w hs1 hs5 trivial trivial trivial trivial trivial trivial trivial trivial trivial
  · exact rn_lt_f c t w hs1 trivial trivial trivial trivial trivial trivial trivial trivial trivial trivial
end Go.Proofs.Ytdgodndaaenafab
