import Derived.Test.YtkhnnhbmchnajaaGreatK30
import Derived.Test.YtkhnnhbmchnajaaGreatK02
import Derived.Test.YtkhnnhbmchnajaaGreatK26
import Derived.Test.YtkhnnhbmchnajaaGreatK08
import Derived.BigQuiet
import Derived.Test.YtkhnnhbmchnajaaGreatK28
import Derived.Test.YtkhnnhbmchnajaaGreatK23
import Derived.Test.YtkhnnhbmchnajaaGreatK12
set_option maxRecDepth 100000
set_option maxHeartbeats 40000000
set_option linter.unusedVariables false
set_option linter.unusedSimpArgs false
namespace Go.Proofs.YtkhnnhbmchnajaaGreat
section
open Go.Shelf Go.RowKit
theorem pairR_len{bs x y:Bs}(h:pairR bs=some (x,y)):x.length≤512∧y.length≤512:=by
 unfold pairR at h
 cases hp:pieceR bs 48 with
 | none=>rw[hp]at h;cases h
 | some q =>
  obtain⟨b,r⟩:=q;rw[hp]at h;simp only[]at h;by_cases h0:0<r.length
  ·rw[if_pos h0]at h;cases h
  rw[if_neg h0]at h;unfold twoR at h
  cases hw:wholeR b with
  | none=>rw[hw]at h;cases h
  | some q =>
   obtain⟨x',r1⟩:=q;rw[hw]at h;simp only[]at h;by_cases h5:512<x'.length
   ·rw[if_pos h5]at h;cases h
   rw[if_neg h5]at h
   cases hw2:wholeR r1 with
   | none=>rw[hw2]at h;cases h
   | some q =>
    obtain⟨y',r2⟩:=q;rw[hw2]at h;simp only[]at h;by_cases h6:512<y'.length∨0<r2.length
    ·rw[if_pos h6]at h;cases h
    rw[if_neg h6]at h
    cases h
    omega
theorem rPair_fit{w w':World}{bs:Bs}{e:Ending}(h:PrPost w (pairR bs) e w'):Below w.heap.size w w'∧∃a1 l1 k1 a2 l2 k2 b,e=.returned (.tuple #[.slice a1 l1 k1,.slice a2 l2 k2,.bool b])∧((pairR bs=none∧b=false)∨∃x y,pairR bs=some (x,y)∧b=true∧Rv w' (.slice a1 l1 k1) (nI x) 256∧Rv w' (.slice a2 l2 k2) (nI y) 256):=by
 obtain⟨hb,a1,l1,k1,a2,l2,k2,b,he,h⟩:=h;refine⟨hb,a1,l1,k1,a2,l2,k2,b,he,?_⟩;rcases h with h|⟨x,y,h1,h2,h3,h4⟩
 ·exact .inl h
 ·have hl:=pairR_len h1;exact .inr ⟨x,y,h1,h2,h3.fit (nI_lt x 256 (by omega)),h4.fit (nI_lt y 256 (by omega))⟩
end
end Go.Proofs.YtkhnnhbmchnajaaGreat
