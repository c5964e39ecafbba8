import Derived.Test.YtjbkfdeldlajhaaGreatDoorM08
import Derived.Sort.AtCallIn
set_option linter.unusedSimpArgs false
namespace Go.Proofs.YtjbkfdeldlajhaaGreatDoor
open Go.RowKit Go.Shelf
open Option renaming none->Y,some->V
open Go.Value renaming slice->J
open Go.Obj renaming cells->I
open Go renaming World->ab,Value->ax
section
attribute [local go_sem] Oper.semAt_some
def jh(w:ab)(p:Nat):Nat:=match w.cell? ⟨p,0,Y⟩with
 |some (J _ n _)=>n
 |_=>0
def OX(G:List Nat)(A B:ab):Prop:=A.heap.size<=B.heap.size/\∀k∈G,B.heap[k]?=A.heap[k]?
def oT(G:List Nat)(h i:Nat)(a b c:List ByteArray)(wr:ab):Prop:=
 ∃f g d e,wr.heap[h]?=V (I #[f] 25 (0,0))/\wr.heap[i]?=V (I #[g] 25 (0,0))/\pd G wr f d/\pd G wr g e/\jM a b d e c
theorem wQ{G:List Nat}{f g:Nat}{a b m o p:List ByteArray}{h j:ab}{x y c d:ax}(r:f∉G)(s:g∉G)(l:f≠g)(q:∀k∈G,k<h.heap.size)(C:h.heap[f]?=V (I #[x] 25 (0,0)))(v:h.heap[g]?=V (I #[y] 25 (0,0)))(M:pd G h c o)(N:pd G h d p)(t:jM a b o p m)(n:OX (f::g::G) (((h.setCell ⟨f,0,Y⟩ c).setCell ⟨g,0,Y⟩ d).drew) j):(oT G f g a b m j/\∀k∈G,k<j.heap.size)/\j.cell? ⟨f,0,Y⟩=V c/\j.cell? ⟨g,0,Y⟩=V d:=by
 have z:(h.setCell ⟨f,0,Y⟩ c).heap[f]?=V (I #[c] 25 (0,0)):=by rw[ak C];rfl
 have H:(h.setCell ⟨f,0,Y⟩ c).heap[g]?=V (I #[y] 25 (0,0)):=((aa.setCell h ⟨f,0,Y⟩ c).block g (lg v) (λe=>l e.symm)).trans v;have L:((h.setCell ⟨f,0,Y⟩ c).setCell ⟨g,0,Y⟩ d).heap[g]?=V (I #[d] 25 (0,0)):=by rw[ak H];rfl
 have K:((h.setCell ⟨f,0,Y⟩ c).setCell ⟨g,0,Y⟩ d).heap[f]?=V (I #[c] 25 (0,0)):=((aa.setCell _ ⟨g,0,Y⟩ d).block f (lg z) l).trans z;have A:j.heap[f]?=V (I #[c] 25 (0,0)):=(n.2 f (by simp)).trans K;have B:j.heap[g]?=V (I #[d] 25 (0,0)):=(n.2 g (by simp)).trans L;have u:h.heap.size<=j.heap.size:=by have P:=(aa.setCell h ⟨f,0,Y⟩ c).size;have Q:=(aa.setCell (h.setCell ⟨f,0,Y⟩ c) ⟨g,0,Y⟩ d).size;have R:((h.setCell ⟨f,0,Y⟩ c).setCell ⟨g,0,Y⟩ d).heap.size<=j.heap.size:=n.1;omega
 have w:∀k∈G,j.heap[k]?=h.heap[k]?:=λk i=>by have D:k≠f:=λe=>r (e▸i);have F:k≠g:=λe=>s (e▸i);refine(n.2 k (by simp[i])).trans ?_;exact((aa.setCell (h.setCell ⟨f,0,Y⟩ c) ⟨g,0,Y⟩ d).block k (kz (q k i) (aa.setCell h ⟨f,0,Y⟩ c).size) F).trans ((aa.setCell h ⟨f,0,Y⟩ c).block k (q k i) D)
 exact⟨⟨⟨c,d,o,p,A,B,M.ai w,N.ai w,t⟩,λk i=>kz (q k i) u⟩,ae A 0,ae B 0⟩
end
end Go.Proofs.YtjbkfdeldlajhaaGreatDoor
