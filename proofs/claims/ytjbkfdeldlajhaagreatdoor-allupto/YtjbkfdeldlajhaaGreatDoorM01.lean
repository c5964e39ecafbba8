import Derived.Test.YtjbkfdeldlajhaaGreatDoorM00
import Derived.Defers
import Derived.Recover
import Derived.RangeFuncNested
import Derived.RangeFuncBound
import Derived.RangeFuncCalls
import Derived.RangeFuncLeaves
import Derived.Shelf.Abstract
import Derived.Shelf.RegionOpen
import Derived.OwnWalkIn
import Derived.TacticsInMore
import Derived.LoopNIn
import Derived.LoopIn
import Derived.Deep.RegionWith
import Derived.Deep.QuietTactic
import Derived.BigQuiet
set_option linter.unusedSimpArgs false
namespace Go.Proofs.YtjbkfdeldlajhaaGreatDoor
set_option maxRecDepth 100000
set_option maxHeartbeats 800000
open Go.RowKit Go.Proofs.Tryz Go.Shelf
open Option renaming none->Y,some->V
open Go.Value renaming int->Z,slice->J,pointer->X,tuple->bt,string->O,bool->ao
open Go.IntKind renaming i64->U
open Go.Obj renaming cells->I
open Go renaming World->ab,Value->ax,Calls->ba,TypeId->cI
open Go.Ending renaming returned->ay
variable{w d:ab}{C:List Nat}{a b i:Nat}{S:Nat->Prop}{v x:ax}{t:cI}{c j:List ax}
theorem Tryz.Pu:(prog.info? 1).map (λi=>(i.zero,i.size,i.bytes))=V (V .nilFunc,1,8):=by kernel_rfl
def iP(w:ab)(a:Nat)(b:List ax)(C:List Nat):Prop:=
 ∃v,w.heap[a]?=V (I #[v] 114 (0,0))/\Row w 1 1 v b.length b/\v.ownBlock≠V a/\C=a::v.ownBlock.toList
theorem iP.ai{i:ab}(h:iP w a c C)(f:aa S w i)(d:∀k,k∈C->¬S k):iP i a c C:=by obtain⟨v,e,l,b,rfl⟩:=h;refine⟨v,?_,l.ai f (λg j=>d g (by simp[j])),b,rfl⟩;rw[f.block a (lg e) (d a (by simp))];exact e
theorem iP.lt(h:iP w b c C):∀k∈C,k<w.heap.size:=by
 obtain⟨v,d,f,e,rfl⟩:=h;intro k a;rcases cT.1 a with rfl|a
 ·exact (lg d)
 ·exact f.lt (by simpa using a)
theorem DM{b:ab}{o:Obj}(c:a<w.heap.size)(h:QS (w.heap[a]?=V (I #[v] 114 (0,0))))(d:QS (v.ownBlock≠V a))(g:(w.alloc o).grownBy b v.ownBlock):b.cell? ⟨a,0,Y⟩=V v/\b.frozen? ⟨a,0,Y⟩=false/\w.heap.size+1<=b.heap.size:=by
 have f:b.heap[a]?=V (I #[v] 114 (0,0)):=by rw[g.block a (by simp;omega) (λe=>d.o e.symm),Below.heap_alloc _ _ _ c];exact h.o
 exact⟨by simp[World.cell?,f],by simp[World.frozen?,f],by simpa using g.size⟩
theorem dz(b:Nat)(i:List ax)(C:List Nat)(s:Fn)(f:Array ax)(w:ab)(h:iP w b i C)(H:i.length<1000000000000):ba prog 92 #[X (V ⟨b,0,Y⟩),.func s #[] f] w λe K=>e=ay (bt #[])/\∃A,iP K b (i++[.func s #[] f]) A/\aa (·∈C) w K/\∀k∈A,k∈C\/w.heap.size<=k:=by
 obtain⟨v,n,Q,p,rfl⟩:=h;have S:w.cell? ⟨b,0,Y⟩=V v:=by simp[World.cell?,n]
 have N:w.frozen? ⟨b,0,Y⟩=false:=by simp[World.frozen?,n]
 have o:b<w.heap.size:=(lg n);obtain⟨R,P,x,q,y⟩:=info_parts Tryz.Pu;have B:QS (w.heap[b]?=V (I #[v] 114 (0,0))):=n;have r:QS (v.ownBlock≠V b):=p;have D:QS (i.length<1000000000000):=H;clear n p H;go_enter func92,ntmps92;go_wp2_with(first|(at_builtin;go_must(refine aL _ rfl _ _ 112 rfl 1 R .nilFunc 1 8 Tryz.underlying112 P x q y rfl v i.length i rfl (Q.ai (aa.alloc n_ _ _) k_) ⟨w.heap.size,0,Y⟩ 1 1 [.func s #[] f] rfl rfl (cell_one_new _ _ _) (by simp[Value.oneCell']) (by have:=D.o;unfold maxLen;omega) (by have:=D.o;omega) ?_;intro T z c a _ m;obtain⟨F,l,rfl⟩:=c.succ;obtain⟨L,M,q⟩:=DM o B r a))|fail)
 go_end0;have u:aa (·∈b::v.ownBlock.toList) w z:=(aa.alloc _ w _).trans (aa.grown a) (λk _ j=>by simp[j.symm]);have t:z.heap[b]?=V (I #[v] 114 (0,0)):=by rw[a.block b (by simp;omega) (λe=>r.o e.symm),Below.heap_alloc _ _ _ o];exact B.o
 have d:F≠b:=by
  rintro rfl;rcases m with h|h
  ·exact r.o h.symm
  ·simp[Value.ownBlock]at h;omega
 refine⟨rfl,_,⟨_,ak t _,?_,?_,rfl⟩,u.trans (aa.setCell _ _ _) (λk _ j=>by simp at j;simp[j]),?_⟩
 ·have:=c.ai (aa.setCell z ⟨b,0,Y⟩ (J (V ⟨F,0,Y⟩) (i.length+1) l)) (λg G=>by simp[Value.ownBlock]at G;subst G;exact d);simpa using this
 ·simpa[Value.ownBlock]using d
 ·intro k j;simp[Value.ownBlock]at j;rcases j with rfl|rfl
  ·simp
  ·rcases m with h|h
   ·left;rw[<-h];simp[Value.ownBlock]
   ·right;simp[Value.ownBlock]at h;omega
theorem kL{u:ax}{m:cI}(h:iP w i j C)(e:aa (·∈C) ((w.alloc (I #[v] t)).alloc (I #[x] m)) d)(f:w.cell? ⟨a,b,Y⟩=V u)(l:w.frozen? ⟨a,b,Y⟩=false)(g:a∉C):d.cell? ⟨a,b,Y⟩=V u/\d.frozen? ⟨a,b,Y⟩=false/\d.cell? ⟨w.heap.size,0,Y⟩=V v:=by
 have c:a<w.heap.size:=World.block_lt_of_cell? _ _ f;refine⟨e.cell (p:=⟨a,b,Y⟩) (by rw[World.cell?_alloc_past _ _ _ (by simp;omega),World.cell?_alloc_past _ _ _ c];exact f) g,?_,?_⟩
 ·rw[e.frozen (p:=⟨a,b,Y⟩) (by simp;omega) g,World.frozen?_alloc_past _ _ _ (by simp;omega),World.frozen?_alloc_past _ _ _ c];exact l
 ·refine e.cell (p:=⟨w.heap.size,0,Y⟩) (by rw[World.cell?_alloc_past _ _ _ (by simp),World.cell?_alloc_at _ _ _ _ rfl];rfl) (λk=>?_);have:=h.lt _ k;simp at this
theorem nK{b:ab}{i:cI}(c:aa (·∈C) ((w.alloc (I #[v] t)).alloc (I #[x] i)) b)(d:a<w.heap.size)(g:a∉C)(u:ax)(e:Nat):aa (λk=>k∈C\/k=a) w (b.setCell ⟨a,e,Y⟩ u)/\(b.setCell ⟨a,e,Y⟩ u).heap[a]?=(w.setCell ⟨a,e,Y⟩ u).heap[a]?:=by have f:aa (·∈C) w b:=((aa.alloc _ w _).trans (aa.alloc n_ _ _) (λ_ _ h=>h.elim)).trans c k_;refine⟨(f.mono (λ_ _ h=>.inl h)).trans (aa.setCell _ _ _) (λk _ c=>.inr c),?_⟩;simp only[World.setCell,SS,f.block a d g]
theorem iU(m:Nat)(g:List ax)(C:List Nat)(a l:Nat)(u d:Int)(w:ab)(h:iP w m g C)(z:w.cell? ⟨a,l,Y⟩=V (Z U u))(q:w.frozen? ⟨a,l,Y⟩=false)(B:a∉C)(A:g.length<1000000000000):ba prog 60 #[X (V ⟨m,0,Y⟩),X (V ⟨a,l,Y⟩),Z U d] w λe v=>e=ay (bt #[])/\∃i x,i.length=g.length+1/\iP v m i x/\aa (λk=>k∈C\/k=a) w v/\(∀k∈x,k∈C\/w.heap.size<=k)/\v.heap[a]?=(w.setCell ⟨a,l,Y⟩ (Z U d)).heap[a]?:=by
 have t:a<w.heap.size:=World.block_lt_of_cell? _ _ z;have F:QS (g.length<1000000000000):=A;have n:QS (a∉C):=B;clear A B;have M:=mf_;go_enter func60,ntmps60;go_wp2_with(go_at_call 92;go_must(refine(dz m g C _ _ _ (h.ai ((aa.alloc n_ w _).trans (aa.alloc n_ _ _) k_) k_) (by have:=F.o;omega)).mono ?_;rintro e N ⟨rfl,D,o,j,b⟩;obtain⟨K,L,H⟩:=kL h j z q n.o))
 go_end0;obtain⟨s,p⟩:=nK j t n.o (Z U d) l;refine⟨rfl,_,D,?_,o.ai (aa.setCell _ _ _) (λk r e=>?_),s,λk r=>?_,p⟩
 ·simp
 ·have G:k=a:=e;subst G;rcases b k r with c|c
  ·exact n.o c
  ·simp at c;omega
 ·rcases b k r with c|c
  ·exact .inl c
  ·simp at c;right;omega
theorem Eo(m:Nat)(g:List ax)(C:List Nat)(a l:Nat)(u d:Option Nat)(w:ab)(h:iP w m g C)(z:w.cell? ⟨a,l,Y⟩=V (.map u))(q:w.frozen? ⟨a,l,Y⟩=false)(B:a∉C)(A:g.length<1000000000000):ba prog 59 #[X (V ⟨m,0,Y⟩),X (V ⟨a,l,Y⟩),.map d] w λe v=>e=ay (bt #[])/\∃i x,i.length=g.length+1/\iP v m i x/\aa (λk=>k∈C\/k=a) w v/\(∀k∈x,k∈C\/w.heap.size<=k)/\v.heap[a]?=(w.setCell ⟨a,l,Y⟩ (.map d)).heap[a]?:=by
 have t:a<w.heap.size:=World.block_lt_of_cell? _ _ z;have F:QS (g.length<1000000000000):=A;have n:QS (a∉C):=B;clear A B;have M:=mf_;go_enter func59,ntmps59;go_wp2_with(go_at_call 92;go_must(refine(dz m g C _ _ _ (h.ai ((aa.alloc n_ w _).trans (aa.alloc n_ _ _) k_) k_) (by have:=F.o;omega)).mono ?_;rintro e N ⟨rfl,D,o,j,b⟩;obtain⟨K,L,H⟩:=kL h j z q n.o))
 go_end0;obtain⟨s,p⟩:=nK j t n.o (.map d) l;refine⟨rfl,_,D,?_,o.ai (aa.setCell _ _ _) (λk r e=>?_),s,λk r=>?_,p⟩
 ·simp
 ·have G:k=a:=e;subst G;rcases b k r with c|c
  ·exact n.o c
  ·simp at c;omega
 ·rcases b k r with c|c
  ·exact .inl c
  ·simp at c;right;omega
theorem Tryz.DX(w:ab):(zeroValue 123).run prog w=.ok (X Y) w:=by kernel_rfl
theorem Tryz.gu(w:ab):(zeroValue 144).run prog w=.ok (.agg #[Z U 0,O ByteArray.empty,ao false]) w:=by kernel_rfl
theorem sy(b:Nat)(k:Int)(l:List (Int×ax))(q:Option Addr)(w:ab)(h:aQ (Z U) w b l)(d:(aD l k).getD (X Y)=X q):ba prog 124 #[.map (V b),Z U k] w λe i=>(∃a,e=ay (.func (.func 166) #[] a))/\aa n_ w i:=by
 have g:=mf_;have f:QS ((aD l k).getD (X Y)=X q):=d;clear d;go_enter func124,ntmps124;go_wp2_with(at_lookup;go_must(refine bC _ rfl _ _ 54 rfl 3 123 cY Tryz.underlying54 Tryz.underlying3 _ (Tryz.DX _) b rfl k rfl l ((h.ai (aa.alloc n_ _ _) id).ai (aa.alloc n_ _ _) id) ?_;rw[f.o]))
 go_ret;exact⟨⟨_,rfl⟩,((((aa.refl _ w).al _).al _).al _).al _⟩
theorem uO(b:Nat)(k:ByteArray)(l:List (ByteArray×ax))(f:Int)(g:ByteArray)(i:Bool)(w:ab)(h:aQ O w b l)(d:(aD l k).getD (.agg #[Z U 0,O ByteArray.empty,ao false])=.agg #[Z U f,O g,ao i]):ba prog 174 #[.map (V b),O k] w λe n=>(∃a,e=ay (.func (.func 205) #[] a))/\aa n_ w n:=by
 have m:=mf_;have j:QS ((aD l k).getD (.agg #[Z U 0,O ByteArray.empty,ao false])=.agg #[Z U f,O g,ao i]):=d;clear d;go_enter func174,ntmps174;go_wp2_with(at_lookup;go_must(refine bC _ rfl _ _ 124 rfl 9 144 bJ Tryz.underlying124 Tryz.underlying9 _ (Tryz.gu _) b rfl k rfl l ((h.ai (aa.alloc n_ _ _) id).ai (aa.alloc n_ _ _) id) ?_;rw[j.o]))
 go_ret;exact⟨⟨_,rfl⟩,((((aa.refl _ w).al _).al _).al _).al _⟩
theorem Jd{k f:ab}{l:Nat}{m:List ax}{c d e:ax}(h:iP w l m C)(a:aa n_ (w.alloc (I #[c,d,e] t)) k)(b:aa (·∈C) k f):f.cell? ⟨w.heap.size,0,Y⟩=V c/\f.cell? ⟨w.heap.size,1,Y⟩=V d/\f.cell? ⟨w.heap.size,2,Y⟩=V e:=by
 have i:w.heap.size∉C:=λn=>by have:=h.lt _ n;simp at this
 have g:∀j,j<3->(w.alloc (I #[c,d,e] t)).cell? ⟨w.heap.size,j,Y⟩=#[c,d,e][j]?:=λj _=>World.cell?_alloc_at _ _ _ _ rfl;exact⟨b.cell (p:=⟨w.heap.size,0,Y⟩) (a.cell (p:=⟨w.heap.size,0,Y⟩) (g 0 (by omega)) id) i,b.cell (p:=⟨w.heap.size,1,Y⟩) (a.cell (p:=⟨w.heap.size,1,Y⟩) (g 1 (by omega)) id) i,
  b.cell (p:=⟨w.heap.size,2,Y⟩) (a.cell (p:=⟨w.heap.size,2,Y⟩) (g 2 (by omega)) id) i⟩
theorem wk(m:Nat)(d:List ax)(C:List Nat)(b:Nat)(k:Int)(l:List (Int×ax))(q v:Option Addr)(w:ab)(H:iP w m d C)(h:aQ (Z U) w b l)(z:(aD l k).getD (X Y)=X q)(x:b∉C)(y:d.length<1000000000000):ba prog 61 #[X (V ⟨m,0,Y⟩),.map (V b),Z U k,X v] w λe s=>e=ay (bt #[])/\∃f t,f.length=d.length+1/\iP s m f t/\aa (λk=>k∈C\/k=b) w s/\(∀k∈t,k∈C\/w.heap.size<=k)/\aQ (Z U) s b (put l k (X v)):=by
 have K:=h.lt;have B:QS (d.length<1000000000000):=y;have u:QS (b∉C):=x;have D:QS ((aD l k).getD (X Y)=X q):=z;clear y x z;go_enter func61,ntmps61;go_wp2_with(first
  |(go_at_call 124;go_must(refine(sy b k l q _ h D.o).mono ?_;rintro e N ⟨⟨F,rfl⟩,a⟩))
  |(go_at_call 92;go_must(refine(dz m d C _ _ _ (H.ai a k_) (by have:=B.o;omega)).mono ?_;rintro e P ⟨rfl,A,n,i,c⟩))
  |(at_mapUpdate;go_must(refine fW _ rfl _ _ _ 54 rfl 3 123 cY Tryz.underlying54 Tryz.underlying3 b rfl k rfl _ rfl l ((h.ai a id).ai i u.o) ?_;intro M r j L)))
 go_end0;have p:aa (λk=>k∈C\/k=b) w M:=((a.mono (T:=λk=>k∈C\/k=b) (λ_ _ h=>h.elim)).tr i (λ_ h=>.inl h)).tr j (λ_ h=>.inr h);refine⟨rfl,_,?_,A,n.ai j (λk o e=>?_),p,λk o=>?_,r⟩
 ·simp
 ·have G:k=b:=e;subst G;rcases c k o with g|g
  ·exact u.o g
  ·have:=a.size;omega
 ·rcases c k o with g|g
  ·exact .inl g
  ·have:=a.size;right;omega
theorem qy(m:Nat)(f:List ax)(C:List Nat)(b:Nat)(k:ByteArray)(l:List (ByteArray×ax))(r D:Int)(s F:ByteArray)(t G:Bool)(w:ab)(y:iP w m f C)(h:aQ O w b l)(B:(aD l k).getD (.agg #[Z U 0,O ByteArray.empty,ao false])=.agg #[Z U r,O s,ao t])(z:b∉C)(A:f.length<1000000000000):ba prog 132 #[X (V ⟨m,0,Y⟩),.map (V b),O k,.agg #[Z U D,O F,ao G]] w λe u=>e=ay (bt #[])/\∃g v,g.length=f.length+1/\iP u m g v/\aa (λk=>k∈C\/k=b) w u/\(∀k∈v,k∈C\/w.heap.size<=k)/\aQ O u b (put l k (.agg #[Z U D,O F,ao G])):=by
 have P:=h.lt;have K:QS (f.length<1000000000000):=A;have x:QS (b∉C):=z;have L:QS ((aD l k).getD (.agg #[Z U 0,O ByteArray.empty,ao false])=.agg #[Z U r,O s,ao t]):=B;clear A z B;go_enter func132,ntmps132;go_wp2_with(first
  |(go_at_call 174;go_must(refine(uO b k l r s t _ (h.ai (aa.alloc n_ _ _) id) L.o).mono ?_;rintro e w1 ⟨⟨M,rfl⟩,a⟩))
  |(go_at_call 92;go_must(refine(dz m f C _ _ _ (y.ai ((aa.alloc n_ _ _).tr a i_) k_) (by have:=K.o;omega)).mono ?_;rintro e w2 ⟨rfl,H,n,d,c⟩;obtain⟨Q,R,S⟩:=Jd y a d))
  |(at_mapUpdate;go_must(refine fW _ rfl _ _ _ 124 rfl 9 144 bJ Tryz.underlying124 Tryz.underlying9 b rfl k rfl _ rfl l ((h.ai ((aa.alloc n_ _ _).tr a i_) id).ai d x.o) ?_;intro w3 q j W)))
 go_end0;have p:aa (λk=>k∈C\/k=b) w w3:=((((aa.alloc n_ _ _).tr a i_).mono (T:=λk=>k∈C\/k=b) (λ_ _ h=>h.elim)).tr d (λ_ h=>.inl h)).tr j (λ_ h=>.inr h);refine⟨rfl,_,?_,H,n.ai j (λk o e=>?_),p,λk o=>?_,q⟩
 ·simp
 ·have N:k=b:=e;subst N;rcases c k o with i|i
  ·exact x.o i
  ·have:=a.size;simp at this;omega
 ·rcases c k o with i|i
  ·exact .inl i
  ·have:=a.size;simp at this;right;omega
theorem pR(m:Nat)(d:List ax)(C:List Nat)(b:Nat)(k:Int)(l:List (Int×ax))(q:Option Addr)(w:ab)(G:iP w m d C)(h:aQ (Z U) w b l)(y:(aD l k).getD (X Y)=X q)(v:b∉C)(x:d.length<1000000000000):ba prog 76 #[X (V ⟨m,0,Y⟩),.map (V b),Z U k] w λe s=>e=ay (bt #[])/\∃f t,f.length=d.length+1/\iP s m f t/\aa (λk=>k∈C\/k=b) w s/\(∀k∈t,k∈C\/w.heap.size<=k)/\aQ (Z U) s b (del l k):=by
 have H:=h.lt;have A:QS (d.length<1000000000000):=x;have u:QS (b∉C):=v;have B:QS ((aD l k).getD (X Y)=X q):=y;clear x v y;go_enter func76,ntmps76;go_wp2_with(first
  |(go_at_call 124;go_must(refine(sy b k l q _ h B.o).mono ?_;rintro e M ⟨⟨D,rfl⟩,a⟩))
  |(go_at_call 92;go_must(refine(dz m d C _ _ _ (G.ai a k_) (by have:=A.o;omega)).mono ?_;rintro e N ⟨rfl,z,n,i,c⟩))
  |(at_delete;go_must(refine fm _ rfl _ _ 54 3 rfl 123 cY Tryz.underlying54 Tryz.underlying3 b rfl k rfl l ((h.ai a id).ai i u.o) ?_;intro L r j K)))
 go_end0;have p:aa (λk=>k∈C\/k=b) w L:=((a.mono (T:=λk=>k∈C\/k=b) (λ_ _ h=>h.elim)).tr i (λ_ h=>.inl h)).tr j (λ_ h=>.inr h);refine⟨rfl,_,?_,z,n.ai j (λk o e=>?_),p,λk o=>?_,r⟩
 ·simp
 ·have F:k=b:=e;subst F;rcases c k o with g|g
  ·exact u.o g
  ·have:=a.size;omega
 ·rcases c k o with g|g
  ·exact .inl g
  ·have:=a.size;right;omega
section
attribute [local go_sem] Oper.semAt_some
theorem gj(b a:Nat)(w:ab)(d:w.cell? ⟨a,0,Y⟩=V (Z U 0)):ba prog 58 #[X (V ⟨b,0,Y⟩),.nilIface,X (V ⟨a,0,Y⟩)] w λe c=>e=ay (bt #[])/\c=w:=by go_enter func58,ntmps58;go_wp2;refine bodyPost_ret (results_none rfl _ _ _) rfl ?_;exact⟨rfl,rfl⟩
theorem yh(F:Fence)(n:Nat)(f:F.fn 165)(b:F.round=Y)(l B:Nat)(h:List Empty->ab->Prop)(W:ab)(g:W.cell? ⟨B,0,Y⟩=V (J Y 0 0))(d:h [] W):CallsIn F n prog 165 #[.func (.yield l) #[] #[],X (V ⟨B,0,Y⟩)] W λe c=>(∃v,e=ay v)/\h [] c:=by
 refine callsIn_of_wp func165 rfl f ?_ b;simp only[ntmps165,vE,fN,pa,Nat.reduceAdd,Nat.reduceSub,QW,QX,Rv,Re,uE,tI];gi_wp2;gi_loopw [3] (λi wr=>i=Z U (-1)/\h [] wr) (λ_ _=>0)
 case atStart=>exact⟨rfl,d⟩
 case round=>
  obtain⟨rfl,a⟩:=hrel;gi_wp2;go_end0;exact⟨⟨_,rfl⟩,a⟩
theorem qQ(F:Fence)(n:Nat)(d:F.fn 165)(b:F.round=Y)(B:Nat)(w:ab)(f:B<w.heap.size)(h:w.cell? ⟨B,0,Y⟩=V (J Y 0 0)):SeqStopsK F n prog 165 #[X (V ⟨B,0,Y⟩)] (λ_:Empty=>#[Value.nilFunc,Value.nilFunc]) (λ_ _=>True) (λk=>k=[]) n_ 0 w:=λl q m W g _ _ _ c=>by have a:=(g.cell (p:=⟨B,0,Y⟩) f).trans h;exact(yh F n d b l B q W a c).mono λe o ⟨i,j⟩=>⟨i,.inl ⟨_,rfl,j⟩⟩
theorem ru(a:Option Addr)(c b:Nat)(w:ab):ba prog 121 #[J a c b] w λe g=>e=ay (.func (.func 165) #[] #[X (V ⟨w.heap.size,0,Y⟩)])/\g=w.alloc (I #[J a c b] 112):=by have f:=mf_;go_enter func121,ntmps121;go_wp2;go_ret;exact⟨rfl,rfl⟩
theorem eG(b c:Nat)(n:Int)(k:1<=n/\n<=9)(w:ab)(q:w.cell? ⟨b,0,Y⟩=V (J Y 0 0))(r:w.cell? ⟨c,0,Y⟩=V (Z U n)):ba prog 58 #[X (V ⟨b,0,Y⟩),.nilIface,X (V ⟨c,0,Y⟩)] w λe m=>e=ay (bt #[])/\aa n_ w m:=by
 obtain⟨o,p⟩:=k;have l:(n==0)=false:=by simp;omega
 have j:=mf_;refine(callsIn_wide (n:=8)).1 ?_;refine callsIn_of_wp_marks func58 rfl trivial ?_ rfl;simp only[ntmps58,vE,fN,pa,Nat.reduceAdd,Nat.reduceSub,QW,QX,Rv,Re,uE,tI];gi_wp2_with (refine⟨trivial,?_⟩;gi_at_call 121;go_must(refine(callsIn_wide.2 (ru _ _ _ _)).mono ?_;rintro e s ⟨rfl,rfl⟩))
 refine wpIn_rangeFunc_ownG (α:=Empty) rfl (by omega) (gf:=165) (lb:=#[X (V ⟨w.heap.size,0,Y⟩)]) rfl trivial (enters_of func165 (by kernel_rfl) rfl) (qQ Fence.wide 7 trivial rfl w.heap.size (w.alloc (I #[J Y 0 0] 112)) (by simp) (by simp)) (λ_ _=>trivial) (λ_ _ _ _ _ _ _ _=>trivial) (Below.refl _ _) (λx=>x.elim) (λ_ W=>Below w.heap.size w W) (λ_ _ _=>False) ?own ?ownx ?start (λx=>x.elim) (λ_ x=>x.elim) (λ_ _ x=>x.elim) ?done (λ_ _ _ _ _ h=>h.elim)
 case own=>exact ownFrom_below (eb _) (by simp)
 case ownx=>exactλ_ _ _ _ _ h _ _=>h
 case start=>exact(Below.refl _ _).alloc (eb _) _
 case done=>
  rintro D t W i-g f;gi_wp2;refine⟨by simp,.inl ⟨_,_,rfl,run_takeDeferred f,?_⟩⟩;refine⟨_,results_none rfl _ _ _,rfl,?_⟩;exact aa.below (g.trans (belowK_b (w:=w) (eb _) W D _ _ (by simp at i;omega) f rfl rfl))
end
theorem yQ(b a:Nat)(w:ab)(d:w.cell? ⟨a,0,Y⟩=V (Z U 0)):CallsD prog 57 #[X (V ⟨b,0,Y⟩),X (V ⟨a,0,Y⟩)] .returning w λe g h=>e=ay (bt #[])/\g=.returning/\h=w:=by refine callsD_of_wpS func57 rfl λc i f=>?_;apply wpS_region;simp[wpOpsS,go_sem,recoverD,f,ntmps57];refine(gj b a w d).mono ?_;rintro e j ⟨rfl,rfl⟩;cases c;simp_all[bodyPostS,results,Tryz.results57]
theorem BG(a b:Nat)(n:Int)(g:1<=n/\n<=9)(w:ab)(d:w.cell? ⟨a,0,Y⟩=V (J Y 0 0))(f:w.cell? ⟨b,0,Y⟩=V (Z U n)):CallsD prog 57 #[X (V ⟨a,0,Y⟩),X (V ⟨b,0,Y⟩)] .returning w λe i j=>e=ay (bt #[])/\i=.returning/\aa n_ w j:=by refine callsD_of_wpS func57 rfl λc k h=>?_;apply wpS_region;simp[wpOpsS,go_sem,recoverD,h,ntmps57];refine(eG a b n g w d f).mono ?_;rintro e m ⟨rfl,l⟩;cases c;simp_all[bodyPostS,results,Tryz.results57]
theorem zV(b a:Nat)(w:ab)(d:w.cell? ⟨a,0,Y⟩=V (Z U 0)):CallsD prog 129 #[X (V ⟨b,0,Y⟩),X (V ⟨a,0,Y⟩)] .returning w λe g h=>e=ay (bt #[])/\g=.returning/\h=w:=by refine callsD_of_wpS func129 rfl λc i f=>?_;apply wpS_region;simp[wpOpsS,go_sem,recoverD,f,ntmps129];refine(gj b a w d).mono ?_;rintro e j ⟨rfl,rfl⟩;cases c;simp_all[bodyPostS,results,Tryz.results129]
theorem mj(a b:Nat)(n:Int)(g:1<=n/\n<=9)(w:ab)(d:w.cell? ⟨a,0,Y⟩=V (J Y 0 0))(f:w.cell? ⟨b,0,Y⟩=V (Z U n)):CallsD prog 129 #[X (V ⟨a,0,Y⟩),X (V ⟨b,0,Y⟩)] .returning w λe i j=>e=ay (bt #[])/\i=.returning/\aa n_ w j:=by refine callsD_of_wpS func129 rfl λc k h=>?_;apply wpS_region;simp[wpOpsS,go_sem,recoverD,h,ntmps129];refine(eG a b n g w d f).mono ?_;rintro e m ⟨rfl,l⟩;cases c;simp_all[bodyPostS,results,Tryz.results129]
theorem vS(b a:Nat)(w:ab)(d:w.cell? ⟨a,0,Y⟩=V (Z U 0)):CallsD prog 75 #[X (V ⟨b,0,Y⟩),X (V ⟨a,0,Y⟩)] .returning w λe g h=>e=ay (bt #[])/\g=.returning/\h=w:=by refine callsD_of_wpS func75 rfl λc i f=>?_;apply wpS_region;simp[wpOpsS,go_sem,recoverD,f,ntmps75];refine(gj b a w d).mono ?_;rintro e j ⟨rfl,rfl⟩;cases c;simp_all[bodyPostS,results,Tryz.results75]
theorem rI(a b:Nat)(n:Int)(g:1<=n/\n<=9)(w:ab)(d:w.cell? ⟨a,0,Y⟩=V (J Y 0 0))(f:w.cell? ⟨b,0,Y⟩=V (Z U n)):CallsD prog 75 #[X (V ⟨a,0,Y⟩),X (V ⟨b,0,Y⟩)] .returning w λe i j=>e=ay (bt #[])/\i=.returning/\aa n_ w j:=by refine callsD_of_wpS func75 rfl λc k h=>?_;apply wpS_region;simp[wpOpsS,go_sem,recoverD,h,ntmps75];refine(eG a b n g w d f).mono ?_;rintro e m ⟨rfl,l⟩;cases c;simp_all[bodyPostS,results,Tryz.results75]
theorem Ie(b a:Nat)(w:ab)(d:w.cell? ⟨a,0,Y⟩=V (Z U 0)):CallsD prog 81 #[X (V ⟨b,0,Y⟩),X (V ⟨a,0,Y⟩)] .returning w λe g h=>e=ay (bt #[])/\g=.returning/\h=w:=by refine callsD_of_wpS func81 rfl λc i f=>?_;apply wpS_region;simp[wpOpsS,go_sem,recoverD,f,ntmps81];refine(gj b a w d).mono ?_;rintro e j ⟨rfl,rfl⟩;cases c;simp_all[bodyPostS,results,Tryz.results81]
theorem Bt(a b:Nat)(n:Int)(g:1<=n/\n<=9)(w:ab)(d:w.cell? ⟨a,0,Y⟩=V (J Y 0 0))(f:w.cell? ⟨b,0,Y⟩=V (Z U n)):CallsD prog 81 #[X (V ⟨a,0,Y⟩),X (V ⟨b,0,Y⟩)] .returning w λe i j=>e=ay (bt #[])/\i=.returning/\aa n_ w j:=by refine callsD_of_wpS func81 rfl λc k h=>?_;apply wpS_region;simp[wpOpsS,go_sem,recoverD,h,ntmps81];refine(eG a b n g w d f).mono ?_;rintro e m ⟨rfl,l⟩;cases c;simp_all[bodyPostS,results,Tryz.results81]
theorem Kv(b a:Nat)(w:ab)(d:w.cell? ⟨a,0,Y⟩=V (Z U 0)):CallsD prog 89 #[X (V ⟨b,0,Y⟩),X (V ⟨a,0,Y⟩)] .returning w λe g h=>e=ay (bt #[])/\g=.returning/\h=w:=by refine callsD_of_wpS func89 rfl λc i f=>?_;apply wpS_region;simp[wpOpsS,go_sem,recoverD,f,ntmps89];refine(gj b a w d).mono ?_;rintro e j ⟨rfl,rfl⟩;cases c;simp_all[bodyPostS,results,Tryz.results89]
structure bF where
 aG:Int
 value:ByteArray
 aO:Bool
def bF.val(v:bF):ax:=.agg #[Z U v.aG,O v.value,ao v.aO]
def bF.cells(v:bF):List ax:=[Z U v.aG,O v.value,ao v.aO]
structure mO where
 eT:Nat
 mb:Nat
 aI:Int
 ar:List (ByteArray×bF)
structure sM where
 sl:ax
 aE:List bF
structure bB where
 full:Bool
 gY:Int
 to:Int
 jj:Bool
 next:ByteArray
 sum:Int
 count:Int
def bB.val(x:bB):ax:=.agg #[ao x.full,Z U x.gY,Z U x.to,ao x.jj,O x.next,Z .u32 x.sum,Z U x.count]
structure aF where
 sb:Nat
 now:Int
 aK:Int
 aJ:Int
 wm:Option Nat
 af:List (Int×mO)
 pm:Option Nat
 aN:List (Int×Int)
 aB:Int
 cm:Option Nat
 aA:List (Int×bB)
 kv:ax
 keys:List ByteArray
 vm:Option Nat
 au:List (ByteArray×sM)
def aF.bp(R:aF):List Nat:=R.kv.ownBlock.toList++R.vm.toList++R.au.flatMap (λp=>p.2.sl.ownBlock.toList)
def cL(b a:Option Nat):List Nat:=b.toList++a.toList
def aF.aP(R:aF):List Nat:=R.wm.toList++cL R.pm R.cm++R.af.flatMap (λp=>[p.2.eT,p.2.mb])
def aF.fp(R:aF):List Nat:=R.sb::(R.aP++R.bp)
def bE(x:mO):ax:=X (V ⟨x.eT,0,Y⟩)
structure qJ(w:ab)(kv:ax)(keys:List ByteArray)(vm:Option Nat)(au:List (ByteArray×sM)):Prop where
 cW:Row w 9 1 kv keys.length (keys.map O)
 ed:dG O w vm (au.map λp=>(p.1,p.2.sl))
 fA:∀p∈au,Row w 144 3 p.2.sl p.2.aE.length (p.2.aE.flatMap bF.cells)
structure qc(w:ab)(R:aF):Prop where
 cy:dG (Z U) w R.wm (R.af.map λp=>(p.1,bE p.2))
 eA:∀p∈R.af,w.heap[p.2.eT]?=V (I #[Z U p.2.aI,.map (V p.2.mb)] 126 (0,0))/\aQ O w p.2.mb (p.2.ar.map λq=>(q.1,q.2.val))
 dc:dG (Z U) w R.pm (R.aN.map λp=>(p.1,Z U p.2))
 cU:dG (Z U) w R.cm (R.aA.map λp=>(p.1,p.2.val))
def bo(R:aF):Array ax:=#[Z U R.now,Z U R.aK,Z U R.aJ,.map R.wm,.map R.pm,Z U R.aB,.map R.cm,R.kv,.map R.vm]
structure aq(w:ab)(R:aF):Prop where
 top:w.heap[R.sb]?=V (I (bo R) 61 (0,0))
 af:qc w R
 cg:qJ w R.kv R.keys R.vm R.au
 nodup:R.fp.Nodup
theorem qJ.ai{m:ab}{i:ax}{c:List ByteArray}{j:Option Nat}{a:List (ByteArray×sM)}(h:qJ w i c j a)(f:aa S w m)(d:∀k,k∈i.ownBlock.toList++j.toList++a.flatMap (λp=>p.2.sl.ownBlock.toList)->¬S k):qJ m i c j a:=by refine⟨h.cW.ai f (λg e=>d g (by simp[e])),h.ed.ai f (λb n=>d b (by simp[n])),λp l=>(h.fA p l).ai f (λg e=>d g ?_)⟩;simp only[cQ,ns];exact .inr ⟨p,l,by simp[e]⟩
theorem qc.ai{j:ab}{R:aF}(h:qc w R)(c:aa S w j)(d:∀k,k∈R.aP->¬S k):qc j R:=by
 refine⟨h.cy.ai c (λb a=>d b (by simp[aF.aP,a])),λp i=>?_,h.dc.ai c (λb a=>d b (by simp[aF.aP,cL,a])),h.cU.ai c (λb a=>d b (by simp[aF.aP,cL,a]))⟩;obtain⟨f,l⟩:=h.eA p i;have g:∀k,k=p.2.eT\/k=p.2.mb->¬S k:=λk e=>d k (by simp only[aF.aP,cQ,ns];exact .inr ⟨p,i,by simpa using e⟩)
 exact⟨(c.block _ (lg f) (g _ (.inl rfl))).trans f,l.ai c (g _ (.inr rfl))⟩
theorem aq.ai{R:aF}(h:aq w R)(c:aa S w d)(b:∀k,k∈R.fp->¬S k):aq d R:=
 ⟨(c.block _ (lg h.top) (b _ (by simp[aF.fp]))).trans h.top,h.af.ai c (λk a=>b k (by simp[aF.fp,a])),
  h.cg.ai c (λk a=>b k (ef _ (fx _ a))),h.nodup⟩
theorem aq.cell{R:aF}(h:aq w R)(j:Nat):w.cell? ⟨R.sb,j,Y⟩=(bo R)[j]?:=by simp[World.cell?,h.top]
theorem aq.frozen{R:aF}(h:aq w R)(j:Nat):w.frozen? ⟨R.sb,j,Y⟩=false:=by simp[World.frozen?,h.top]
theorem aq.lt{R:aF}(h:aq w R):R.sb<w.heap.size:=(lg h.top)
theorem aq.seven{R:aF}(h:aq w R):w.cell? ⟨R.sb,0,Y⟩=V (Z U R.now)/\w.cell? ⟨R.sb,1,Y⟩=V (Z U R.aK)/\w.cell? ⟨R.sb,2,Y⟩=V (Z U R.aJ)/\w.cell? ⟨R.sb,3,Y⟩=V (.map R.wm)/\w.cell? ⟨R.sb,4,Y⟩=V (.map R.pm)/\w.cell? ⟨R.sb,5,Y⟩=V (Z U R.aB)/\w.cell? ⟨R.sb,6,Y⟩=V (.map R.cm)/\w.cell? ⟨R.sb,7,Y⟩=V R.kv/\w.cell? ⟨R.sb,8,Y⟩=V (.map R.vm):=
 ⟨h.cell 0,h.cell 1,h.cell 2,h.cell 3,h.cell 4,h.cell 5,h.cell 6,h.cell 7,h.cell 8⟩
theorem fv(R:aF)(n:Int)(w:ab)(h:aq w R):ba prog 65 #[X (V ⟨R.sb,0,Y⟩),Z U n] w λe b=>e=ay (((aD R.af n).map bE).getD (X Y))/\b=w:=by
 have a:=h.af.cy;obtain⟨-,-,-,c,-,-,-,-,-⟩:=h.seven;generalize R.sb=d at*;go_enter func65,ntmps65;go_wp2_with(at_lookup;go_must(refine dd _ rfl _ _ 54 rfl 3 123 cY Tryz.underlying54 Tryz.underlying3 _ (Tryz.DX _) R.wm rfl n rfl _ a ?_))
 go_ret;refine⟨?_,rfl⟩;simp[cd]
theorem KH(i:Nat)(c f g a b:Nat)(t d:Int)(w:ab)(l:i<a)(j:w.cell? ⟨c,0,Y⟩=V (J (V ⟨g,0,Y⟩) a b))(m:w.cell? ⟨f,0,Y⟩=V (Z U t))(k:w.cell? ⟨g,i*3,Y⟩=V (Z U d)):ba prog 204 #[Z U i,X (V ⟨c,0,Y⟩),X (V ⟨f,0,Y⟩)] w λe h=>e=ay (ao (decide (t<d)))/\aa n_ w h:=by go_enter func204,ntmps204;go_wp2;go_region;go_wp2;go_ret;exact⟨rfl,aa.drew _ _⟩
theorem KI(x:Int)(i:Nat)(c f g a b:Nat)(t d:Int)(w:ab)(m:x=i)(k:i<a)(h:w.cell? ⟨c,0,Y⟩=V (J (V ⟨g,0,Y⟩) a b))(l:w.cell? ⟨f,0,Y⟩=V (Z U t))(j:w.cell? ⟨g,i*3,Y⟩=V (Z U d)):ba prog 204 #[Z U x,X (V ⟨c,0,Y⟩),X (V ⟨f,0,Y⟩)] w λe n=>e=ay (ao (decide (t<d)))/\aa n_ w n:=by subst m;exact KH i c f g a b t d w k h l j
theorem FW(n:Nat)(o C g d:Nat)(t:Int)(a:Nat->Int)(w:ab)(hl:n<=1000000000000)(Q:w.cell? ⟨o,0,Y⟩=V (J (V ⟨g,0,Y⟩) n d))(ht:w.cell? ⟨C,0,Y⟩=V (Z U t))(M:∀j,j<n->w.cell? ⟨g,j*3,Y⟩=V (Z U (a j)))(N:∀i j,i<=j->j<n->a i<=a j):ba prog 203 #[Z U n,.func (.func 204) #[] #[X (V ⟨o,0,Y⟩),X (V ⟨C,0,Y⟩)]] w λe w'=>∃r:Nat,e=ay (Z U r)/\r<=n/\(∀j,j<r->a j<=t)/\(∀j,r<=j->j<n->t<a j)/\aa n_ w w':=by
 have P:QS (∀j,j<n->w.cell? ⟨g,j*3,Y⟩=V (Z U (a j))):=M;have H:QS (∀i j,i<=j->j<n->a i<=a j):=N;clear M N;go_enter func203,ntmps203;go_wp2;go_loopw [5,6] (λx y wr=>∃i j:Nat,x=Z U i/\y=Z U j/\i<=j/\j<=n/\(∀k,k<i->a k<=t)/\(∀k,j<=k->k<n->t<a k)/\aa n_ w wr) (λx y _=>((intOf y)-(intOf x)).toNat)
 case atStart=>exact⟨0,n,rfl,rfl,eL _,eb _,λk S=>by omega,λk K L=>by omega,aa.refl _ _⟩
 case round=>
  obtain⟨i,j,rfl,rfl,R,z,A,v,b⟩:=hrel;by_cases T:i<j
  ·obtain⟨m,W⟩:∃m:Nat,m=(i+j)/2:=⟨_,rfl⟩
   have F:i<=m:=by omega
   have a0:m<j:=by omega
   have l:((i:Int)+j)/2=m:=by omega
   have G:QS (((i:Int)+j)/2=m):=l;have q:wr.cell? ⟨o,0,Y⟩=V (J (V ⟨g,0,Y⟩) n d):=b.cell (p:=⟨o,0,Y⟩) Q id;have B:wr.cell? ⟨C,0,Y⟩=V (Z U t):=b.cell (p:=⟨C,0,Y⟩) ht id;have u:wr.cell? ⟨g,m*3,Y⟩=V (Z U (a m)):=b.cell (p:=⟨g,m*3,Y⟩) (P.o m (by omega)) id;have c:=KI (((i:Int)+j)/2) m o C g n d t (a m) wr l (by omega) q B u;clear l W u q B;by_cases D:t<a m
   ·have s:decide (t<a m)=true:=by simpa using D
    rw[s]at c;clear s;go_wp2_with(go_at_call 204;go_must(refine c.mono ?_;rintro e w1 ⟨rfl,f⟩))
    go_roundw
    case rel=>exact⟨i,m,rfl,by rw[G.o],F,by omega,A,λk K L=>Int.lt_of_lt_of_le D (H.o m k K L),b.tr f i_⟩
    case measure=>simp[intOf];omega
   ·have s:decide (t<a m)=false:=by simpa using D
    rw[s]at c;clear s;go_wp2_with(go_at_call 204;go_must(refine c.mono ?_;rintro e w1 ⟨rfl,f⟩))
    go_roundw
    case rel=>exact⟨m+1,j,by rw[G.o];rfl,rfl,by omega,z,λk S=>Tg (H.o k m (by omega) (by omega)) (by omega),v,b.tr f i_⟩
    case measure=>simp[intOf];omega
  ·go_wp2;go_ret
   have:i=j:=by omega
   subst this;exact⟨i,rfl,z,A,v,b⟩
def lN(a:List bF)(t:Int):Nat:=(a.takeWhile (λv=>decide (v.aG<=t))).length
def dP(c:List bF):Prop:=c.Pairwise (λa b=>a.aG<b.aG)
theorem Bj:∀{vs:List bF} {t:Int} {r:Nat},r<=vs.length->(∀j (h:j<vs.length),j<r->vs[j].aG<=t)->(∀j (h:j<vs.length),r<=j->t<vs[j].aG)->lN vs t=r
 |[],t,r,h,_,_=>by simp at h;subst h;rfl
 |v::vs,t,0,_,_,h2=>by have:=h2 0 (by simp) (by omega);simp only[Ru]at this;simp[lN,Sm];omega
 |v::vs,t,r+1,h,h1,h2=>by have b:=h1 0 (by simp) (by omega);simp only[Ru]at b;have ih:=Bj (vs:=vs) (t:=t) (r:=r) (by simpa using h) (λj a c=>h1 (j+1) (by simpa using a) (by omega)) (λj a c=>h2 (j+1) (by simpa using a) (by omega));unfold lN at ih⊢;simp[b,ih]
theorem ri(a:List bF)(t:Int):lN a t<=a.length:=by unfold lN;exact(List.takeWhile_sublist _).length_le
theorem rH:∀(a:List bF) (j:Nat) (r:Nat) (b:j<a.length),r<3->(a.flatMap bF.cells)[j*3+r]?=a[j].cells[r]?
 |v::a,0,r,_,hr=>by simp only[Rh,Nat.zero_mul,tA,Ru];rw[Rb (by simpa[bF.cells]using hr)]
 |v::a,j+1,r,b,hr=>by
  simp only[Rh,Rf];rw[Rl (by simp[bF.cells];omega)];have e:(j+1)*3+r-v.cells.length=j*3+r:=by simp[bF.cells];omega
  rw[e];exact rH a j r (by simpa using b) hr
theorem nP(a:List bF):(a.flatMap bF.cells).length=a.length*3:=by
 induction a with
 |nil=>rfl
 |cons v a ih=>simp only[Rh,hQ,ih,fN];simp[bF.cells];omega
theorem Row.eW{g:Nat}{a:List bF}(h:Row w 144 3 (J (V ⟨g,0,Y⟩) a.length b) a.length (a.flatMap bF.cells))(j:Nat)(c:j<a.length):w.cell? ⟨g,j*3,Y⟩=V (Z U a[j].aG)/\w.cell? ⟨g,j*3+1,Y⟩=V (O a[j].value)/\w.cell? ⟨g,j*3+2,Y⟩=V (ao a[j].aO):=by
 refine⟨?_,?_,?_⟩
 ·rw[h.cellAt (j*3) (by omega)];exact rH a j 0 c (by omega)
 ·rw[h.cellAt (j*3+1) (by omega)];exact rH a j 1 c (by omega)
 ·rw[h.cellAt (j*3+2) (by omega)];exact rH a j 2 c (by omega)
theorem dP.le{a:List bF}(h:dP a){j:Nat}(b:i<=j)(c:j<a.length):a[i].aG<=a[j].aG:=by
 rcases Nat.lt_or_eq_of_le b with d|rfl
 ·exact Int.le_of_lt (RE.1 h i j (by omega) c d)
 ·exact ya _
theorem Dk(a b:Nat)(w:ab):ba prog 203 #[Z U 0,.func (.func 204) #[] #[X (V ⟨a,0,Y⟩),X (V ⟨b,0,Y⟩)]] w λe c=>e=ay (Z U 0)/\c=w:=by
 go_enter func203,ntmps203;go_wp2;go_loopw [5,6] (λx y wr=>x=Z U 0/\y=Z U 0/\wr=w) (λ_ _ _=>0)
 case atStart=>exact⟨rfl,rfl,rfl⟩
 case round=>
  obtain⟨rfl,rfl,rfl⟩:=hrel;go_wp2;go_ret;exact⟨rfl,rfl⟩
theorem DP(t:Int)(w:ab):ba prog 172 #[J Y 0 0,Z U t] w λe d=>e=ay (Z U 0)/\aa n_ w d:=by
 have c:=mf_;go_enter func172,ntmps172;go_wp2_with(go_at_call 203;go_must(refine(Dk _ _ _).mono ?_;rintro e f ⟨rfl,rfl⟩))
 go_ret;exact⟨rfl,((aa.refl _ w).al _).al _⟩
theorem zT(g b:Nat)(a:List bF)(t:Int)(w:ab)(h:Row w 144 3 (J (V ⟨g,0,Y⟩) a.length b) a.length (a.flatMap bF.cells))(A:dP a)(y:a.length<=1000000000000):ba prog 172 #[J (V ⟨g,0,Y⟩) a.length b,Z U t] w λe B=>e=ay (Z U (lN a t))/\aa n_ w B:=by
 have z:=mf_;have v:∀(f k:Obj),Row ((w.alloc f).alloc k) 144 3 (J (V ⟨g,0,Y⟩) a.length b) a.length (a.flatMap bF.cells):=λf k=>(h.ai (aa.alloc n_ w f) k_).ai (aa.alloc n_ _ k) k_;have u:∀(f k:Obj),∀j,j<a.length->((w.alloc f).alloc k).cell? ⟨g,j*3,Y⟩=V (Z U ((a[j]?.map bF.aG).getD 0)):=λf k j c=>by rw[((v f k).eW j c).1];simp[c]
 have q:∀i j,i<=j->j<a.length->(a[i]?.map bF.aG).getD 0<=(a[j]?.map bF.aG).getD 0:=λi j l c=>by
  have x:i<a.length:=by omega
  simpa[x,c]using A.le l c
 go_enter func172,ntmps172;go_wp2_with(go_at_call 203;go_must(refine(FW a.length w.heap.size (w.heap.size+1) g b t (λj=>(a[j]?.map bF.aG).getD 0) _ y (by rw[World.cell?_alloc_past _ _ _ (by simp),World.cell?_alloc_at _ _ _ _ rfl];rfl) (by rw[World.cell?_alloc_at _ _ _ _ (by simp)];rfl) (u _ _) q).mono ?_;rintro e C ⟨r,rfl,n,o,p,m⟩))
 go_ret;have e:lN a t=r:=Bj n (λj c d=>by simpa[c]using o j d) (λj c d=>by simpa[c]using p j d c);exact⟨by rw[e];rfl,(((aa.refl _ w).al _).al _).tr m i_⟩
def aw(a:List (ByteArray×sM))(b:ByteArray):List bF:=((aD a b).map sM.aE).getD []
def cX(a:List bF)(t:Int):Option bF:=if lN a t=0 then Y else a[lN a t-1]?
def bF.zero:bF:=⟨0,ByteArray.empty,false⟩
theorem Tryz.cJ(w:ab):(zeroValue 135).run prog w=.ok (J Y 0 0) w:=by kernel_rfl
theorem qJ.slice{d:ax}{c:List ByteArray}{e:Option Nat}{a:List (ByteArray×sM)}(h:qJ w d c e a)(b:ByteArray):Row w 144 3 ((aD (a.map λp=>(p.1,p.2.sl)) b).getD (J Y 0 0)) (aw a b).length ((aw a b).flatMap bF.cells):=by
 rw[cd];unfold aw;cases hl:aD a b with
 |none=>exact Row.nil _ _ _
 |some x=>exact h.fA (b,x) (bj hl)
theorem Row.shape{e:cI}{n:Nat}(h:Row w e b v n j):(v=J Y 0 0/\n=0)\/∃g a,v=J (V ⟨g,0,Y⟩) n a/\n<=a/\a<=maxLen:=by
 rcases h.2 with h|⟨g,a,c,i,_,d,f,_⟩
 ·exact .inl h
 ·exact .inr ⟨g,a,i,d,f⟩
theorem qP(W:ab)(b:Nat)(x y z:ax)(f:Bool)(a:Array ax)(g:a.getD 6 undef=X (V ⟨b,0,Y⟩))(i:a.getD 7 undef=ao f)(h:W.heap[b]?=V (I #[x,y,z] 144 (0,0))):(results Tryz.f128 a).run prog W=.ok (bt #[.agg #[x,y,z],ao f]) W:=by obtain⟨c,d,e,-,-,-⟩:=bQ h;simp only[Tp]at g i;simp[results,Tryz.results128,go_sem,g,i,c,d,e]
theorem GD(G:Nat)(d:ByteArray)(t:Int)(n:Option Nat)(l:List (ByteArray×ax))(H:ax)(b:List bF)(w:ab)(Q:w.cell? ⟨G,8,Y⟩=V (.map n))(p:dG O w n l)(r:(aD l d).getD (J Y 0 0)=H)(F:Row w 144 3 H b.length (b.flatMap bF.cells))(T:dP b)(R:b.length<=1000000000000):ba prog 128 #[X (V ⟨G,7,Y⟩),O d,Z U t] w λe w'=>e=ay (bt #[((cX b t).getD bF.zero).val,ao (cX b t).isSome])/\aa n_ w w':=by
 have S:G<w.heap.size:=World.block_lt_of_cell? _ _ Q;have i:QS ((aD l d).getD (J Y 0 0)=H):=r;clear r;have k:dG O (w.alloc (I #[Z U 0,O ByteArray.empty,ao false] 144)) n l:=p.ai (aa.alloc n_ _ _) k_;rcases F.shape with⟨rfl,K⟩|⟨g,j,rfl,C,D⟩
 ·obtain rfl:b=[]:=hU K;clear F K;go_enter func128,ntmps128;go_wp2_with(first
   |(at_lookup;go_must(refine dd _ rfl _ _ 57 rfl 9 135 bJ Tryz.underlying57 Tryz.underlying9 _ (Tryz.cJ _) n rfl d rfl l k ?_;rw[i.o]))
   |(go_at_call 172;go_must(refine(DP t _).mono ?_;rintro e M ⟨rfl,a⟩;obtain⟨s,u,v,x,y,z⟩:=bQ (bO a id))))
  refine bodyPost_ret (qP _ _ _ _ _ _ _ rfl rfl (tp (bO a id) _ _ _)) rfl ⟨rfl,?_⟩;exact((((aa.refl _ w).al _).tr a i_).st (.inl (eb _)) _|>.st (.inl (eb _)) _).st (.inl (eb _)) _
 ·have L:=ri b t;have o:=λW P=>zT g j b t W P T R;have f:Row (w.alloc (I #[Z U 0,O ByteArray.empty,ao false] 144)) 144 3 (J (V ⟨g,0,Y⟩) b.length j) b.length (b.flatMap bF.cells):=F.ai (aa.alloc n_ _ _) k_;have c:=o _ f;clear o;rcases Ry (lN b t)with A|A
  ·have B:QS (cX b t=Y):=by unfold QS cX;rw[fy A]
   rw[A]at c;clear A L f;go_enter func128,ntmps128;go_wp2_with(first
    |(at_lookup;go_must(refine dd _ rfl _ _ 57 rfl 9 135 bJ Tryz.underlying57 Tryz.underlying9 _ (Tryz.cJ _) n rfl d rfl l k ?_;rw[i.o]))
    |(go_at_call 172;go_must(refine c.mono ?_;rintro e M ⟨rfl,a⟩;obtain⟨s,u,v,x,y,z⟩:=bQ (bO a id))))
   rw[B.o];refine bodyPost_ret (qP _ _ _ _ _ _ _ rfl rfl (tp (bO a id) _ _ _)) rfl ⟨rfl,?_⟩;exact((((aa.refl _ w).al _).tr a i_).st (.inl (eb _)) _|>.st (.inl (eb _)) _).st (.inl (eb _)) _
  ·obtain⟨m,p⟩:∃m,lN b t=m+1:=⟨lN b t-1,by omega⟩
   have q:m<b.length:=by omega
   have B:QS (cX b t=V b[m]):=by unfold QS cX;rw[el (by omega),p];simp[q]
   have N:QS (Row (w.alloc (I #[Z U 0,O ByteArray.empty,ao false] 144)) 144 3 (J (V ⟨g,0,Y⟩) b.length j) b.length (b.flatMap bF.cells)):=f;rw[p]at c;clear p A L f;go_enter func128,ntmps128;go_wp2_with(first
    |(at_lookup;go_must(refine dd _ rfl _ _ 57 rfl 9 135 bJ Tryz.underlying57 Tryz.underlying9 _ (Tryz.cJ _) n rfl d rfl l k ?_;rw[i.o]))
    |(go_at_call 172;go_must(refine c.mono ?_;rintro e M ⟨rfl,a⟩;obtain⟨s,u,v,x,y,z⟩:=bQ (bO a id);obtain⟨a0,a1,a2⟩:=(N.o.ai a k_).eW m q)))
   rw[B.o];refine bodyPost_ret (qP _ _ _ _ _ _ _ rfl rfl (tp (bO a id) _ _ _)) rfl ⟨rfl,?_⟩;exact((((aa.refl _ w).al _).tr a i_).st (.inl (eb _)) _|>.st (.inl (eb _)) _).st (.inl (eb _)) _
def eE(a:List bF):Int:=(a.getLast?.map bF.aG).getD 0
theorem Ju(x:Nat)(a:ByteArray)(k:Option Nat)(l:List (ByteArray×ax))(s:ax)(b:List bF)(w:ab)(B:w.cell? ⟨x,8,Y⟩=V (.map k))(q:dG O w k l)(j:(aD l a).getD (J Y 0 0)=s)(i:Row w 144 3 s b.length (b.flatMap bF.cells))(y:b.length<=1000000000000):ba prog 133 #[X (V ⟨x,7,Y⟩),O a] w λe A=>e=ay (Z U (eE b))/\A=w:=by
 have c:QS ((aD l a).getD (J Y 0 0)=s):=j;clear j;rcases i.shape with⟨rfl,u⟩|⟨g,o,rfl,d,p⟩
 ·obtain rfl:b=[]:=hU u;clear i u;go_enter func133,ntmps133;go_wp2_with(at_lookup;go_must(refine dd _ rfl _ _ 57 rfl 9 135 bJ Tryz.underlying57 Tryz.underlying9 _ (Tryz.cJ _) k rfl a rfl l q ?_;rw[c.o]))
  go_ret;exact⟨rfl,rfl⟩
 ·rcases Ry b.length with n|n
  ·obtain rfl:b=[]:=hU n;clear i n;go_enter func133,ntmps133;go_wp2_with(at_lookup;go_must(refine dd _ rfl _ _ 57 rfl 9 135 bJ Tryz.underlying57 Tryz.underlying9 _ (Tryz.cJ _) k rfl a rfl l q ?_;rw[c.o]))
   go_ret;exact⟨rfl,rfl⟩
  ·obtain⟨m,f⟩:∃m,b.length=m+1:=⟨b.length-1,by omega⟩
   have h:m<b.length:=by omega
   have t:QS (eE b=b[m].aG):=by unfold QS eE;rw[Ty,f];simp[h]
   obtain⟨r,-,-⟩:=i.eW m h;have v:m+1<=o:=by omega
   have z:m+1<=1000000000000:=by omega
   rw[f]at c;rw[t.o];generalize b[m].aG=C at r;clear i y n d t h f;go_enter func133,ntmps133;go_wp2_with(at_lookup;go_must(refine dd _ rfl _ _ 57 rfl 9 135 bJ Tryz.underlying57 Tryz.underlying9 _ (Tryz.cJ _) k rfl a rfl l q ?_;rw[c.o]))
   go_ret;exact⟨rfl,rfl⟩
def fT(a:List (ByteArray×bF))(d:List bF)(b:Int)(c:ByteArray):Option bF:=
 match aD a c with
 |some v=>V v
 |none=>cX d b
def gQ:Option bF->Bool
 |some v=>!v.aO
 |none=>false
theorem qc.work{R:aF}(h:qc w R){n:Int}{x:mO}(c:(n,x)∈R.af):w.cell? ⟨x.eT,0,Y⟩=V (Z U x.aI)/\w.cell? ⟨x.eT,1,Y⟩=V (.map (V x.mb))/\aQ O w x.mb (x.ar.map λq=>(q.1,q.2.val)):=by obtain⟨a,b⟩:=h.eA (n,x) c;exact⟨ae a 0,ae a 1,b⟩
theorem MT(j f b:Nat)(a:ByteArray)(l:List (ByteArray×ax))(v:bF)(w:ab)(h:w.cell? ⟨f,1,Y⟩=V (.map (V b)))(i:aQ O w b l)(d:aD l a=V v.val):ba prog 67 #[X (V ⟨j,0,Y⟩),X (V ⟨f,0,Y⟩),O a] w λe k=>e=ay (bt #[O v.value,ao (!v.aO)])/\aa n_ w k:=by
 have g:QS (aD l a=V v.val):=d;clear d;have c:∀(x:Bool) (w:ab),(Op.unary .not (ao x)).run prog w=.ok (ao (!x)) w:=λ_ _=>rfl;go_enter func67,ntmps67;go_wp2_with(at_lookup;go_must(refine bC _ rfl _ _ 124 rfl 9 144 bJ Tryz.underlying124 Tryz.underlying9 _ (Tryz.gu _) b rfl a rfl l i ?_;rw[g.o];simp only[lp,Ra,bF.val]))
 go_region;go_wp2;go_ret2;exact⟨rfl,((aa.refl _ w).al _).dr⟩
theorem MU(g q n:Nat)(b:ByteArray)(l:List (ByteArray×ax))(a:Int)(D:Option Nat)(m:List (ByteArray×ax))(o:ax)(f:List bF)(w:ab)(s:w.cell? ⟨q,0,Y⟩=V (Z U a))(S:w.cell? ⟨q,1,Y⟩=V (.map (V n)))(M:aQ O w n l)(R:aD l b=Y)(H:w.cell? ⟨g,8,Y⟩=V (.map D))(j:dG O w D m)(k:(aD m b).getD (J Y 0 0)=o)(P:Row w 144 3 o f.length (f.flatMap bF.cells))(Q:dP f)(K:f.length<=1000000000000):ba prog 67 #[X (V ⟨g,0,Y⟩),X (V ⟨q,0,Y⟩),O b] w λe F=>e=ay (bt #[O ((cX f a).getD bF.zero).value,ao (gQ (cX f a))])/\aa n_ w F:=by
 have G:QS (aD l b=Y):=R;have r:QS ((aD m b).getD (J Y 0 0)=o):=k;have T:q<w.heap.size:=World.block_lt_of_cell? _ _ s;have L:g<w.heap.size:=World.block_lt_of_cell? _ _ H;clear R k;have N:∀(x:Bool) (w:ab),(Op.unary .not (ao x)).run prog w=.ok (ao (!x)) w:=λ_ _=>rfl;have i:=λW (t:aa n_ w W)=>GD g b a D m o f W (t.cell (p:=⟨g,8,Y⟩) H id) (j.ai t k_) r.o (P.ai t k_) Q K;have c:QS (∀W,aa n_ w W->ba prog 128 #[X (V ⟨g,7,Y⟩),O b,Z U a] W λe F=>e=ay (bt #[((cX f a).getD bF.zero).val,ao (cX f a).isSome])/\aa n_ W F):=i;clear i P Q K j;cases hov:cX f a with
 |none=>
  rw[hov]at c;simp only[yg,Rk,bF.val,bF.zero,gQ]at c⊢;clear hov;go_enter func67,ntmps67;go_wp2_with(at_lookup;go_must(refine bC _ rfl _ _ 124 rfl 9 144 bJ Tryz.underlying124 Tryz.underlying9 _ (Tryz.gu _) n rfl b rfl l M ?_;rw[G.o];simp only[yg,Rk]))
  go_region_with(go_at_call 128;go_must(refine(c.o _ (((aa.refl _ w).al _).dr)).mono ?_;rintro e w1 ⟨rfl,d⟩;obtain⟨u,y,z,A,B,C⟩:=bQ (bO ((aa.drew n_ _).tr d i_) id)))
  simp only[Tv,Rf,Ru,Act.put,SO,Sz,SB];go_wp2;go_region;go_wp2;go_ret2;refine⟨rfl,?_⟩;exact((((((aa.refl _ w).al _).dr).tr d i_).st (.inl (eb _)) _|>.st (.inl (eb _)) _).st (.inl (eb _)) _).dr
 |some v=>
  rw[hov]at c;simp only[lp,Ra,bF.val,gQ]at c⊢;clear hov;go_enter func67,ntmps67;go_wp2_with(at_lookup;go_must(refine bC _ rfl _ _ 124 rfl 9 144 bJ Tryz.underlying124 Tryz.underlying9 _ (Tryz.gu _) n rfl b rfl l M ?_;rw[G.o];simp only[yg,Rk]))
  go_region_with(go_at_call 128;go_must(refine(c.o _ (((aa.refl _ w).al _).dr)).mono ?_;rintro e w1 ⟨rfl,d⟩;obtain⟨u,y,z,A,B,C⟩:=bQ (bO ((aa.drew n_ _).tr d i_) id)))
  simp only[Tv,Rf,Ru,Act.put,SO,Sz,SB];go_wp2;go_region;go_wp2;go_ret2;refine⟨rfl,?_⟩;exact((((((aa.refl _ w).al _).dr).tr d i_).st (.inl (eb _)) _|>.st (.inl (eb _)) _).st (.inl (eb _)) _).dr
end Go.Proofs.YtjbkfdeldlajhaaGreatDoor
