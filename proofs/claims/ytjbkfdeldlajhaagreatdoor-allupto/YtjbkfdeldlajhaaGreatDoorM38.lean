import Derived.Test.YtjbkfdeldlajhaaGreatDoorM37
set_option linter.unusedSimpArgs false
namespace Go.Proofs.YtjbkfdeldlajhaaGreatDoor
set_option maxRecDepth 100000
set_option maxHeartbeats 4000000
open Go.RowKit Go.Shelf Go.Proofs.Tryz
open Option renaming none->Y,some->V
open Go.Value renaming int->Z,string->O,slice->J,pointer->X,bool->ao,tuple->bt
open Go.IntKind renaming i64->U
open Go.Obj renaming cells->I
open Go renaming World->ab,Value->ax,Calls->ba
open Go.Ending renaming returned->ay
variable{a b n t:Int}{w W:ab}{c:Bool}{x:bB}{j N:Nat}{F:List Nat}{k:ByteArray}{v:ax}{d:ByteArray->List bF}{L:List an}{g:List ByteArray}{l:List (Int×Int×List ByteArray)}
section
attribute [local go_sem] Oper.semAt_some
def qL(b:Int)(a:Bool)(x:sS):Int:=match x with
 |some (.inr s)=>if s.full=true then 6 else if(s.a:Int)=b then(if a=true then 9 else 0)else 8
 |_=>6
theorem El(R:aF)(d:ByteArray)(w:ab)(h:aq w R)(L:d.size<=10000000000)(hg:gK w)(P:∀s,cA d.data.toList=.ok s->s.full=true):ba prog 52 #[X (V ⟨R.sb,0,Y⟩),O d] w λe w'=>e=ay (Z U 6)/\aa n_ w w':=by
 have a0:=mf_;have M:aa n_ w ((w.alloc (I #[Z U 0] 71)).alloc (I #[J Y 0 0] 114)):=((aa.refl n_ w).al _).al _;have T:QS (ba prog 42 #[O d] ((w.alloc (I #[Z U 0] 71)).alloc (I #[J Y 0 0] 114)) λe z=>∃(F:Bool) (a b:Int) (S:ax) (p j:Int),e=ay (bt #[.agg #[ao F,Z U a,Z U b,S],Z U p,Z U j])/\(j=6\/j=7\/j=0/\F=true)/\(∃o n c,S=J o n c)/\aa n_ ((w.alloc (I #[Z U 0] 71)).alloc (I #[J Y 0 0] 114)) z):=by
  refine(jD d _ L (hg.ai M)).mono ?_;rintro e z ⟨D,r⟩;rcases hr:cA d.data.toList with _|p|s
  ·rw[hr]at D;exact⟨_,_,_,_,_,_,D,.inr (.inl rfl),⟨_,_,_,rfl⟩,r⟩
  ·rw[hr]at D;exact⟨_,_,_,_,_,_,D,.inl rfl,⟨_,_,_,rfl⟩,r⟩
  ·rw[hr]at D;obtain⟨oa,C,rfl,-,-⟩:=D;exact⟨_,_,_,_,_,_,rfl,.inr (.inr ⟨rfl,P s hr⟩),⟨_,_,_,rfl⟩,r⟩
 have a1:=h.lt;clear h hg P L;go_enter_defers func52,ntmps52;go_wp2_with fail;refine T.o.mono ?_;rintro e z ⟨F,a,b,S,p,j,rfl,P,⟨ox,nx,cx,rfl⟩,N⟩;have H:z.heap[w.heap.size]?=V (I #[Z U 0] 71 (0,0)):=(N.block w.heap.size (by simp;omega) id).trans ((Below.heap_alloc _ _ _ (by simp)).trans (az w _));have G:z.heap[w.heap.size+1]?=V (I #[J Y 0 0] 114 (0,0)):=(N.block (w.heap.size+1) (by simp) id).trans (by have:=az (w.alloc (I #[Z U 0] 71)) (I #[J Y 0 0] 114);simpa using this);have Q:w.heap.size+2<=z.heap.size:=by have:=N.size;simp at this;omega
 obtain⟨g,A⟩:∃g,g=z.alloc (I #[ao F,Z U a,Z U b,J ox nx cx] 28):=⟨_,rfl⟩
 have y:aa n_ z g:=by rw[A];exact aa.alloc _ _ _
 have t:QS (g.heap[w.heap.size]?=V (I #[Z U 0] 71 (0,0))):=(y.block w.heap.size (by omega) id).trans H;have m:QS (g.heap[w.heap.size+1]?=V (I #[J Y 0 0] 114 (0,0))):=(y.block (w.heap.size+1) (by omega) id).trans G;have B:QS (aa n_ w g):=(M.tr N i_).tr y i_;have y0:g.cell? ⟨w.heap.size,0,Y⟩=V (Z U 0):=ae t.o 0;have y1:g.frozen? ⟨w.heap.size,0,Y⟩=false:=aj t.o 0;have x0:g.cell? ⟨z.heap.size,0,Y⟩=V (ao F):=by rw[A];exact(ae (az z _) 0).trans rfl
 have a2:w.heap.size<g.heap.size:=by have:=y.size;omega
 have q:=E A;clear H G N T y Q A;rcases P with rfl|rfl|⟨rfl,rfl⟩
 ·go_upto_region 6 with fail;rw[<-q.o];clear q;go_wp2;refine leaves_cons (f:=119) (args:=#[X (V ⟨w.heap.size+1,0,Y⟩),X (V ⟨w.heap.size,0,Y⟩)]) (by simp) (by simp[go_sem]) ?_;have k:=ak (i:=0) t.o (Z U 6);have u:=((aa.setCell g ⟨w.heap.size,0,Y⟩ (Z U 6)).block (w.heap.size+1) (lg m.o) (by simp)).trans m.o;have v:aa n_ w (g.setCell ⟨w.heap.size,0,Y⟩ (Z U 6)):=B.o.st (p:=⟨w.heap.size,0,Y⟩) (.inl (eb _)) _;generalize g.setCell ⟨w.heap.size,0,Y⟩ (Z U 6)=w3 at*;refine(jX (w.heap.size+1) w.heap.size 6 (by omega) _ ?_ ?_).mono ?_
  ·exact ae u 0
  ·exact ae k 0
  rintro e u' l ⟨rfl,rfl,r⟩;have K:l.cell? ⟨w.heap.size,0,Y⟩=V (Z U 6):=r.cell (p:=⟨w.heap.size,0,Y⟩) (ae k 0) id;have x:aa n_ w l:=v.tr r i_;simp[Leaves,settle,results,Tryz.results52,go_sem,K];exact x
 ·go_upto_region 6 with fail;rw[<-q.o];clear q;go_wp2;refine leaves_cons (f:=119) (args:=#[X (V ⟨w.heap.size+1,0,Y⟩),X (V ⟨w.heap.size,0,Y⟩)]) (by simp) (by simp[go_sem]) ?_;have k:=ak (i:=0) t.o (Z U 6);have u:=((aa.setCell g ⟨w.heap.size,0,Y⟩ (Z U 6)).block (w.heap.size+1) (lg m.o) (by simp)).trans m.o;have v:aa n_ w (g.setCell ⟨w.heap.size,0,Y⟩ (Z U 6)):=B.o.st (p:=⟨w.heap.size,0,Y⟩) (.inl (eb _)) _;generalize g.setCell ⟨w.heap.size,0,Y⟩ (Z U 6)=w3 at*;refine(jX (w.heap.size+1) w.heap.size 6 (by omega) _ ?_ ?_).mono ?_
  ·exact ae u 0
  ·exact ae k 0
  rintro e u' l ⟨rfl,rfl,r⟩;have K:l.cell? ⟨w.heap.size,0,Y⟩=V (Z U 6):=r.cell (p:=⟨w.heap.size,0,Y⟩) (ae k 0) id;have x:aa n_ w l:=v.tr r i_;simp[Leaves,settle,results,Tryz.results52,go_sem,K];exact x
 ·go_upto_region 6 with fail;rw[<-q.o];clear q;go_wp2;refine leaves_cons (f:=119) (args:=#[X (V ⟨w.heap.size+1,0,Y⟩),X (V ⟨w.heap.size,0,Y⟩)]) (by simp) (by simp[go_sem]) ?_;have k:=ak (i:=0) t.o (Z U 6);have u:=((aa.setCell g ⟨w.heap.size,0,Y⟩ (Z U 6)).block (w.heap.size+1) (lg m.o) (by simp)).trans m.o;have v:aa n_ w (g.setCell ⟨w.heap.size,0,Y⟩ (Z U 6)):=B.o.st (p:=⟨w.heap.size,0,Y⟩) (.inl (eb _)) _;generalize g.setCell ⟨w.heap.size,0,Y⟩ (Z U 6)=w3 at*;refine(jX (w.heap.size+1) w.heap.size 6 (by omega) _ ?_ ?_).mono ?_
  ·exact ae u 0
  ·exact ae k 0
  rintro e u' l ⟨rfl,rfl,r⟩;have K:l.cell? ⟨w.heap.size,0,Y⟩=V (Z U 6):=r.cell (p:=⟨w.heap.size,0,Y⟩) (ae k 0) id;have x:aa n_ w l:=v.tr r i_;simp[Leaves,settle,results,Tryz.results52,go_sem,K];exact x
theorem vK(R:aF)(d:ByteArray)(a b:Nat)(u:List Rec)(w:ab)(h:aq w R)(a0:d.size<=10000000000)(hg:gK w)(l:cA d.data.toList=.ok ⟨false,a,b,u⟩)(hl:R.af.length<=8)(j:Int)(hj:R.now≠(a:Nat)/\j=8\/(R.now=(a:Nat)/\0<R.af.length)/\j=9):ba prog 52 #[X (V ⟨R.sb,0,Y⟩),O d] w λe w'=>e=ay (Z U j)/\aa n_ w w':=by
 have a4:=mf_;have A:aa n_ w ((w.alloc (I #[Z U 0] 71)).alloc (I #[J Y 0 0] 114)):=((aa.refl n_ w).al _).al _;have HD:=E (jD d _ a0 (hg.ai A));rw[l]at HD;have a5:=h.lt;have a1:=E h;have HJ:=E hj;have HL:=E hl;clear hg l h hj a0 hl;go_enter_defers func52,ntmps52;go_wp2_with fail;refine HD.o.mono ?_;rintro e C ⟨⟨oa,g,rfl,-,-⟩,k1⟩;simp only;generalize u.length=ln;have N:C.heap[w.heap.size]?=V (I #[Z U 0] 71 (0,0)):=(k1.block w.heap.size (by simp;omega) id).trans ((Below.heap_alloc _ _ _ (by simp)).trans (az w _));have M:C.heap[w.heap.size+1]?=V (I #[J Y 0 0] 114 (0,0)):=(k1.block (w.heap.size+1) (by simp) id).trans (by have:=az (w.alloc (I #[Z U 0] 71)) (I #[J Y 0 0] 114);simpa using this);have a3:w.heap.size+2<=C.heap.size:=by have:=k1.size;simp at this;omega
 obtain⟨c,r⟩:∃c,c=C.alloc (I #[ao false,Z U (a:Nat),Z U (b:Nat),J oa ln g] 28):=⟨_,rfl⟩
 have s:aa n_ C c:=by rw[r];exact aa.alloc _ _ _
 have B:aa n_ w c:=(A.tr k1 i_).tr s i_;have q:=a1.o.ai B k_;have x:c.heap[C.heap.size]?=V (I #[ao false,Z U (a:Nat),Z U (b:Nat),J oa ln g] 28 (0,0)):=by rw[r];exact az C _
 have x0:=ae x 0;have x1:=ae x 1;simp at x0 x1;have c0:c.cell? ⟨R.sb,0,Y⟩=V (Z U R.now):=q.cell 0;have c3:c.cell? ⟨R.sb,3,Y⟩=V (.map R.wm):=q.cell 3;have t:QS (∀W,aa n_ c W->(Builtin.len_ #[54] 3 #[.map R.wm]).run prog W=.ok (Z U R.af.length) W):=λW hW=>by have:=(q.ai hW k_).af.cy.length (P:=prog) Tryz.underlying54 3;rw[hO]at this;exact this
 have G:QS (c.heap[w.heap.size]?=V (I #[Z U 0] 71 (0,0))):=(s.block w.heap.size (by omega) id).trans N;have F:QS (c.heap[w.heap.size+1]?=V (I #[J Y 0 0] 114 (0,0))):=(s.block (w.heap.size+1) (by omega) id).trans M;have H:=E B;have L:=E r;generalize R.now=nw at*;generalize R.af.length=wl at*;clear k1 N M s B q x HD r A a3;go_upto_region 8 with fail;rw[<-L.o];go_region;have S:=t.o c.drew (aa.drew _ _);have K:QS (aa n_ w c.drew):=H.o.dr;have o:QS (c.drew.heap[w.heap.size]?=V (I #[Z U 0] 71 (0,0))):=G.o;have n:QS (c.drew.heap[w.heap.size+1]?=V (I #[J Y 0 0] 114 (0,0))):=F.o;have d3:=(aa.drew n_ c).cell c3 id;have y0:c.drew.cell? ⟨w.heap.size,0,Y⟩=V (Z U 0):=ae o.o 0;have y1:c.drew.frozen? ⟨w.heap.size,0,Y⟩=false:=aj o.o 0;clear x0 x1 c0 c3 t G H L F;generalize c.drew=D at*;rcases HJ.o with⟨T,rfl⟩|⟨⟨T,a7⟩,rfl⟩
 case inr=>
  have a6:(0:Int)<(wl:Int):=by omega
  have a2:((a:Int) !=nw)=false:=by simp[T]
  clear T HJ;go_wp2;refine leaves_cons (f:=119) (args:=#[X (V ⟨w.heap.size+1,0,Y⟩),X (V ⟨w.heap.size,0,Y⟩)]) (by simp) (by simp[go_sem]) ?_;have k:=ak (i:=0) o.o (Z U 9);have v:=((aa.setCell D ⟨w.heap.size,0,Y⟩ (Z U 9)).block (w.heap.size+1) (lg n.o) (by simp)).trans n.o;have y:aa n_ w (D.setCell ⟨w.heap.size,0,Y⟩ (Z U 9)):=K.o.st (p:=⟨w.heap.size,0,Y⟩) (.inl (eb _)) _;generalize D.setCell ⟨w.heap.size,0,Y⟩ (Z U 9)=w4 at*;refine(jX (w.heap.size+1) w.heap.size 9 (by omega) _ ?_ ?_).mono ?_
  ·exact ae v 0
  ·exact ae k 0
  rintro e u' m ⟨rfl,rfl,Q⟩;have hb:m.cell? ⟨w.heap.size,0,Y⟩=V (Z U 9):=Q.cell (p:=⟨w.heap.size,0,Y⟩) (ae k 0) id;have z:aa n_ w m:=y.tr Q i_;simp[Leaves,settle,results,Tryz.results52,go_sem,hb];exact z
 case inl=>
  have a2:((a:Int) !=nw)=true:=by simp;exactλe=>T e.symm
  clear T HJ S;go_wp2;refine leaves_cons (f:=119) (args:=#[X (V ⟨w.heap.size+1,0,Y⟩),X (V ⟨w.heap.size,0,Y⟩)]) (by simp) (by simp[go_sem]) ?_;have k:=ak (i:=0) o.o (Z U 8);have v:=((aa.setCell D ⟨w.heap.size,0,Y⟩ (Z U 8)).block (w.heap.size+1) (lg n.o) (by simp)).trans n.o;have y:aa n_ w (D.setCell ⟨w.heap.size,0,Y⟩ (Z U 8)):=K.o.st (p:=⟨w.heap.size,0,Y⟩) (.inl (eb _)) _;generalize D.setCell ⟨w.heap.size,0,Y⟩ (Z U 8)=w4 at*;refine(jX (w.heap.size+1) w.heap.size 8 (by omega) _ ?_ ?_).mono ?_
  ·exact ae v 0
  ·exact ae k 0
  rintro e u' m ⟨rfl,rfl,Q⟩;have hb:m.cell? ⟨w.heap.size,0,Y⟩=V (Z U 8):=Q.cell (p:=⟨w.heap.size,0,Y⟩) (ae k 0) id;have z:aa n_ w m:=y.tr Q i_;simp[Leaves,settle,results,Tryz.results52,go_sem,hb];exact z
def aX.ei(A:aX)(x:sS):Int:=qL A.now (decide (0<A.af.length)) x
def aX.fO(A:aX)(x:sS):aX:=match x with
 |some (.inr s)=>if A.ei x=0 then A.grown (s.aW.map bX) (s.b:Nat)else A
 |_=>A
theorem Ek{b:Nat}{A:aX}(c:ByteArray)(h:ml N w b A F)(y:N<=100000000000)(i:c.size<=10000000000)(r:gK w):ba prog 52 #[X (V ⟨b,0,Y⟩),O c] w λe l=>e=ay (Z U (A.ei (cA c.data.toList)))/\gT (N+1000) b (A.fO (cA c.data.toList)) F w l:=by
 have q:=h;obtain⟨R,n,rfl,rfl,rfl⟩:=h;have x:R.gE.af.length=R.af.length:=by simp[aF.gE]
 have f:(∀s,cA c.data.toList=.ok s->s.full=true)->R.gE.ei (cA c.data.toList)=6->R.gE.fO (cA c.data.toList)=R.gE->ba prog 52 #[X (V ⟨R.sb,0,Y⟩),O c] w λe l=>e=ay (Z U (R.gE.ei (cA c.data.toList)))/\gT (N+1000) R.sb (R.gE.fO (cA c.data.toList)) R.fp w l:=λz g j=>by rw[g,j];refine(El R c w n.st i r z).mono ?_;rintro e l ⟨rfl,o⟩;exact⟨rfl,q.after (by omega) o⟩
 rcases hx:cA c.data.toList with _|p|s
 ·rw[hx]at f;exact f (λs h=>by cases h) rfl rfl
 ·rw[hx]at f;exact f (λs h=>by cases h) rfl rfl
 ·obtain⟨m,a,t,d⟩:=s;cases m with
  |true=>
   rw[hx]at f;exact f (λs h=>by cases h;rfl) rfl (by simp[aX.fO,aX.ei,qL])
  |false=>
   have u:R.gE.ei (.ok ⟨false,a,t,d⟩)=if((a:Nat):Int)=R.now then(if 0<R.af.length then 9 else 0)else 8:=by unfold aX.ei qL;rw[x];simp[aF.gE]
   by_cases k:R.now=(a:Nat)
   ·by_cases v:0<R.af.length
    ·have g:R.gE.ei (.ok ⟨false,a,t,d⟩)=9:=by rw[u,fy k.symm,fy v]
     have j:R.gE.fO (.ok ⟨false,a,t,d⟩)=R.gE:=by unfold aX.fO;simp only[g];rfl
     rw[g,j];refine(vK R c a t d w n.st i r hx n.cD.dm 9 (.inr ⟨⟨k,v⟩,rfl⟩)).mono ?_;rintro e l ⟨rfl,o⟩;exact⟨rfl,q.after (by omega) o⟩
    ·have g:R.gE.ei (.ok ⟨false,a,t,d⟩)=0:=by rw[u,fy k.symm,el v]
     have j:R.gE.fO (.ok ⟨false,a,t,d⟩)=R.gE.grown (d.map bX) (t:Nat):=by unfold aX.fO;simp only[g];rfl
     rw[g,j];exact NB c a t d q y i r hx k (Sg.1 (by omega))
   ·have g:R.gE.ei (.ok ⟨false,a,t,d⟩)=8:=by rw[u,el (λe=>k e.symm)]
    have j:R.gE.fO (.ok ⟨false,a,t,d⟩)=R.gE:=by unfold aX.fO;simp only[g];rfl
    rw[g,j];refine(vK R c a t d w n.st i r hx n.cD.dm 8 (.inl ⟨k,rfl⟩)).mono ?_;rintro e l ⟨rfl,o⟩;exact⟨rfl,q.after (by omega) o⟩
end
theorem Nc{a:List bF}{L:Int}(d:dP a)(h:L<=t):cX (a.drop (cO a L)) t=cX a t\/(cX (a.drop (cO a L)) t=Y/\∃x,cX a t=V x/\x.aO=true/\x.aG<=L):=by
 have o:=Nl h d;have m:=ri a t;have l:=ri a L;have g:cO a L<=lN a L:=by
  unfold cO;split
  ·split<;>omega
  ·omega
 by_cases n:cO a L<lN a t
 ·left;unfold cX;rw[DO d (by omega),el (by omega),el (by omega),Sa];congr 1;omega
 ·by_cases k:cO a L=0
  ·left;rw[k,SD]
  ·right;have i:lN a L=lN a t:=by omega
   have j:cO a L=lN a t:=by omega
   have f:lN a t-1<a.length:=by omega
   have e:cX a L=V a[lN a t-1]:=by unfold cX;rw[i,el (by omega),ec f]
   have b:cX a t=V a[lN a t-1]:=by unfold cX;rw[el (by omega),ec f]
   refine⟨?_,_,b,?_,(xO (t:=L) d).1 _ f (by omega)⟩
   ·unfold cX;rw[DO d (by omega),fy (by omega)]
   ·have c:=j;unfold cO at c;rw[e]at c;simp only at c;split at c
    ·assumption
    ·omega
theorem Gi{A:aX}(h:yK A)(j:a<=b)(d:A.least<=(if c=true then b else a))(k:ByteArray):fD (bB.new c a b) A.dX.aE k=fD (bB.new c a b) A.aE k:=by
 have g:(bB.new c a b).to=b:=rfl;have f:A.dX.aE k=(A.aE k).drop (cO (A.aE k) A.least):=rfl;have l:A.least<=b:=by cases c<;>simp at d<;>omega
 unfold fD;rw[g,f];rcases Nc (h.rising k) l with e|⟨e,x,n,m,o⟩
 ·rw[e]
 ·rw[e,n]
  have:kC (bB.new c a b) x=false:=by
   cases c with
   |true=>simp[kC,bB.new,m]
   |false=>
    simp at d;have i:kC (bB.new false a b) x=decide (a<x.aG):=rfl;rw[i];exact kg (by omega)
  simp[nC,this]
theorem pV{a:ByteArray->List bF}(h:(fD x a k).isSome=true):a k≠[]:=λe=>by unfold fD at h;rw[e]at h;simp[cX,lN,nC]at h
theorem tU{j i:List ByteArray}{g f:ByteArray->List bF}(d:bh j)(o:bh i)(m:∀k,g k≠[]->k∈j)(n:∀k,f k≠[]->k∈i)(h:∀k,fD (bB.new c a b) g k=fD (bB.new c a b) f k):cK j g (bB.new c a b)=cK i f (bB.new c a b):=by unfold cK;have l:(bB.new c a b).next=ByteArray.empty:=rfl;rw[l,nN,nN,SD,SD];have e:fD (bB.new c a b) g=fD (bB.new c a b) f:=funext h;rw[e];exact oI d o (λk d=>m k (pV (by rw[e];exact d))) (λk d=>n k (pV d))
theorem xG{A:aX}(h:yK A):bh A.dX.keys/\∀k,A.dX.aE k≠[]->k∈A.dX.keys:=by refine⟨h.bP.sublist qs,λk b=>?_⟩;have a:0<((A.aE k).drop (cO (A.aE k) A.least)).length:=Rq.2 b;rw[mR]at a;refine kB.2 ⟨(h.keys k).2 (λe=>by rw[e]at a;simp at a),mI (by omega)⟩
theorem uz{A:aX}(h:yK A)(d:a<=b)(e:A.least<=(if c=true then b else a)):cK A.dX.keys A.dX.aE (bB.new c a b)=cK A.keys A.aE (bB.new c a b):=
 tU (xG h).1 h.bP (xG h).2 (λk f=>(h.keys k).2 f) (λk=>Gi h d e k)
theorem zQ{c:ByteArray->List bF}{f:Bool}(i:dP (d k))(h:c k=d k\/∃v:bF,c k=d k++[v]/\b<v.aG):fD (bB.new f a b) c k=fD (bB.new f a b) d k:=by
 have g:(bB.new f a b).to=b:=rfl;have e:cX (c k) b=cX (d k) b:=by
  rcases h with e|⟨v,e,j⟩
  ·rw[e]
  ·rw[e];exact NH i j
 unfold fD;rw[g,e]
theorem Bg{A:aX}(h:yK A)(g:b<=A.now)(n:Int)(e:List (ByteArray×bF)):cK (A.nL n e).keys (A.nL n e).aE (bB.new c a b)=cK A.keys A.aE (bB.new c a b):=by
 refine tU (eY _ h.bP) h.bP (λk d=>?_) (λk d=>(h.keys k).2 d) (λk=>zQ (h.rising k) ?_)
 ·show k∈ib A.keys (e.map (·.1));rw[gy];simp only[aX.nL]at d;split at d
  ·rename_i f;exact .inr ((ff e k).1 f)
  ·exact .inl ((h.keys k).2 d)
 ·simp only[aX.nL];split
  ·exact .inr ⟨_,rfl,by show b<A.now+1;omega⟩
  ·exact .inl rfl
theorem DF{A:aX}(h:yK A)(n:b<=A.now){l:List an}(m:bh (l.map an.key))(o:A.now<t):cK (A.grown l t).keys (A.grown l t).aE (bB.new c a b)=cK A.keys A.aE (bB.new c a b):=by
 refine tU (eY _ h.bP) h.bP (λk d=>?_) (λk d=>(h.keys k).2 d) (λk=>zQ (h.rising k) ?_)
 ·show k∈ib A.keys (l.map an.key);rw[gy];simp only[aX.grown]at d;split at d
  ·rename_i g;exact .inr ((bA _ _).1 g)
  ·exact .inl ((h.keys k).2 d)
 ·simp only[aX.grown];split
  ·rename_i g;refine .inr ⟨_,rfl,?_⟩;obtain⟨r,f,e⟩:=fI.1 ((bA _ _).1 g);obtain⟨j,i,rfl⟩:=Sb.1 f;rw[<-e,vu m i];show b<t;omega
  ·exact .inl rfl
theorem uk(c:Bool)(a b:Nat)(l:List an):(bI c a b l).length=(l.length+3)/4+2:=by unfold bI;simp[gV]
theorem yB(c:Bool)(a b:Nat)(l:List an)(d:j<(l.length+3)/4):(bI c a b l)[j+1]?=V (pj l j):=by unfold bI;rw[tI,List.getElem?_cons_succ,Rb (by rw[gV];exact d)];unfold dZ;rw[vk,List.getElem?_range d];rfl
theorem AT(c:Bool)(a b:Nat)(l:List an):(bI c a b l)[(l.length+3)/4+1]?=V (aU (iO (lz 0 (cS c a b++bW (l.map an.bS))) l.length)):=by unfold bI;rw[tI,List.getElem?_cons_succ,Rl (by rw[gV];exact eb _),gV,RZ];rfl
theorem Mz{a b i:Nat}{T:List UInt8}(h:Bs L c a b i T x):(bI c a b L)[i]?=V (aU (pH x ((L.filter (λr=>!de r.key x.next)).take 4)).1)/\((pH x ((L.filter (λr=>!de r.key x.next)).take 4)).2.1=decide (i+1=(bI c a b L).length)):=by
 rw[uk];cases i with
 |zero=>
  obtain⟨rfl,rfl⟩:=h.first rfl;have e:pH (bB.new c a b) ((L.filter (λr=>!de r.key (bB.new c a b).next)).take 4)=(cS c a b,false,{bB.new c a b with jj:=true,sum:=(lz 0 (cS c a b):Nat)}):=by unfold pH;rw[fy (show(bB.new c a b).jj=false from rfl)];rfl
  rw[e];exact⟨rfl,(kg (by omega)).symm⟩
 |succ i=>
  have m:=h.jj (by omega);have n:=h.less (by omega);have d:=h.text (by omega);have o:=h.sum (by omega);have g:=h.count (by omega);have j:=h.rest (by omega);rw[Rn]at n d g j;rw[j];unfold pH;rw[el (by rw[m];simp)];by_cases p:L.length<=4*i
  ·have e:L.drop (4*i)=[]:=Sj p;have q:i=(L.length+3)/4:=by omega
   rw[e,List.take_nil,fy rfl];refine⟨?_,(mI (by omega)).symm⟩;rw[e]at d;simp only[RY]at d;have k:bW []=[]:=by rw[lS]
   rw[k,Kp]at d;have l:min (4*i) L.length=L.length:=by omega
   rw[q,AT,<-d,o,g,l];rfl
  ·have f:(L.drop (4*i)).take 4≠[]:=λe=>by have:=Rc List.length e;simp at this;omega
   rw[el f];refine⟨?_,(kg (by omega)).symm⟩;rw[yB _ _ _ _ (by omega)];rfl
structure uD(A:aX)(x:bB)(ps:List ByteArray):Prop where
 ex:∃(a b i:Nat) (T:List UInt8),Bs (cK A.keys A.aE (bB.new x.full a b)) x.full a b i T x/\ps=(bI x.full a b (cK A.keys A.aE (bB.new x.full a b))).drop i/\i<(bI x.full a b (cK A.keys A.aE (bB.new x.full a b))).length/\(b:Int)<=A.now/\a<=b/\b<=1000000000/\(cK A.keys A.aE (bB.new x.full a b)).length<=1000
theorem uD.same{A c:aX}(h:uD A x g)(p:A.now<=c.now)(o:∀a b:Nat,(b:Int)<=A.now->a<=b->x.gY=a->x.to=b->cK c.keys c.aE (bB.new x.full a b)=cK A.keys A.aE (bB.new x.full a b)):uD c x g:=by obtain⟨a,b,i,T,d,j,k,l,f,m,n⟩:=h.ex;have e:=o a b l f d.aH d.PR;exact⟨a,b,i,T,by rw[e];exact d,by rw[e];exact j,by rw[e];exact k,by omega,f,m,by rw[e];exact n⟩
theorem uD.lQ{A:aX}{d:List ByteArray}(h:uD A x d)(g:yK A)(c:A.least<=x.lQ):uD A.dX x d:=by refine h.same (ya _) (λa b j i e f=>uz g (by omega) ?_);unfold bB.lQ at c;rw[e,f]at c;exact c
theorem GO{α:Type}{f:α->Option α}:∀{l:List α},(∀r∈l,f r=V r)->l.filterMap f=l
 |[],_=>rfl
 |a::l,h=>by rw[TA,h a (by simp),GO (λr b=>h r (by simp[b]))]
theorem Ho(i:eD L)(f:bh g)(l:∀k,d k≠[]->k∈g)(h:∀k,cV L k=fD (bB.new c a b) d k):L=cK g d (bB.new c a b):=by
 have e:(L.map an.key).filterMap (cV L)=L:=by rw[List.filterMap_map];exact GO (λr j=>jE i j)
 rw[<-e];unfold cK;rw[show(bB.new c a b).next=ByteArray.empty from rfl,nN,SD,funext h];exact oI (Rw.2 i) f (λk f=>(nX L k).1 (by rw[h];exact f)) (λk f=>l k (pV f))
theorem ik.at_{A:aX}{B:aZ}(h:ik A B)(b:Int)(k:ByteArray):cX (A.aE k) b=((Bi B.all b k).filter (λv=>!v.bK)).getLast?.map bq.eW:=by rw[h.aE k,qO (h.all.mh k),h.all.Hr b k,TM]
theorem DH{v:bq}(a:v.r.key=k):nC x k (V v.eW)=if kC x v.eW=true then V v.r else Y:=by subst a;rfl
theorem ik.Qy{A:aX}{B:aZ}(h:ik A B)(d:B.aK<=b):bc (aT B.all (-1) b)=cK A.keys A.aE (bB.new true a b):=by
 refine Ho (ux B.all b []) h.lq (λk f=>(h.keys k).2 f) (λk=>?_);have e:=Dn B.all b (rs:=[]) .nil k;have c:=h.all.last d k;unfold Bi at c;show cV (iL B.all b []) k=_;rw[e,show cV [] k=Y from rfl,Option.none_or,c];unfold fD;rw[show(bB.new true a b).to=b from rfl,h.at_ b k];unfold Bi;cases hl:(((B.all.filter (Bp (-1) b)).filter (λv=>decide (v.r.key=k))).filter (λv=>!v.bK)).getLast? with
 |none=>rfl
 |some v=>
  have g:=(kB.1 (kB.1 (SF hl)).1).2;rw[uW,uW,DH (by simpa using g)];show _=if(!v.r.aO)=true then V v.r else Y
  cases hg:v.r.aO<;>simp[Option.filter,hg]
theorem Fl{f:List bq}(h:f.Pairwise (λu v=>u.aG<v.aG)):(f.filter (λv=>decide (a<v.aG))).getLast?=f.getLast?.filter (λv=>decide (a<v.aG)):=by
 rcases Sw f with rfl|⟨b,v,rfl⟩
 ·rfl
 ·rw[Sx]at*;rw[SE,yv];by_cases c:a<v.aG
  ·simp[c,Option.filter]
  ·have e:b.filter (λv=>decide (a<v.aG))=[]:=RR.2 (λu d=>by have:=(Rg.1 h).2.2 u d v (by simp);simp;omega)
   simp[c,e,Option.filter]
theorem ik.Qx{A:aX}{B:aZ}(h:ik A B)(s:B.aK<=a):aT B.all a b=cK A.keys A.aE (bB.new false a b):=by
 refine Ho (nV bq.r _ List.Pairwise.nil) h.lq (λk m=>(h.keys k).2 m) (λk=>?_);have e:=rU bq.r k (B.all.filter (Bp a b)) [];unfold aT;rw[e,show cV [] k=Y from rfl,Option.or_none];unfold fD;rw[show(bB.new false a b).to=b from rfl,h.at_ b k];have j:(B.all.filter (Bp a b)).filter (λv=>decide (v.r.key=k))=((Bi B.all b k).filter (λv=>!v.bK)).filter (λv=>decide (a<v.aG)):=by
  unfold Bi;rw[RN,RN,RN,RN];apply Tb;intro v d;have q:=(h.all.fH v d).1;have f:=h.all.bK v d;have r:=h.mr;unfold Bp;by_cases c:a<v.aG
  ·have i:decide (-1<v.aG)=true:=by simp;omega
   have l:v.bK=false:=by
    cases ht:v.bK with
    |false=>rfl
    |true=>have:=(f ht).1;omega
   simp[c,i,l]
  ·simp[c]
 rw[j,Fl]
 ·cases hl:((Bi B.all b k).filter (λv=>!v.bK)).getLast? with
  |none=>rfl
  |some v=>
   have n:=(qg.1 (kB.1 (SF hl)).1).2.2.2;rw[uW,DH n];show _=if decide (a<v.aG)=true then V v.r else Y
   by_cases d:a<v.aG<;>simp[Option.filter,d]
 ·have f:=h.all.rising.sublist ((qs.trans (qs.trans qs)):((Bi B.all b k).filter (λv=>!v.bK)).Sublist B.all);refine f.imp_of_mem ?_;intro x y o p g;exact g ((qg.1 (kB.1 o).1).2.2.2.trans (qg.1 (kB.1 p).1).2.2.2.symm)
theorem Tryz.LX:(prog.info? 193).map (λi=>(i.zero,i.size,i.bytes))=V (V (.agg #[Z U 0,Z U 0,J Y 0 0]),3,40):=by kernel_rfl
theorem rL{g a:Nat}{l:List ko}(h:Row w 193 3 (J (V ⟨g,0,Y⟩) l.length a) l.length (l.flatMap ko.cells))(b:aa n_ w W){k:Nat}{x:ko}(i:l[k]?=V x):W.cell? ⟨g,k*3,Y⟩=V (Z U x.id)/\W.cell? ⟨g,k*3+1,Y⟩=V (Z U x.least)/\W.cell? ⟨g,k*3+2,Y⟩=V x.sl:=by obtain⟨c,rfl⟩:=ej.1 i;have d:=Row.elem ko.len h k c 0 (by omega);have e:=Row.elem ko.len h k c 1 (by omega);have f:=Row.elem ko.len h k c 2 (by omega);exact⟨b.cell (p:=⟨g,k*3,Y⟩) d id,b.cell (p:=⟨g,k*3+1,Y⟩) e id,b.cell (p:=⟨g,k*3+2,Y⟩) f id⟩
theorem Ki{G:List Nat}{b:List ByteArray}(h:pd G w v b):∃o n c,v=J o n c:=by
 rcases h with⟨-,e,a,rfl⟩|⟨g,d,a,-,rfl,-⟩
 ·exact⟨_,_,_,rfl⟩
 ·exact⟨_,_,_,rfl⟩
def aM.copied(R:aM)(v:ax)(l:List ko):aM:={R with vc:=v,aC:=l}
theorem aY.zo{R:aM}{l:List ko}(h:aY w R)(i:aa (λk=>k=R.b\/R.vc.ownBlock=V k) w W)(p:W.heap[R.b]?=V (I (aM.top {R with vc:=v,aC:=l,aB:=n}) 40 (0,0)))(o:Row W 193 3 v l.length (l.flatMap ko.cells))(f:∀g,v.ownBlock=V g->R.vc.ownBlock=V g\/w.heap.size<=g)(m:∀x∈l,x∈R.aC\/(pd x.uG W x.sl x.pieces/\∀k∈x.uG,bD W k 9/\w.heap.size<=k)):kn 193 R {R with vc:=v,aC:=l,aB:=n} w W:=by
 have e:aa (λk=>k=R.b\/(k∈R.fp/\bD w k 193)) w W:=i.mono (λk _ c=>by
  rcases c with rfl|c
  ·exact .inl rfl
  ·exact .inr ⟨R.Fp c,h.aC.aR c⟩)
 obtain⟨q,r,s,t,y,u⟩:=h.rows 193 (e.mono (λk _ c=>c.imp id And.right));refine⟨⟨p,q (by decide),r (by decide),s (by decide),t (by decide),o,λx j=>?_⟩,rfl,e,λk d=>?_⟩
 ·rcases m x j with a|a
  ·exact u (by decide) x a
  ·exact⟨a.1,λk i=>(a.2 k i).1⟩
 simp only[aM.fp,cT,cQ,ns,Rx]at d⊢;rcases d with a|((((a|a)|a)|a)|a)|⟨x,j,a⟩
 ·exact .inl (.inl a)
 ·exact .inl (.inr (.inl (.inl (.inl (.inl (.inl a))))))
 ·exact .inl (.inr (.inl (.inl (.inl (.inl (.inr a))))))
 ·exact .inl (.inr (.inl (.inl (.inl (.inr a)))))
 ·rcases f k a with b|b
  ·exact .inl (.inr (.inl (.inl (.inr b))))
  ·exact .inr b
 ·exact .inl (.inr (.inl (.inr a)))
 ·rcases m x j with b|b
  ·exact .inl (.inr (.inr ⟨x,b,a⟩))
  ·exact .inr (b.2 k a).2
def lV(l:List ko)(n:Int):Bool:=l.any (λx=>decide (x.id=n))
def dK(l:List ko)(n:Int):List ko:=l.filter (λx=>decide (x.id≠n))
def sG(l:List ko)(n:Int):Int:=if lV l n=true then 0 else 1
theorem zO(R:aM)(n:Int)(w:ab)(h:aY w R)(hl:R.aC.length<=4):ba prog 51 #[X (V ⟨R.b,0,Y⟩),Z U n] w λe w'=>e=ay (Z U (sG R.aC n))/\∃v,kn 193 R (R.copied v (dK R.aC n)) w w':=by
 obtain⟨oa,ca,D,hm,sa⟩:=h.aC.form;have c6:w.cell? ⟨R.b,6,Y⟩=V (J oa R.aC.length ca):=(h.cell 6).trans (by rw[<-D];rfl);have r:=h.aC;rw[D]at r;have HR:=E r;have SA:=E sa;have HH:=E h;have Q:=E hl;have a5:=h.blt;obtain⟨i0,hi,a2,a3,a4⟩:=info_parts Tryz.LX;have P:QS (∀W,aa n_ w W->W.frozen? ⟨R.b,6,Y⟩=false/\W.heap[R.b]?=V (I R.top 40 (0,0))):=λW hW=>⟨(h.ai hW k_).frozen 6,(h.ai hW k_).top⟩;have G:QS (∀x∈R.aC,∃o n c,x.sl=J o n c):=λx t=>Ki (h.pieces x t).1;unfold maxLen at hm;obtain⟨l,C⟩:∃l,l=R.aC:=⟨_,rfl⟩
 have S:=E C;rw[<-C]at c6 HR SA Q hm hl G⊢;clear h D r sa C;go_enter func51,ntmps51;go_wp2_with fail;go_loopw [5,6,7] (λv f i wr=>∃j:Nat,j<=l.length/\i=Z U j/\f=ao (lV (l.take j) n)/\Made 193 3 ko.cells w wr v (dK (l.take j) n)) (λ_ _ i _=>l.length-(intOf i).toNat)
 case atStart=>exact⟨0,eL _,rfl,rfl,Made.nil (aa.refl _ _)⟩
 case round=>
  obtain⟨j,hj,rfl,rfl,s⟩:=hrel;obtain⟨ob,cb,rfl,-,-⟩:=s.row.form;have d6:=s.keep.cell (p:=⟨R.b,6,Y⟩) c6 id;have F:=E s;clear s;have a7:(dK (l.take j) n).length<=j:=mA (Rp _ _) (wj _ _);by_cases a1:j<l.length
  ·obtain⟨g,rfl⟩:=SA.o (by omega);obtain⟨x,t⟩:∃x,l[j]?=V x:=⟨l[j],ec a1⟩
   obtain⟨e0,e1,e2⟩:=rL HR.o F.o.keep t;obtain⟨ox,nx,cx,z⟩:=G.o x (hH t);rw[z]at e2;have u:QS (lV (l.take (j+1)) n=(lV (l.take j) n||decide (x.id=n))):=by show _=_;rw[eo t];simp[lV]
   have y:QS (dK (l.take (j+1)) n=dK (l.take j) n++(if x.id=n then []else [x])):=by show _=_;rw[eo t];unfold dK;rw[yv];by_cases e:x.id=n<;>simp[e]
   generalize hfb:lV (l.take j) n=fb at*;generalize hou:dK (l.take j) n=out at*;by_cases e:x.id=n
   ·have A:QS (lV (l.take (j+1)) n=true):=by show _=_;rw[u.o];simp[e]
    have B:QS (dK (l.take (j+1)) n=out):=by show _=_;rw[y.o,fy e,Kp]
    rw[e]at e0;clear t u y hfb hou e z;go_wp2;exact⟨⟨j+1,by omega,by go_num,by rw[A.o],by rw[B.o];exact F.o⟩,by simp only[intOf];omega⟩
   ·have A:QS (lV (l.take (j+1)) n=fb):=by show _=_;rw[u.o];simp[e]
    have B:QS (dK (l.take (j+1)) n=out++[x]):=by show _=_;rw[y.o,el e]
    have a6:(x.id==n)=false:=mK.2 e;have a0:QS (x.cells=[Z U x.id,Z U x.least,J ox nx cx]):=by show [_,_,x.sl]=_;rw[z]
    clear t u y hfb hou e z;generalize x.id=xi at*;generalize x.least=xl at*;go_wp2_with(first|(at_builtin;go_must(refine aL _ rfl _ _ 38 rfl 193 i0 _ 3 40 Tryz.underlying38 hi a2 a3 a4 rfl (J ob out.length cb) out.length _ rfl (F.o.row.ai (aa.alloc n_ wr _) k_) ⟨wr.heap.size,0,Y⟩ 1 1 [Z U xi,Z U xl,J ox nx cx] rfl rfl (br wr #[Z U xi,Z U xl,J ox nx cx] _) (by simp[Value.oneCell']) (by have:=Q.o;unfold maxLen;omega) (by have:=Q.o;omega) ?_;intro v' w1 b q _ H;obtain⟨g1,c1,rfl⟩:=b.succ;have HN:=E (F.o.push (a:=x) (aa.alloc n_ wr _) (by rw[a0.o];exact b) q H);clear b q H))|fail)
    exact⟨⟨j+1,by omega,by go_num,by rw[A.o],by rw[B.o];exact HN.o.slice (by simp)⟩,by simp only[intOf];omega⟩
  ·have HT:QS (l.take j=l):=by show _=_;exact ep (by omega)
   obtain⟨f6,K⟩:=P.o _ F.o.keep;have N:=E K;have d:QS (kn 193 R (R.copied (J ob (dK (l.take j) n).length cb) (dK l n)) w (wr.setCell ⟨R.b,6,Y⟩ (J ob (dK (l.take j) n).length cb))):=by
    have s:=F.o;rw[HT.o]at s;rw[HT.o];refine aY.zo (n:=R.aB) HH.o ?_ ?_ ?_ (λg hg=>.inr (s.own g hg)) (λx t=>.inl (by rw[<-S.o];exact(kB.1 t).1))
    ·exact(s.keep.mono (T:=λk=>k=R.b\/R.vc.ownBlock=V k) (λ_ _ h=>h.elim)).tr (aa.setCell _ _ _) (λk h=>.inl h)
    ·rw[ak N.o];rfl
    ·exact s.row.ai (aa.setCell _ _ _) (λg hg e=>by have:=s.own g hg;have e':g=R.b:=e;omega)
   have HF:QS (lV (l.take j) n=lV l n):=by show _=_;rw[HT.o]
   clear K;cases hin:lV l n with
   |true=>
    have L:lV (l.take j) n=true:=HF.o.trans hin;have M:QS (sG l n=0):=E (fy hin);rw[L];clear L hin;generalize (dK (l.take j) n).length=m at*;go_wp2;go_ret;exact⟨fV M.o.symm,_,d.o⟩
   |false=>
    have L:lV (l.take j) n=false:=HF.o.trans hin;have M:QS (sG l n=1):=E (el (by rw[hin];simp));rw[L];clear L hin;generalize (dK (l.take j) n).length=m at*;go_wp2;go_ret;exact⟨fV M.o.symm,_,d.o⟩
section
attribute [local go_sem] Oper.semAt_some
def ko.less(x:ko)(v:ax)(a:List ByteArray):ko:=⟨x.id,x.least,v,x.uG,a⟩
theorem mem_set{α:Type}{l:List α}{a x:α}(h:x∈l.set j a):x=a\/x∈l:=by
 rcases St h with h|h
 ·exact .inr h
 ·exact .inl h
theorem aY.Kj{R:aM}{g q:Nat}{x:ko}{p:List ByteArray}(h:aY w R)(u:R.vc=J (V ⟨g,0,Y⟩) R.aC.length q)(A:R.aC[j]?=V x)(D:pd x.uG w v p):kn 193 R (R.copied R.vc (R.aC.set j (x.less v p))) w (w.setCell ⟨g,j*3+2,Y⟩ v):=by
 have c:=h.aC;rw[u]at c;have f:R.vc.ownBlock=V g:=by rw[u];rfl
 have d:=c.setAt (j*3+2) v;rw[rT ko.len v (x.less v p) R.aC j 2 x A (by omega) rfl]at d;have i:aa (λk=>k=R.b\/(k∈R.fp/\bD w k 193)) w (w.setCell ⟨g,j*3+2,Y⟩ v):=(aa.setCell w ⟨g,j*3+2,Y⟩ v).mono (λk _ e=>by have r:k=g:=e;rw[r];exact .inr ⟨R.Fp f,h.aC.aR f⟩)
 obtain⟨G,H,K,L,-,B⟩:=h.rows 193 (i.mono (λk _ C=>C.imp id And.right));have t:g≠R.b:=λe=>by have b:=h.aC.aR f;rw[e]at b;exact b.ne (by decide) ⟨_,h.top⟩
 have l:=hH A;have o:(w.setCell ⟨g,j*3+2,Y⟩ v).heap[R.b]?=V (I (R.copied R.vc (R.aC.set j (x.less v p))).top 40 (0,0)):=((aa.setCell w ⟨g,j*3+2,Y⟩ v).block R.b (lg h.top) (λe=>t e.symm)).trans h.top;refine⟨⟨o,G (by decide),H (by decide),K (by decide),L (by decide),?_,λy m=>?_⟩,rfl,i,λk n=>.inl ?_⟩
 ·show Row _ _ 3 R.vc (R.aC.set j (x.less v p)).length _;rw[u,TG];exact d
 ·rcases mem_set m with rfl|m
  ·obtain⟨M,F⟩:=B (by decide) x l;refine⟨?_,F⟩;have a:=(h.pieces x l).2;exact D.ai (λk s=>i.block k (a k s).lt (by
    have z:bD w R.b 40:=⟨_,h.top⟩
    rintro(e|⟨-,e⟩)
    ·rw[<-e]at z;exact(a k s).ne (e':=40) (by decide) z
    ·exact(a k s).ne (e':=193) (by decide) e))
  ·exact B (by decide) y m
 ·simp only[aM.copied,aM.fp,cT,cQ,ns,Rx]at n⊢;rcases n with b|b|⟨y,m,b⟩
  ·exact .inl b
  ·exact .inr (.inl b)
  ·rcases mem_set m with rfl|m
   ·exact .inr (.inr ⟨x,l,b⟩)
   ·exact .inr (.inr ⟨y,m,b⟩)
theorem wL{n:Int}{y:ko}(b:y.id=n):∀{l:List ko} {k:Nat} {x:ko},l[k]?=V x->x.id=n->dK (l.set k y) n=dK l n
 |[],k,x,h,_=>by simp at h
 |a::l,0,x,h,hx=>by simp at h;subst h;simp[dK,hx,b]
 |a::l,k+1,x,h,hx=>by have ih:=wL b (l:=l) (k:=k) (by simpa using h) hx;unfold dK at ih⊢;rw[Sz,RS,RS,ih]
def aM.AO(R:aM)(j:Nat)(x:ko)(n:Int)(a:List ByteArray)(v:ax):aM:=if a=[]then R.copied v (dK R.aC n)else R.copied R.vc (R.aC.set j (x.less v a))
theorem Fv(R:aM)(n:Int)(j:Nat)(x:ko)(p:ByteArray)(f:List ByteArray)(w:ab)(h:aY w R)(hl:R.aC.length<=4)(N:R.aC[j]?=V x)(a4:x.id=n)(hb:∀i y,i<j->R.aC[i]?=V y->y.id≠n)(M:x.pieces=p::f):ba prog 115 #[X (V ⟨R.b,0,Y⟩),Z U n] w λe w'=>e=ay (bt #[O p,ao (decide (f.length=0)),Z U 0])/\∃v,kn 193 R (R.AO j x n f v) w w':=by
 obtain⟨a0,b4⟩:=ej.1 N;obtain⟨oa,ca,d,hm,sa⟩:=h.aC.form;obtain⟨g,rfl⟩:=sa (by omega);have c6:w.cell? ⟨R.b,6,Y⟩=V (J (V ⟨g,0,Y⟩) R.aC.length ca):=(h.cell 6).trans (by rw[<-d];rfl);have c:=h.aC;rw[d]at c;have u:=hH N;have C:=(h.pieces x u).1;obtain⟨q,b,a,H,a3,b7,b2,D⟩:∃q b a,q∈x.uG/\x.sl=J (V ⟨q,b,Y⟩) (f.length+1) a/\f.length+1<=a/\a<=maxLen/\∀i (h:i<x.pieces.length),w.cell? ⟨q,b+i,Y⟩=V (O x.pieces[i]):=by
  rcases C with⟨s,-⟩|⟨q,b,a,s,h2,h3,h4,h5⟩
  ·rw[M]at s;cases s
  ·rw[M]at h2 h3;exact⟨q,b,a,s,h2,h3,h4,h5⟩
 have b3:w.cell? ⟨q,b,Y⟩=V (O p):=by have:=D 0 (by rw[M];simp);simp only[M,Tw]at this;exact this
 have B:pd x.uG w (J (if a=1 then V ⟨q,b,Y⟩else V ⟨q,b+1,Y⟩) f.length (a-1)) f:=by
  by_cases b1:a=1
  ·have a2:f=[]:=Sg.1 (by omega);exact .inl ⟨a2,_,_,by rw[a2];rfl⟩
  rw[el b1];refine .inr ⟨q,b+1,a-1,H,rfl,by omega,by omega,λi hi=>?_⟩;have:=D (i+1) (by rw[M];simp;omega);simp only[M,Rf]at this;rw[show b+1+i=b+(i+1) by omega];exact this
 obtain⟨x0,x1,x2⟩:=rL c (aa.refl _ w) N;rw[a3]at x2;rw[a4]at x0;have b0:=E (λW (K:aa n_ w W)=>(h.ai K k_).Kj d N (B.ai (λk L=>K.block k ((h.pieces x u).2 k L).lt id)));have a9:QS (∀W,aa n_ w W->W.frozen? ⟨g,j*3+2,Y⟩=false):=λW K=>(c.ai K k_).frozenAt _;have P:QS (∀k (L:k<j),∃y:Int,w.cell? ⟨g,k*3,Y⟩=V (Z U y)/\y≠n):=λk L=>by
  have F:k<R.aC.length:=by omega
  obtain⟨z0,-,-⟩:=rL c (aa.refl _ w) (ec F);exact⟨_,z0,hb k _ L (ec F)⟩
 have HH:=E h;have HQ:QS (q≠g/\q≠R.b/\g≠R.b):=by
  have t1:=(h.pieces x u).2 q H;have t2:bD w g 193:=h.aC.aR (by rw[d];rfl);have t3:bD w R.b 40:=⟨_,h.top⟩
  exact⟨λe=>t1.ne (by decide) (e▸t2),λe=>t1.ne (by decide) (e▸t3),λe=>t2.ne (by decide) (e▸t3)⟩
 have a8:QS (∀v,(w.setCell ⟨g,j*3+2,Y⟩ v).cell? ⟨g,j*3+2,Y⟩=V v):=λv=>by obtain⟨b6,A⟩:bD w g 193:=h.aC.aR (by rw[d];rfl);have s:=ae A (j*3+2);rw[x2]at s;have h2:=(lg s.symm);rw[ae (ak A v) (j*3+2)];simp[h2]
 have HL:=E hl;have HX:=E N;have S:=E a4;have z:=E (λW (v:ax) (a6:List ByteArray) (K:aY W (R.copied R.vc (R.aC.set j (x.less v a6))))=>zO (R.copied R.vc (R.aC.set j (x.less v a6))) n W K (by show(R.aC.set j _).length<=4;rw[TG];exact hl));have b8:(j:Int)<R.aC.length:=by omega
 have b5:=E a0;unfold maxLen at b2 hm;clear h d c sa b4 C D B H u hb hl N a0 a3;generalize R.aC.length=ln at*;go_enter func115,ntmps115;go_wp2_with fail;go_loopw [7] (λi wr=>∃k:Nat,k<=j/\i=Z U k/\wr=w) (λi _=>j-(intOf i).toNat)
 case atStart=>exact⟨0,eL _,rfl,rfl⟩
 case round=>
  obtain⟨k,L,rfl,rfl⟩:=hrel;by_cases G:k<j
  ·obtain⟨y,z0,a5⟩:=P.o k G;have F:(k:Int)<ln:=by omega
   have b9:(y !=n)=true:=by simpa using a5
   clear a5;go_wp2;exact⟨⟨k+1,G,by go_num,by first|rfl|trivial⟩,by simp only[intOf];omega⟩
  ·obtain rfl:k=j:=by omega
   clear G L P;have fz:=a9.o wr (aa.refl _ _);go_wp2_with fail;go_region;have r:=E (b0.o wr (aa.refl _ _));obtain⟨o,a1⟩:∃o:Option Addr,o=if a=1 then V ⟨q,b,Y⟩else V ⟨q,b+1,Y⟩:=⟨_,rfl⟩
   rw[<-a1]at r⊢;obtain⟨m,t⟩:∃m,m=wr.setCell ⟨g,k*3+2,Y⟩ (J o f.length (a-1)):=⟨_,rfl⟩
   rw[<-t]at r⊢;have d6:m.drew.cell? ⟨R.b,6,Y⟩=V (J (V ⟨g,0,Y⟩) ln ca):=(aa.drew n_ m).cell ((by rw[t];exact(aa.setCell wr ⟨g,k*3+2,Y⟩ _).cell c6 (λe=>HQ.o.2.2 (show R.b=g from e).symm)):m.cell? ⟨R.b,6,Y⟩=_) id;have dx:m.drew.cell? ⟨g,k*3+2,Y⟩=V (J o f.length (a-1)):=(aa.drew n_ m).cell (by rw[t];exact a8.o _) id;have l:=E (z.o m.drew (J o f.length (a-1)) f (r.o.1.ai (aa.drew n_ _) k_));have Q:QS (aa n_ m m.drew):=aa.drew _ _;clear x0 x1 x2 c6 fz b3 a1 t z;generalize m.drew=w3 at*;cases f with
   |nil=>
    simp only[pa]at dx l r⊢;go_wp2_with fail;refine l.o.mono ?_;rintro e w4 ⟨rfl,v4,T⟩;have a7:=E T;clear T l;go_wp2;go_ret3;refine⟨rfl,v4,?_⟩;have s:=r.o.trans (a7.o.from r.o.1 Q.o);have e1:dK (R.aC.set k (x.less (J o 0 (a-1)) [])) n=dK R.aC n:=wL (y:=x.less (J o 0 (a-1)) []) S.o HX.o S.o;have e2:R.AO k x n [] v4=(R.copied R.vc (R.aC.set k (x.less (J o 0 (a-1)) []))).copied v4 (dK (R.aC.set k (x.less (J o 0 (a-1)) [])) n):=by rw[e1];rfl
    rw[e2];exact s
   |cons p2 ps2=>
    simp only[fN]at dx l r⊢;clear l;go_wp2;go_ret3;exact⟨rfl,J o (ps2.length+1) (a-1),r.o.trans (r.o.1.ch Q.o)⟩
theorem Fu(R:aM)(n:Int)(w:ab)(h:aY w R)(z:R.aC.length<=4)(m:∀x∈R.aC,x.id≠n):ba prog 115 #[X (V ⟨R.b,0,Y⟩),Z U n] w λe u=>e=ay (bt #[O ⟨#[]⟩,ao false,Z U 1])/\u=w:=by
 obtain⟨o,r,b,s,p⟩:=h.aC.form;have v:w.cell? ⟨R.b,6,Y⟩=V (J o R.aC.length r):=(h.cell 6).trans (by rw[<-b];rfl);have a:=h.aC;rw[b]at a;have c:QS (∀k (_:k<R.aC.length),∃(g:Nat) (y:Int),o=V ⟨g,0,Y⟩/\w.cell? ⟨g,k*3,Y⟩=V (Z U y)/\y≠n):=λk j=>by obtain⟨g,rfl⟩:=p (by omega);obtain⟨q,-,-⟩:=rL a (aa.refl _ w) (ec j);exact⟨g,_,rfl,q,m _ (nE j)⟩
 unfold maxLen at s;clear h b a p m;generalize R.aC.length=l at*;go_enter func115,ntmps115;go_wp2_with fail;go_loopw [7] (λi wr=>∃k:Nat,k<=l/\i=Z U k/\wr=w) (λi _=>l-(intOf i).toNat)
 case atStart=>exact⟨0,eL _,rfl,rfl⟩
 case round=>
  obtain⟨k,j,rfl,rfl⟩:=hrel;by_cases d:k<l
  ·obtain⟨g,y,rfl,q,f⟩:=c.o k d;have t:(y !=n)=true:=by simpa using f
   clear f;go_wp2;exact⟨⟨k+1,d,by go_num,by first|rfl|trivial⟩,by simp only[intOf];omega⟩
  ·clear c j;go_wp2;go_ret3;exact⟨rfl,rfl⟩
end
def aZ.mf(A:aZ)(n:Int):Int:=if A.aC.any (λx=>decide (x.1=n))=true then 0 else 1
def aZ.lI(A:aZ)(n:Int):aZ:={A with aC:=A.aC.filter (λx=>decide (x.1≠n))}
theorem PN{b:Nat}{A:aZ}(n:Int)(h:oO N w b A F):ba prog 51 #[X (V ⟨b,0,Y⟩),Z U n] w λe d=>e=ay (Z U (A.mf n))/\dO N b (A.lI n) F w d:=by
 obtain⟨R,a,rfl,rfl,rfl⟩:=h;have f:R.dF.mf n=sG R.aC n:=by unfold aZ.mf sG lV;simp[aM.dF,List.any_map,tQ]
 rw[f];refine(zO R n w a.at_ a.eJ).mono ?_;rintro e d ⟨rfl,v,c⟩;have g:R.dF.lI n=(R.copied v (dK R.aC n)).dF:=by unfold aZ.lI dK;simp[aM.dF,aM.copied,SH,tQ]
 rw[g];refine⟨rfl,c.after.o ⟨c.1,a.mq,a.dm,a.ar,a.gO,a.dR,a.du,?_,a.pN⟩⟩;have:=Rp (λx:ko=>decide (x.id≠n)) R.aC;have:=a.eJ;show(dK R.aC n).length<=4;unfold dK;omega
def jY(l:List (Int×Int×List ByteArray))(n:Int):Option Nat:=l.findIdx? (λx=>decide (x.1=n))
theorem vX(h:jY l n=V j):∃x,l[j]?=V x/\x.1=n/\∀i y,i<j->l[i]?=V y->y.1≠n:=by unfold jY at h;obtain⟨e,a,b⟩:=Sh.1 h;refine⟨l[j],ec e,by simpa using a,λi y c f=>?_⟩;obtain⟨d,rfl⟩:=ej.1 f;have:=b i c;simpa using this
theorem vW(h:jY l n=Y):∀x∈l,x.1≠n:=λx a=>by have:=List.findIdx?_eq_none_iff.1 h x a;simpa using this
def aZ.fg(A:aZ)(n:Int):ByteArray×Bool×Int:=match(jY A.aC n).bind (λj=>A.aC[j]?)with
 |none=>(⟨#[]⟩,false,1)
 |some x=>(x.2.2.headD ⟨#[]⟩,decide (x.2.2.tail.length=0),0)
def aZ.lr(A:aZ)(n:Int):aZ:=match jY A.aC n with
 |none=>A
 |some j=>match A.aC[j]? with
  |none=>A
  |some x=>if x.2.2.tail.length=0 then A.lI n else{A with aC:=A.aC.set j (x.1,x.2.1,x.2.2.tail)}
theorem PC{b:Nat}{A:aZ}(n:Int)(h:oO N w b A F)(s:∀x∈A.aC,x.2.2≠[]):ba prog 115 #[X (V ⟨b,0,Y⟩),Z U n] w λe o=>e=ay (bt #[O (A.fg n).1,ao (A.fg n).2.1,Z U (A.fg n).2.2])/\dO N b (A.lr n) F w o:=by
 obtain⟨R,a,rfl,rfl,rfl⟩:=h;have d:R.dF.aC=R.aC.map (λx=>(x.id,x.least,x.pieces)):=rfl;unfold aZ.fg aZ.lr;cases hx:jY R.dF.aC n with
 |none=>
  have L:=vW hx;refine(Fu R n w a.at_ a.eJ (λx u=>L _ (by rw[d];exact fI.2 ⟨x,u,rfl⟩))).mono ?_;rintro e o ⟨rfl,rfl⟩;refine⟨rfl,R.fp,⟨R,a,rfl,rfl,rfl⟩,aa.refl _ _,λk M=>.inl M⟩
 |some j=>
  obtain⟨y,H,D,C⟩:=vX hx;rw[d,vk]at H;obtain⟨x,m,rfl⟩:=RP.1 H;have z:=hH m;have t:x.pieces≠[]:=s (x.id,x.least,x.pieces) (by rw[d];exact fI.2 ⟨x,z,rfl⟩);obtain⟨p,g,G⟩:=List.exists_cons_of_ne_nil t;have K:R.dF.aC[j]?=V (x.id,x.least,x.pieces):=by rw[d,vk,m];rfl
  simp only[Tx,K,G,List.headD_cons,List.tail_cons];refine(Fv R n j x p g w a.at_ a.eJ m D (λi y r B=>C i (y.id,y.least,y.pieces) r (by rw[d,vk,B];rfl)) G).mono ?_;rintro e o ⟨rfl,v,f⟩;refine⟨rfl,?_⟩;show dO N R.b (if g.length=0 then R.dF.lI n else{R.dF with aC:=R.dF.aC.set j (x.id,x.least,g)}) R.fp w o;by_cases c:g.length=0
  ·have l:g=[]:=Sg.1 c;rw[fy c];unfold aM.AO at f;rw[fy l]at f;have q:R.dF.lI n=(R.copied v (dK R.aC n)).dF:=by unfold aZ.lI dK;simp[aM.dF,aM.copied,SH,tQ]
   rw[q];refine f.after.o ⟨f.1,a.mq,a.dm,a.ar,a.gO,a.dR,a.du,?_,a.pN⟩;have:=Rp (λx:ko=>decide (x.id≠n)) R.aC;have:=a.eJ;show(dK R.aC n).length<=4;unfold dK;omega
  ·have l:¬g=[]:=λe=>c (by rw[e];rfl);rw[el c];unfold aM.AO at f;rw[el l]at f;have q:({R.dF with aC:=R.dF.aC.set j (x.id,x.least,g)}:aZ)=(R.copied R.vc (R.aC.set j (x.less v g))).dF:=by simp only[aM.dF,aM.copied,List.map_set];rfl
   rw[q];refine f.after.o ⟨f.1,a.mq,a.dm,a.ar,a.gO,a.dR,a.du,?_,a.pN⟩;show(R.aC.set j _).length<=4;rw[TG];exact a.eJ
def aM.ie(R:aM)(c:Bool)(a b:Int):List an:=if c=true then bc (aT R.all (-1) b)else aT R.all a b
theorem Dy(R:aM)(c:Bool)(a b:Int)(w:ab)(h:aY w R)(d:R.there b=false\/c=false/\R.there a=false):ba prog 48 #[X (V ⟨R.b,0,Y⟩),ao c,Z U a,Z U b] w λe k=>e=ay (bt #[Z U 0,Z U 5])/\aa n_ w k:=by
 have g:=E (gJ R b w h);have f:=E (gJ R a w h);clear h;generalize R.there b=j at*;generalize R.there a=i at*;go_enter func48,ntmps48;go_wp2_with fail;refine g.o.mono ?_;rintro e l ⟨rfl,rfl⟩;go_wp2_with fail;refine f.o.mono ?_;rintro e m ⟨rfl,rfl⟩;clear f g;cases j with
 |false=>
  clear d;go_wp2;go_ret2;exact⟨rfl,aa.refl _ _⟩
 |true=>
  obtain⟨rfl,rfl⟩:c=false/\i=false:=by
   rcases d with h|h
   ·cases h
   ·exact h
  clear d;go_wp2;go_ret2;exact⟨rfl,aa.refl _ _⟩
theorem Dw(R:aM)(c:Bool)(a b:Int)(w:ab)(h:aY w R)(j:R.there b=true)(f:c=true\/R.there a=true)(k:c=true/\a≠0\/c=false/\b<=a):ba prog 48 #[X (V ⟨R.b,0,Y⟩),ao c,Z U a,Z U b] w λe n=>e=ay (bt #[Z U 0,Z U 6])/\aa n_ w n:=by
 have d:=E (gJ R b w h);have i:=E (gJ R a w h);rw[j]at d;clear h j;generalize R.there a=m at*;go_enter func48,ntmps48;go_wp2_with fail;refine d.o.mono ?_;rintro e o ⟨rfl,rfl⟩;go_wp2_with fail;refine i.o.mono ?_;rintro e p ⟨rfl,rfl⟩;clear i d;rcases k with⟨rfl,g⟩|⟨rfl,g⟩
 ·have l:(a !=0)=true:=by simpa using g
  clear g f;go_wp2;go_ret2;exact⟨rfl,aa.refl _ _⟩
 ·obtain rfl:m=true:=by
   rcases f with h|h
   ·cases h
   ·exact h
  clear f;go_wp2;go_ret2;exact⟨rfl,aa.refl _ _⟩
end Go.Proofs.YtjbkfdeldlajhaaGreatDoor
