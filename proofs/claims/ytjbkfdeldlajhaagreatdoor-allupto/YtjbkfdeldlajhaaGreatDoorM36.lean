import Derived.Test.YtjbkfdeldlajhaaGreatDoorM35
set_option linter.unusedSimpArgs false
namespace Go.Proofs.YtjbkfdeldlajhaaGreatDoor
set_option maxRecDepth 100000
set_option maxHeartbeats 4000000
open Go.RowKit Go.Shelf Go.Proofs.Tryz
open Option renaming none->Y,some->V
open Go.Value renaming int->Z,string->O,slice->J,pointer->X,bool->ao,tuple->bt
open Go.IntKind renaming i64->U
open Go.Obj renaming cells->I
open Go renaming World->ab,Value->ax,Calls->ba
open Go.Ending renaming returned->ay
variable{w W:ab}{R:aF}{x:bB}{q N b n:Nat}{C F:List Nat}{a l:List (Int×bB)}{s:Int}{p:Int×bB}
section
attribute [local go_sem] Oper.semAt_some
def mM(R:aF)(x:bB)(w b:ab):Prop:=
 ∃a,aq b {R with cm:=a,aB:=R.aB+1,aA:=R.aA++[(R.aB+1,x)]}/\aa (·∈R.fp) w b/\(a=R.cm\/∃q,a=V q/\w.heap.size<=q)
structure qw(R:aF)(x:bB)(q:Nat)(fs:List ax)(C:List Nat)(w W:ab):Prop where
 st:aq W {R with cm:=V q}
 uH:iP W (w.heap.size+1) fs C
 o:∀k∈C,k∉R.fp/\w.heap.size<k/\k≠q/\k≠w.heap.size+1+1/\k<W.heap.size
 keep:aa (λk=>k=R.sb) w W
 err:W.heap[w.heap.size]?=V (I #[Z U 0] 71 (0,0))
 QM:W.heap[w.heap.size+1+1]?=V (I #[ao x.full,Z U x.gY,Z U x.to,ao x.jj,O x.next,Z .u32 x.sum,Z U x.count] 186 (0,0))
 EY:fs.length<=1
 new:R.cm=V q\/R.cm=Y/\w.heap.size+1+1<q
 old:∀k∈R.fp,k<w.heap.size
theorem qw.fp{b:List ax}(h:qw R x q b C w W):∀k∈aF.fp {R with cm:=V q},k∈R.fp\/k=q:=λk a=>by
 rcases h.new with e|⟨e,-⟩
 ·rw[<-e]at a;exact .inl a
 ·rcases cT.1 ((OK e _).mem_iff.1 a)with e|h
  ·exact .inr e
  ·exact .inl h
theorem qw.QN{b:List ax}(h:qw R x q b C w W):R.sb≠q:=λe=>by have a:=(bH {R with cm:=V q}).nodup_iff.1 h.st.nodup;rw[ey]at a;exact a.1 (fQ _ (by rw[e];simp[cL]))
theorem qw.q3{a:List ax}(h:qw R x q a C w W):q≠w.heap.size/\q≠w.heap.size+1+1:=by
 rcases h.new with e|⟨e,b⟩
 ·have:=h.old q ((bH R).mem_iff.2 (ef _ (fQ _ (by simp[cL,e]))));omega
 ·omega
theorem qw.CM{t j:List ax}{f:List Nat}{c:ab}{n:Int}(h:qw R x q t C w W)(e:aa (λk=>k∈C\/k=R.sb) W c)(u:iP c (w.heap.size+1) j f)(l:∀k∈f,k∈C\/W.heap.size<=k)(v:c.heap[R.sb]?=(W.setCell ⟨R.sb,5,Y⟩ (Z U n)).heap[R.sb]?):aq c {R with cm:=V q,aB:=n}/\(∀k∈f,k∉R.fp/\w.heap.size<k/\k≠q/\k≠w.heap.size+1+1/\k<c.heap.size)/\aa (λk=>k=R.sb) w c/\c.heap[w.heap.size]?=V (I #[Z U 0] 71 (0,0))/\c.heap[w.heap.size+1+1]?=V (I #[ao x.full,Z U x.gY,Z U x.to,ao x.jj,O x.next,Z .u32 x.sum,Z U x.count] 186 (0,0)):=by
 have y:=h.old R.sb (by simp[aF.fp]);have z:=(lg h.err);have A:=(lg h.QM);have B:q<W.heap.size:=bG h.st q ((bH _).mem_iff.2 (ef _ (fQ _ (by simp[cL]))));refine⟨aq.MZ (R:={R with cm:=V q}) h.st e (λk b m=>?_) v,λk b=>?_,h.keep.trans e (λk b a=>?_),(e.block _ z ?_).trans h.err,(e.block _ A ?_).trans h.QM⟩
 ·obtain⟨g,o,i,p,s⟩:=h.o k b;rcases h.fp k m with d|d
  ·exact g d
  ·exact i d
 ·have r:=u.lt k b;rcases l k b with d|d
  ·obtain⟨g,o,i,p,s⟩:=h.o k d;exact⟨g,o,i,p,r⟩
  ·exact⟨λm=>by have:=h.old k m;omega,by omega,by omega,by omega,r⟩
 ·rcases a with a|a
  ·have:=(h.o k a).2.1;omega
  ·exact a
 ·rintro(a|a)
  ·exact absurd (h.o _ a).2.1 (by omega)
  ·omega
 ·rintro(a|a)
  ·exact(h.o _ a).2.2.2.1 rfl
  ·omega
theorem Ga(R:aF)(c:Bool)(a b:Int)(w:ab)(h:aq w R)(g:Good R)(hr:bh R.keys)(hl:R.keys.length<=200000000000)(S:R.aA.length<=4)(hj:jk (decide (R.aK<=b)&&decide (b<=R.now)) (decide (R.aK<=a)&&decide (a<=R.now)) R.aA.length (cK R.keys (aw R.au) (bB.new c a b)).length (bB.new c a b)=0)(c9:0<=R.aB)(d0:R.aB<1152921504606846976)(hn:aD R.aA (R.aB+1)=Y)(q:Nat)(C:R.cm=V q):ba prog 47 #[X (V ⟨R.sb,0,Y⟩),ao c,Z U a,Z U b] w λe w'=>e=ay (bt #[Z U (R.aB+1),Z U 0])/\mM R (bB.new c a b) w w':=by
 have c7:=mf_;have HJ:QS (∀W,aa n_ w W->ba prog 110 #[X (V ⟨R.sb,0,Y⟩),.agg #[ao c,Z U a,Z U b,ao false,O ByteArray.empty,Z .u32 0,Z U 0]] W λe w'=>e=ay (Z U 0)/\aa n_ W w'):=λW hW=>by have:=qU R (bB.new c a b) W (h.ai hW k_) g hr hl S;rw[show(bB.new c a b).to=b from rfl,show(bB.new c a b).gY=a from rfl,hj]at this;exact this
 have c5:=h.lt;have b5:QS (IntKind.i64.wrap (R.aB+1)=R.aB+1):=IntWalk.i64_in _ ⟨by omega,by omega⟩;have b1:QS (aD R.aA (R.aB+1)=Y):=hn;have b4:=E h;have y:=E C;have o:=bG h;have c3:=Ci;have c6:QS (∀W,aa n_ w W->W.cell? ⟨R.sb,6,Y⟩=V (.map (V q))):=λW hW=>((h.ai hW k_).cell 6).trans (by rw[<-C];rfl);clear h g hr hl S hj C hn;go_enter_defers func47,ntmps47;go_wp2_with fail;refine(HJ.o _ ((((aa.refl n_ w).al _).al _).al _)).mono ?_;rintro e w0 ⟨rfl,D⟩;have u:aa n_ w w0:=((((aa.refl n_ w).al _).al _).al _).tr D i_;have d:QS (qw R (bB.new c a b) q [] [w.heap.size+1] w w0):=by
  refine⟨?_,?_,λk t=>?_,u.mono (λ_ _ h=>h.elim),((D.block w.heap.size (by simp;omega) id).trans (Below.heap_alloc _ _ _ (by simp;omega))).trans ((Below.heap_alloc _ _ _ (by simp)).trans (az w _)),?_,by simp,.inl y.o,o⟩
  ·have:=b4.o.ai u k_;rw[<-y.o];exact this
  ·exact((fU w (I #[Z U 0] 71)).ai (aa.alloc n_ _ _) k_).ai D k_
  ·simp at t;subst t;have hz:=D.size;simp at hz;refine⟨λhf=>by have:=o _ hf;omega,by omega,λe=>?_,by omega,by omega⟩;have:=o q ((bH R).mem_iff.2 (ef _ (fQ _ (by simp[cL,y.o]))));omega
  ·have:=az ((w.alloc (I #[Z U 0] 71)).alloc (I #[J Y 0 0] 114)) (I #[ao c,Z U a,Z U b,ao false,O ByteArray.empty,Z .u32 0,Z U 0] 186);rw[show((w.alloc (I #[Z U 0] 71)).alloc (I #[J Y 0 0] 114)).heap.size=w.heap.size+1+1 by simp]at this;exact(D.block (w.heap.size+1+1) (by simp) id).trans this
 have d6:=c6.o _ u;obtain⟨A,a0⟩:∃A:List ax,A=[]:=⟨_,rfl⟩
 obtain⟨C0,N⟩:∃C0,C0=[w.heap.size+1]:=⟨_,rfl⟩
 rw[<-a0,<-N]at d;clear a0 N D u c6;go_wp2_with fail;obtain⟨n0,c8⟩:∃n0,n0=R.aB:=⟨_,rfl⟩
 have HA:=E (iU (w.heap.size+1) A C0 R.sb 5 R.aB (IntKind.i64.wrap (R.aB+1)) w0.drew (d.o.uH.ai (aa.drew n_ _) k_) ((d.o.st.ai (aa.drew n_ _) k_).cell 5) ((d.o.st.ai (aa.drew n_ _) k_).frozen 5) (λn=>(d.o.o _ n).1 (by simp[aF.fp])) (by have:=d.o.EY;omega));have k5:w0.cell? ⟨R.sb,5,Y⟩=V (Z U R.aB):=d.o.st.cell 5;refine ql ?_;go_region_with(go_at_call 60;refine(HA.o).mono ?_;rintro e m ⟨rfl,b6,C1,b7,P,a6,x,B⟩;rw[b5.o]at B;have a9:=E B;clear B)
 obtain⟨s1,o1,a8,e1,v⟩:=d.o.CM ((aa.drew n_ w0|>.mono (λ_ _ h=>h.elim)).tr a6 i_) P (λk t=>x k t) a9.o;have g5:m.cell? ⟨R.sb,5,Y⟩=V (Z U (R.aB+1)):=s1.cell 5;have g6:m.cell? ⟨R.sb,6,Y⟩=V (.map (V q)):=s1.cell 6;have gM:aQ (Z U) m q (R.aA.map λp=>(p.1,p.2.val)):=s1.af.cU;have b8:=d.o.QN;have L:QS (¬(R.sb∈C1\/R.sb=q)):=λh'=>h'.elim (λn=>(o1 _ n).1 (by simp[aF.fp])) (λe=>b8 e);have l:QS (¬(w.heap.size+1+1∈C1\/w.heap.size+1+1=q)):=λh'=>h'.elim (λn=>(o1 _ n).2.2.2.1 rfl) (λe=>d.o.q3.2 e.symm);have HE:=E (tj (w.heap.size+1) b6 C1 q (R.aB+1) _ ((aD R.aA (R.aB+1)).getD bB.zero) (bB.new c a b) m.drew (P.ai (aa.drew n_ _) k_) (gM.ai (aa.drew n_ _) id) (kV _ _) (λn=>(o1 _ n).2.2.1 rfl) (by have:=d.o.EY;rw[b7];omega));have z0:=ae v 0;have z1:=ae v 1;have z2:=ae v 2;have z3:=ae v 3;have z4:=ae v 4;have z5:=ae v 5;have z6:=ae v 6;simp[bB.new]at z0 z1 z2 z3 z4 z5 z6;replace z4:m.cell? ⟨w.heap.size+1+1,4,Y⟩=V (O {data:=#[]}):=z4;have c0:=E v;have b3:=E s1;have z:=E o1;have K:=E a8;have G:=E e1;clear v s1 o1 a8 e1 gM k5 a6 x HA;simp only[bB.val,bB.new]at HE;go_wp2_with fail;go_region_held3(λW=>W.cell? ⟨R.sb,5,Y⟩=V (Z U (R.aB+1))/\W.cell? ⟨R.sb,6,Y⟩=V (.map (V q))/\W.cell? ⟨w.heap.size+1+1,0,Y⟩=V (ao c)/\W.cell? ⟨w.heap.size+1+1,1,Y⟩=V (Z U a)/\W.cell? ⟨w.heap.size+1+1,2,Y⟩=V (Z U b)/\W.cell? ⟨w.heap.size+1+1,3,Y⟩=V (ao false)/\W.cell? ⟨w.heap.size+1+1,4,Y⟩=V (O {data:=#[]})/\W.cell? ⟨w.heap.size+1+1,5,Y⟩=V (Z .u32 0)/\W.cell? ⟨w.heap.size+1+1,6,Y⟩=V (Z U 0)) (go_keep) (first|(go_at_call 112;refine(HE.o).mono ?_;rintro e F ⟨rfl,c1,C2,c4,c2,j,b9,a7⟩;have q5:=j.cell (p:=⟨R.sb,5,Y⟩) ((aa.drew n_ m).cell g5 id) L.o;have q6:=j.cell (p:=⟨R.sb,6,Y⟩) ((aa.drew n_ m).cell g6 id) L.o;have r0:=j.cell (p:=⟨w.heap.size+1+1,0,Y⟩) ((aa.drew n_ m).cell z0 id) l.o;have r1:=j.cell (p:=⟨w.heap.size+1+1,1,Y⟩) ((aa.drew n_ m).cell z1 id) l.o;have r2:=j.cell (p:=⟨w.heap.size+1+1,2,Y⟩) ((aa.drew n_ m).cell z2 id) l.o;have r3:=j.cell (p:=⟨w.heap.size+1+1,3,Y⟩) ((aa.drew n_ m).cell z3 id) l.o;have r4:=j.cell (p:=⟨w.heap.size+1+1,4,Y⟩) ((aa.drew n_ m).cell z4 id) l.o;have r5:=j.cell (p:=⟨w.heap.size+1+1,5,Y⟩) ((aa.drew n_ m).cell z5 id) l.o;have r6:=j.cell (p:=⟨w.heap.size+1+1,6,Y⟩) ((aa.drew n_ m).cell z6 id) l.o));have s:F.heap[w.heap.size]?=V (I #[Z U 0] 71 (0,0)):=by rw[j.block w.heap.size (by have:=(lg G.o);exact this) (by rintro(n|n);exact absurd (z.o _ n).2.1 (by omega);exact d.o.q3.1 n.symm)];exact G.o
 have y0:F.cell? ⟨w.heap.size,0,Y⟩=V (Z U 0):=ae s 0;have y1:F.frozen? ⟨w.heap.size,0,Y⟩=false:=aj s 0;have b0:=E s;have b2:=E a7;have H:=E j;clear r0 r1 r2 r3 r4 r5 r6 q6;clear s a7 j z0 z1 z2 z3 z4 z5 z6 g5 g6 HE;go_wp2;refine leaves_cons (f:=109) (args:=#[X (V ⟨w.heap.size+1,0,Y⟩),X (V ⟨w.heap.size,0,Y⟩)]) (by simp) (by simp[go_sem]) ?_;have Q:=ak (i:=0) b0.o (Z U 0);refine(zN (w.heap.size+1) w.heap.size _ ?_).mono ?_
 ·exact ae Q 0
 rintro e u' d1 ⟨rfl,rfl,rfl⟩;have r:mM R (bB.new c a b) w (F.setCell ⟨w.heap.size,0,Y⟩ (Z U 0)):=by
  have hm:aQ (Z U) F q (put (R.aA.map λp=>(p.1,p.2.val)) (R.aB+1) (bB.new c a b).val):=b2.o;rw[vU,kj b1.o]at hm;have s2:=(b3.o.ai (aa.drew n_ _) k_).rJ (b:=q) rfl H.o (λk t hf=>by
   obtain⟨a1,a2,a3,a4,a5⟩:=z.o k t;rcases d.o.fp k hf with h|h
   ·exact a1 h
   ·exact a3 h) hm
  refine⟨V q,s2.ai (aa.setCell _ _ _) (λk t e=>?_),?_,?_⟩
  ·have e':k=w.heap.size:=e;rcases d.o.fp k t with h|h
   ·have:=d.o.old k h;omega
   ·exact d.o.q3.1 (by omega)
  ·refine((K.o.mono (T:=(·∈R.fp)) (λk _ h=>by rw[h];simp[aF.fp])).trans ((aa.drew n_ m).mono (T:=λk=>k∈C1\/k=q) (λ_ _ h=>h.elim)|>.tr H.o i_) (λk t h=>?_)).st (.inl (eb _)) _;rcases h with h|h
   ·have:=(z.o k h).2.1;omega
   ·rcases d.o.new with e|⟨e,h1⟩
    ·rw[h];exact(bH R).mem_iff.2 (ef _ (fQ _ (by simp[cL,e])))
    ·omega
  ·rcases d.o.new with e|⟨e,h1⟩
   ·exact .inl e.symm
   ·exact .inr ⟨q,rfl,by omega⟩
 have hb:=ae Q 0;generalize F.setCell ⟨w.heap.size,0,Y⟩ (Z U 0)=W3 at r hb;simp at hb;simp[Leaves,settle,results,Tryz.results47,go_sem,hb];exact r
theorem Kr(R:aF)(c:Bool)(a b:Int)(w:ab)(h:aq w R)(g:Good R)(hr:bh R.keys)(hl:R.keys.length<=200000000000)(b4:R.aA.length<=4)(hj:jk (decide (R.aK<=b)&&decide (b<=R.now)) (decide (R.aK<=a)&&decide (a<=R.now)) R.aA.length (cK R.keys (aw R.au) (bB.new c a b)).length (bB.new c a b)=0)(f3:0<=R.aB)(f4:R.aB<1152921504606846976)(hn:aD R.aA (R.aB+1)=Y)(K:R.cm=Y):ba prog 47 #[X (V ⟨R.sb,0,Y⟩),ao c,Z U a,Z U b] w λe w'=>e=ay (bt #[Z U (R.aB+1),Z U 0])/\mM R (bB.new c a b) w w':=by
 have f0:=mf_;have HJ:QS (∀W,aa n_ w W->ba prog 110 #[X (V ⟨R.sb,0,Y⟩),.agg #[ao c,Z U a,Z U b,ao false,O ByteArray.empty,Z .u32 0,Z U 0]] W λe w'=>e=ay (Z U 0)/\aa n_ W w'):=λW hW=>by have:=qU R (bB.new c a b) W (h.ai hW k_) g hr hl b4;rw[show(bB.new c a b).to=b from rfl,show(bB.new c a b).gY=a from rfl,hj]at this;exact this
 have e9:=h.lt;have d4:QS (IntKind.i64.wrap (R.aB+1)=R.aB+1):=IntWalk.i64_in _ ⟨by omega,by omega⟩;have d0:QS (aD R.aA (R.aB+1)=Y):=hn;have d3:=E h;have Q:=E K;have m:=bG h;have e7:=Ch;have f1:=@run_makeMap prog;have c6:QS (∀W,aa n_ w W->W.cell? ⟨R.sb,6,Y⟩=V (.map Y)):=λW hW=>((h.ai hW k_).cell 6).trans (by rw[<-K];rfl);clear h g hr hl b4 hj K hn;go_enter_defers func47,ntmps47;go_wp2_with fail;refine(HJ.o _ ((((aa.refl n_ w).al _).al _).al _)).mono ?_;rintro e s ⟨rfl,L⟩;have x:aa n_ w s:=((((aa.refl n_ w).al _).al _).al _).tr L i_;have b6:s.heap[w.heap.size]?=V (I #[Z U 0] 71 (0,0)):=((L.block w.heap.size (by simp;omega) id).trans (Below.heap_alloc _ _ _ (by simp;omega))).trans ((Below.heap_alloc _ _ _ (by simp)).trans (az w _));have b7:s.heap[w.heap.size+1+1]?=V (I #[ao c,Z U a,Z U b,ao false,O ByteArray.empty,Z .u32 0,Z U 0] 186 (0,0)):=by have:=az ((w.alloc (I #[Z U 0] 71)).alloc (I #[J Y 0 0] 114)) (I #[ao c,Z U a,Z U b,ao false,O ByteArray.empty,Z .u32 0,Z U 0] 186);rw[show((w.alloc (I #[Z U 0] 71)).alloc (I #[J Y 0 0] 114)).heap.size=w.heap.size+1+1 by simp]at this;exact(L.block (w.heap.size+1+1) (by simp) id).trans this
 have b8:iP s (w.heap.size+1) [] [w.heap.size+1]:=((fU w (I #[Z U 0] 71)).ai (aa.alloc n_ _ _) k_).ai L k_;have d8:w.heap.size+3<=s.heap.size:=by have:=L.size;simp at this;omega
 have d6:=c6.o _ x;have G:=d3.o.ai (x.al (.map #[] 0)) k_;have N:=E (BC (w.heap.size+1) [] [w.heap.size+1] R.sb 6 Y (V s.heap.size) (s.alloc (.map #[] 0)) (b8.ai (aa.alloc n_ _ _) k_) (c6.o _ (x.al _)) (G.frozen 6) (by simp;omega) (by simp));have a8:=E G;have c7:=E b6;have c8:=E b7;have c9:=E x;clear L x c6 b6 b7 G b8;go_wp2_with(go_at_call 111;go_must(refine(N.o).mono ?_;rintro e w0 ⟨rfl,b0,C0,b5,F,u,B,b3⟩;have P:=E b3;clear b3))
 obtain⟨q,hq⟩:∃q,q=s.heap.size:=⟨_,rfl⟩
 have d:QS (qw R (bB.new c a b) q b0 C0 w w0):=by
  have d9:aQ (Z U) (s.alloc (.map #[] 0)) s.heap.size []:=aQ.made (Z U) s;have e0:s.heap.size∉R.fp:=λz=>by have:=m _ z;omega
  have c2:∀k∈C0,k=w.heap.size+1\/s.heap.size+1<=k:=λk r=>by
   rcases B k r with t|t
   ·simp at t;exact .inl t
   ·simp at t;exact .inr t
  subst hq;refine⟨a8.o.Lw Q.o u (λk r z=>by have:=m k z;simp at r;omega) d9 (by simp;omega) e0 P.o,F,λk r=>?_,?_,?_,?_,by rw[b5];simp,.inr ⟨Q.o,by omega⟩,m⟩
  ·have c0:=F.lt k r;rcases c2 k r with t|t
   ·exact⟨λz=>by have:=m k z;omega,by omega,by omega,by omega,c0⟩
   ·exact⟨λz=>by have:=m k z;omega,by omega,by omega,by omega,c0⟩
  ·exact((c9.o.al _).mono (λ_ _ h=>h.elim)).trans u (λk r h=>by
    rcases h with h|h
    ·simp at h;omega
    ·exact h)
  ·exact((u.block w.heap.size (by simp;omega) (by rintro(l|l);(simp at l);omega)).trans (Below.heap_alloc _ _ _ (by omega))).trans c7.o
  ·exact((u.block (w.heap.size+1+1) (by simp;omega) (by rintro(l|l);(simp at l);omega)).trans (Below.heap_alloc _ _ _ (by omega))).trans c8.o
 rw[<-hq]at*;clear F u B P N a8 d6 d8 b5;go_wp2_with fail;obtain⟨n0,f2⟩:∃n0,n0=R.aB:=⟨_,rfl⟩
 have HA:=E (iU (w.heap.size+1) b0 C0 R.sb 5 R.aB (IntKind.i64.wrap (R.aB+1)) w0.drew (d.o.uH.ai (aa.drew n_ _) k_) ((d.o.st.ai (aa.drew n_ _) k_).cell 5) ((d.o.st.ai (aa.drew n_ _) k_).frozen 5) (λl=>(d.o.o _ l).1 (by simp[aF.fp])) (by have:=d.o.EY;omega));have k5:w0.cell? ⟨R.sb,5,Y⟩=V (Z U R.aB):=d.o.st.cell 5;refine ql ?_;go_region_with(go_at_call 60;refine(HA.o).mono ?_;rintro e o ⟨rfl,d5,C1,d7,b1,b9,C,H⟩;rw[d4.o]at H;have c4:=E H;clear H)
 obtain⟨s1,o1,c3,e1,A⟩:=d.o.CM ((aa.drew n_ w0|>.mono (λ_ _ h=>h.elim)).tr b9 i_) b1 (λk r=>C k r) c4.o;have g5:o.cell? ⟨R.sb,5,Y⟩=V (Z U (R.aB+1)):=s1.cell 5;have g6:o.cell? ⟨R.sb,6,Y⟩=V (.map (V q)):=s1.cell 6;have gM:aQ (Z U) o q (R.aA.map λp=>(p.1,p.2.val)):=s1.af.cU;have e2:=d.o.QN;have a7:QS (¬(R.sb∈C1\/R.sb=q)):=λt=>t.elim (λl=>(o1 _ l).1 (by simp[aF.fp])) (λe=>e2 e);have n:QS (¬(w.heap.size+1+1∈C1\/w.heap.size+1+1=q)):=λt=>t.elim (λl=>(o1 _ l).2.2.2.1 rfl) (λe=>d.o.q3.2 e.symm);have HE:=E (tj (w.heap.size+1) d5 C1 q (R.aB+1) _ ((aD R.aA (R.aB+1)).getD bB.zero) (bB.new c a b) o.drew (b1.ai (aa.drew n_ _) k_) (gM.ai (aa.drew n_ _) id) (kV _ _) (λl=>(o1 _ l).2.2.1 rfl) (by have:=d.o.EY;rw[d7];omega));have z0:=ae A 0;have z1:=ae A 1;have z2:=ae A 2;have z3:=ae A 3;have z4:=ae A 4;have z5:=ae A 5;have z6:=ae A 6;simp[bB.new]at z0 z1 z2 z3 z4 z5 z6;replace z4:o.cell? ⟨w.heap.size+1+1,4,Y⟩=V (O {data:=#[]}):=z4;have e4:=E A;have d2:=E s1;have D:=E o1;have a6:=E c3;have S:=E e1;clear A s1 o1 c3 e1 gM k5 b9 C HA;simp only[bB.val,bB.new]at HE;go_wp2_with fail;go_region_held3(λW=>W.cell? ⟨R.sb,5,Y⟩=V (Z U (R.aB+1))/\W.cell? ⟨R.sb,6,Y⟩=V (.map (V q))/\W.cell? ⟨w.heap.size+1+1,0,Y⟩=V (ao c)/\W.cell? ⟨w.heap.size+1+1,1,Y⟩=V (Z U a)/\W.cell? ⟨w.heap.size+1+1,2,Y⟩=V (Z U b)/\W.cell? ⟨w.heap.size+1+1,3,Y⟩=V (ao false)/\W.cell? ⟨w.heap.size+1+1,4,Y⟩=V (O {data:=#[]})/\W.cell? ⟨w.heap.size+1+1,5,Y⟩=V (Z .u32 0)/\W.cell? ⟨w.heap.size+1+1,6,Y⟩=V (Z U 0)) (go_keep) (first|(go_at_call 112;refine(HE.o).mono ?_;rintro e M ⟨rfl,e5,C2,e8,e6,j,e3,c1⟩;have q5:=j.cell (p:=⟨R.sb,5,Y⟩) ((aa.drew n_ o).cell g5 id) a7.o;have q6:=j.cell (p:=⟨R.sb,6,Y⟩) ((aa.drew n_ o).cell g6 id) a7.o;have r0:=j.cell (p:=⟨w.heap.size+1+1,0,Y⟩) ((aa.drew n_ o).cell z0 id) n.o;have r1:=j.cell (p:=⟨w.heap.size+1+1,1,Y⟩) ((aa.drew n_ o).cell z1 id) n.o;have r2:=j.cell (p:=⟨w.heap.size+1+1,2,Y⟩) ((aa.drew n_ o).cell z2 id) n.o;have r3:=j.cell (p:=⟨w.heap.size+1+1,3,Y⟩) ((aa.drew n_ o).cell z3 id) n.o;have r4:=j.cell (p:=⟨w.heap.size+1+1,4,Y⟩) ((aa.drew n_ o).cell z4 id) n.o;have r5:=j.cell (p:=⟨w.heap.size+1+1,5,Y⟩) ((aa.drew n_ o).cell z5 id) n.o;have r6:=j.cell (p:=⟨w.heap.size+1+1,6,Y⟩) ((aa.drew n_ o).cell z6 id) n.o));have y:M.heap[w.heap.size]?=V (I #[Z U 0] 71 (0,0)):=by rw[j.block w.heap.size (by have:=(lg S.o);exact this) (by rintro(l|l);exact absurd (D.o _ l).2.1 (by omega);exact d.o.q3.1 l.symm)];exact S.o
 have y0:M.cell? ⟨w.heap.size,0,Y⟩=V (Z U 0):=ae y 0;have y1:M.frozen? ⟨w.heap.size,0,Y⟩=false:=aj y 0;have c5:=E y;have d1:=E c1;have a0:=E j;clear r0 r1 r2 r3 r4 r5 r6 q6;clear y c1 j z0 z1 z2 z3 z4 z5 z6 g5 g6 HE;go_wp2;refine leaves_cons (f:=109) (args:=#[X (V ⟨w.heap.size+1,0,Y⟩),X (V ⟨w.heap.size,0,Y⟩)]) (by simp) (by simp[go_sem]) ?_;have b2:=ak (i:=0) c5.o (Z U 0);refine(zN (w.heap.size+1) w.heap.size _ ?_).mono ?_
 ·exact ae b2 0
 rintro e u' f5 ⟨rfl,rfl,rfl⟩;have v:mM R (bB.new c a b) w (M.setCell ⟨w.heap.size,0,Y⟩ (Z U 0)):=by
  have hm:aQ (Z U) M q (put (R.aA.map λp=>(p.1,p.2.val)) (R.aB+1) (bB.new c a b).val):=d1.o;rw[vU,kj d0.o]at hm;have s2:=(d2.o.ai (aa.drew n_ _) k_).rJ (b:=q) rfl a0.o (λk r z=>by
   obtain⟨a1,a2,a3,a4,a5⟩:=D.o k r;rcases d.o.fp k z with h|h
   ·exact a1 h
   ·exact a3 h) hm
  refine⟨V q,s2.ai (aa.setCell _ _ _) (λk r e=>?_),?_,?_⟩
  ·have e':k=w.heap.size:=e;rcases d.o.fp k r with h|h
   ·have:=d.o.old k h;omega
   ·exact d.o.q3.1 (by omega)
  ·refine((a6.o.mono (T:=(·∈R.fp)) (λk _ h=>by rw[h];simp[aF.fp])).trans ((aa.drew n_ o).mono (T:=λk=>k∈C1\/k=q) (λ_ _ h=>h.elim)|>.tr a0.o i_) (λk r h=>?_)).st (.inl (eb _)) _;rcases h with h|h
   ·have:=(D.o k h).2.1;omega
   ·rcases d.o.new with e|⟨e,h1⟩
    ·rw[h];exact(bH R).mem_iff.2 (ef _ (fQ _ (by simp[cL,e])))
    ·omega
  ·rcases d.o.new with e|⟨e,h1⟩
   ·exact .inl e.symm
   ·exact .inr ⟨q,rfl,by omega⟩
 have hb:=ae b2 0;generalize M.setCell ⟨w.heap.size,0,Y⟩ (Z U 0)=W3 at v hb;simp at hb;simp[Leaves,settle,results,Tryz.results47,go_sem,hb];exact v
def gR(a:List ByteArray)(b:ByteArray->List bF)(x:bB):List an:=(cK a b x).take 4
theorem Iv{a:List bF}{t:Int}{v:bF}(h:cX a t=V v):v∈a:=by
 unfold cX at h;split at h
 ·cases h
 ·exact hH h
theorem DG{b:List ByteArray}{a:ByteArray->List bF}{r:an}(h:r∈cK b a x):∃v,r.key∈b/\v∈a r.key/\r.value=v.value/\cX (a r.key) x.to=V v/\r.aO=v.aO/\kC x v=true:=by
 unfold cK at h;obtain⟨k,d,h⟩:=List.mem_filterMap.1 h;have c:=Ts d;unfold fD at h;cases hv:cX (a k) x.to with
 |none=>rw[hv]at h;cases h
 |some v=>
  rw[hv]at h;cases ht:kC x v with
  |true=>
   have e:r=⟨k,v.value,v.aO⟩:=by simp only[nC,ht,Rz,vv]at h;exact h.symm
   subst e;exact⟨v,c,Iv hv,rfl,hv,rfl,ht⟩
  |false=>
   simp only[nC,ht]at h;cases h
theorem xJ(g:Good R)(x:bB):∀r∈cK R.keys (aw R.au) x,(1<=r.key.size/\r.key.size<=10)/\r.value.size<=40:=λr f=>by obtain⟨v,c,d,e,-⟩:=DG f;obtain⟨y,h⟩:=(g.keys _).1 c;have a:=g.hkeys _ (bj h);have b:=((qd g r.key).2.1 v d).2;unfold dw at a;unfold fM at b;rw[e];simp at a b;omega
theorem cM.lt(h:cM w):8<w.heap.size:=World.block_lt_of_cell? _ _ (h 0 (by omega))
theorem LV(R:aF)(x:bB)(i:Nat)(w:ab)(h:aq w R)(g:Good R)(y:bh R.keys)(D:R.keys.length<=200000000000)(F:x.Ok)(B:cM w)(o:i≠8)(C:w.heap[i]?=V (I x.cells 186 (0,0))):ba prog 164 #[X (V ⟨R.sb,0,Y⟩),X (V ⟨i,0,Y⟩)] w (Ac i (pH x (gR R.keys (aw R.au) x)) w):=by
 have f:=xK R x 4 w h g y D (by omega);have A:Small (gR R.keys (aw R.au) x):=λr y=>by have:=xJ g x r (Sd y);omega
 have v:(gR R.keys (aw R.au) x).length<=4:=by unfold gR;rw[js];omega
 rw[show(cK R.keys (aw R.au) x).take 4=gR R.keys (aw R.au) x from rfl]at f;generalize gR R.keys (aw R.au) x=aW at*;obtain⟨d,K,N,G,p,M,L⟩:=x;obtain⟨⟨j,q⟩,⟨k,t⟩,H,⟨n,z⟩,⟨m,u⟩⟩:=F;simp only at j q k t n z m u;obtain⟨a,rfl⟩:=RB j;obtain⟨b,rfl⟩:=RB k;obtain⟨s,rfl⟩:=RB n;obtain⟨c,rfl⟩:=RB m;cases G with
 |false=>
  have:=Ji R.sb i d a b s p c w C (by omega) (by omega) (by omega) B o;simpa[pH]using this
 |true=>
  rcases Sw aW with rfl|⟨l,r,rfl⟩
  ·have:=Jj R.sb i d a b s c p w C (by omega) (by omega) B f;simpa[pH]using this
  ·simp only[Sx]at*;have:=Fe R.sb i d a b s c p l r w C (by omega) (by omega) B o (by simp at v;omega) A f;have e:pH ⟨d,a,b,true,p,s,c⟩ (l++[r])=(dW ((l++[r]).map an.bS),false,⟨d,a,b,true,r.key++⟨#[0]⟩,(lz s (dW ((l++[r]).map an.bS)):Nat),((c+(l.length+1):Nat):Int)⟩):=by unfold pH;rw[el (by simp),el (by simp)];simp
   rw[e];exact this
theorem JI(R:aF)(n:Int)(w:ab)(h:aq w R)(x:aD R.aA n=Y):ba prog 114 #[X (V ⟨R.sb,0,Y⟩),Z U n] w λe C=>e=ay (bt #[O ⟨#[]⟩,ao false,Z U 1])/\aa n_ w C:=by
 have z:=mf_;have o:=E (iQ R n _ (h.ai (((aa.refl n_ w).al (I #[Z U 0] 71)).al (I #[J Y 0 0] 114)) k_));rw[x]at o;simp only[yg,Rk,bB.val,bB.zero]at o;clear h x;generalize R.sb=D at*;go_enter_defers func114,ntmps114;go_wp2_with fail;refine o.o.mono ?_;rintro e c ⟨rfl,l⟩;have a:c.heap[w.heap.size]?=V (I #[Z U 0] 71 (0,0)):=(l.block w.heap.size (by simp;omega) id).trans ((Below.heap_alloc _ _ _ (by simp)).trans (az w _));have j:c.heap[w.heap.size+1]?=V (I #[J Y 0 0] 114 (0,0)):=(l.block (w.heap.size+1) (by simp) id).trans (by have:=az (w.alloc (I #[Z U 0] 71)) (I #[J Y 0 0] 114);simpa using this);have A:w.heap.size+2<=c.heap.size:=by have:=l.size;simp at this;omega
 have G:c.cell? ⟨w.heap.size,0,Y⟩=V (Z U 0):=ae a 0;have H:c.frozen? ⟨w.heap.size,0,Y⟩=false:=aj a 0;have q:=E a;have d:=E j;have r:=E l;have B:w.heap.size<c.heap.size:=by omega
 clear a j l o;go_wp2;refine leaves_cons (f:=163) (args:=#[X (V ⟨w.heap.size+1,0,Y⟩),X (V ⟨w.heap.size,0,Y⟩)]) (by simp) (by simp[go_sem]) ?_;have b:=ak (i:=0) q.o (Z U 1);have k:=((aa.setCell c ⟨w.heap.size,0,Y⟩ (Z U 1)).block (w.heap.size+1) (lg d.o) (by simp)).trans d.o;have s:aa n_ w (c.setCell ⟨w.heap.size,0,Y⟩ (Z U 1)):=((((aa.refl n_ w).al _).al _).tr r.o i_).st (p:=⟨w.heap.size,0,Y⟩) (.inl (eb _)) _;generalize c.setCell ⟨w.heap.size,0,Y⟩ (Z U 1)=w2 at*;refine(Ft (w.heap.size+1) w.heap.size 1 (by omega) _ ?_ ?_).mono ?_
 ·exact ae ((Below.heap_alloc _ _ _ (lg k)).trans k) 0
 ·exact ae ((Below.heap_alloc _ _ _ (lg b)).trans b) 0
 rintro e F m ⟨rfl,rfl,v⟩;have y:m.cell? ⟨w.heap.size,0,Y⟩=V (Z U 1):=v.cell (p:=⟨w.heap.size,0,Y⟩) (ae ((Below.heap_alloc _ _ _ (lg b)).trans b) 0) id;have t:aa n_ w m:=(s.al _).tr v i_;simp[Leaves,settle,results,Tryz.results114,go_sem,y];exact t
def oU(R:aF)(n:Int)(a:Bool)(x:bB)(w b:ab):Prop:=
 aq b {R with aA:=if a=true then del R.aA n else put R.aA n x}/\aa (·∈R.fp) w b
theorem JK(R:aF)(n:Int)(x:bB)(w:ab)(h:aq w R)(g:Good R)(hr:bh R.keys)(hl:R.keys.length<=200000000000)(ok:x.Ok)(ht:cM w)(hn:aD R.aA n=V x):ba prog 114 #[X (V ⟨R.sb,0,Y⟩),Z U n] w λe w'=>e=ay (bt #[O (aU (pH x (gR R.keys (aw R.au) x)).1),ao (pH x (gR R.keys (aw R.au) x)).2.1,Z U 0])/\oU R n (pH x (gR R.keys (aw R.au) x)).2.1 (pH x (gR R.keys (aw R.au) x)).2.2 w w':=by
 have c5:=mf_;obtain⟨q,s⟩:∃q,R.cm=V q:=by
  cases s:R.cm with
  |some q=>exact⟨q,rfl⟩
  |none=>
   have:=h.af.cU;rw[s]at this;have h2:(R.aA.map λp=>(p.1,p.2.val))=[]:=this;have h3:R.aA=[]:=by simpa using h2
   rw[h3]at hn;cases hn
 have c9:=ht.lt;have HF:=E (iQ R n _ (h.ai (((aa.refl n_ w).al (I #[Z U 0] 71)).al (I #[J Y 0 0] 114)) k_));rw[hn]at HF;simp only[lp,Ra]at HF;have HG:=E (λW c (hW:aa n_ w W) (K:w.heap.size<=c) (hx:W.heap[c]?=V (I x.cells 186 (0,0)))=>LV R x c W (h.ai hW k_) g hr hl ok (ht.ai hW id) (by omega) hx);have b6:QS (x.val=.agg x.cells):=rfl;have l:=bG h;have c8:=h.lt;have a2:q∈R.fp:=(bH R).mem_iff.2 (ef _ (fQ _ (by simp[cL,s])));have c7:=l q a2;have c0:R.sb≠q:=λe=>by have a9:=(bH R).nodup_iff.1 h.nodup;rw[ey]at a9;exact a9.1 (e▸fQ _ (by simp[cL,s]))
 have b5:=E h;have C:=E s;have c4:=E hn;generalize pH x (gR R.keys (aw R.au) x)=res at*;obtain⟨tx,b0,f1,a1,t1,h1,n1,s1,c1⟩:=res;obtain⟨xf,xa,xt,xh,xn,xs,xc⟩:=x;simp only[bB.val]at HF;simp only[bB.cells]at HG;clear h g hr hl ok ht s hn b6;go_enter_defers func114,ntmps114;go_wp2_with fail;refine HF.o.mono ?_;rintro e L ⟨rfl,k1⟩;have a4:aa n_ w L:=(((aa.refl n_ w).al _).al _).tr k1 i_;have a8:L.heap[w.heap.size]?=V (I #[Z U 0] 71 (0,0)):=(k1.block w.heap.size (by simp;omega) id).trans ((Below.heap_alloc _ _ _ (by simp)).trans (az w _));have a6:iP L (w.heap.size+1) [] [w.heap.size+1]:=(fU w (I #[Z U 0] 71)).ai k1 k_;have c2:w.heap.size+2<=L.heap.size:=by have:=k1.size;simp at this;omega
 have N:=E (HG.o _ L.heap.size (a4.al (I #[ao xf,Z U xa,Z U xt,ao xh,O xn,Z .u32 xs,Z U xc] 186)) (by omega) (az L _));have b2:=E a8;have b1:=E a6;have b3:=E a4;clear a8 a6 k1 a4 HF HG;go_wp2_with fail;refine N.o.mono ?_;rintro e m ⟨rfl,d,k2⟩;have B:aa n_ w m:=(b3.o.al _).trans k2 (λk t h=>by omega);have F:m.heap[w.heap.size]?=V (I #[Z U 0] 71 (0,0)):=(k2.block w.heap.size (by simp;omega) (by omega)).trans ((Below.heap_alloc _ _ _ (by omega)).trans b2.o);have D:iP m (w.heap.size+1) [] [w.heap.size+1]:=(b1.o.ai (aa.alloc n_ _ _) k_).ai k2 (λk t e=>by simp at t;omega);have r:=b5.o.ai B k_;have c6:m.cell? ⟨R.sb,6,Y⟩=V (.map (V q)):=(r.cell 6).trans (by rw[<-C.o];rfl);have G:aQ (Z U) m q (R.aA.map λp=>(p.1,p.2.val)):=by have:=r.af.cU;rw[C.o]at this;exact this
 have a3:L.heap.size+1<=m.heap.size:=by have:=k2.size;simp at this;omega
 obtain⟨c,K⟩:∃c,L.heap.size=c:=⟨_,rfl⟩
 rw[K]at d k2 c2 a3⊢;have d0:w.heap.size+2<=c:=by omega
 cases b0 with
 |true=>
  have HR:=E (xo (w.heap.size+1) [] [w.heap.size+1] q n _ ((aD R.aA n).getD bB.zero) m D G (kV _ _) (by simp;omega) (by simp));have v:=E F;have P:=E B;have S:=E r;clear F B r D G k2 d N K a3;go_wp2_with(go_at_call 118;go_must(refine(HR.o).mono ?_;rintro e u ⟨rfl,b7,C3,b9,b8,a,a7,A⟩;have j:u.heap[w.heap.size]?=V (I #[Z U 0] 71 (0,0)):=(a.block w.heap.size (lg v.o) (by rintro(H|H);(simp at H);omega)).trans v.o;have y0:u.cell? ⟨w.heap.size,0,Y⟩=V (Z U 0):=ae j 0;have y1:u.frozen? ⟨w.heap.size,0,Y⟩=false:=aj j 0;have M:=E j;have Q:=E A;have y:=E a;clear j A a))
  refine leaves_cons (f:=163) (args:=#[X (V ⟨w.heap.size+1,0,Y⟩),X (V ⟨w.heap.size,0,Y⟩)]) (by simp) (by simp[go_sem]) ?_;have z:=ak (i:=0) M.o (Z U 0);refine(CL (w.heap.size+1) w.heap.size _ ?_).mono ?_
  ·exact ae z 0
  rintro e u' c3 ⟨rfl,rfl,rfl⟩;have b:oU R n true ⟨f1,a1,t1,h1,n1,s1,c1⟩ w (u.setCell ⟨w.heap.size,0,Y⟩ (Z U 0)):=by
   have hm:=Q.o;rw[Ce]at hm;have s3:=S.o.rJ C.o y.o (λk t hf=>by have:=l k hf;simp at t;omega) hm;refine⟨s3.ai (aa.setCell _ _ _) (λk t e=>?_),?_⟩
   ·have e':k=w.heap.size:=e;have a0:k∈R.fp:=t;have:=l k a0;omega
   ·refine((P.o.mono (λ_ _ h=>h.elim)).trans y.o (λk t h=>?_)).st (.inl (eb _)) _;rcases h with h|h
    ·simp at h;omega
    ·rw[h];exact a2
  have T:=ae z 0;generalize u.setCell ⟨w.heap.size,0,Y⟩ (Z U 0)=W3 at b T;simp at T;simp[Leaves,settle,results,Tryz.results114,go_sem,T];exact b
 |false=>
  have HR:=E (tj (w.heap.size+1) [] [w.heap.size+1] q n _ ((aD R.aA n).getD bB.zero) ⟨f1,a1,t1,h1,n1,s1,c1⟩ m.drew (D.ai (aa.drew n_ _) k_) (G.ai (aa.drew n_ _) id) (kV _ _) (by simp;omega) (by simp));have v:=E F;have P:=E B;have S:=E r;have z0:=ae d 0;have z1:=ae d 1;have z2:=ae d 2;have z3:=ae d 3;have z4:=ae d 4;have z5:=ae d 5;have z6:=ae d 6;simp[bB.cells]at z0 z1 z2 z3 z4 z5 z6;have b4:QS (¬(R.sb∈[w.heap.size+1]\/R.sb=q)):=λh'=>h'.elim (λH=>by simp at H;omega) (λe=>c0 e);have o:QS (¬(c∈[w.heap.size+1]\/c=q)):=λh'=>h'.elim (λH=>by simp at H;omega) (λe=>by omega);simp only[bB.val]at HR;clear F B r D G k2 d N K a3;go_wp2_with fail;go_region_held3(λW=>W.cell? ⟨R.sb,6,Y⟩=V (.map (V q))/\W.cell? ⟨c,0,Y⟩=V (ao f1)/\W.cell? ⟨c,1,Y⟩=V (Z U a1)/\W.cell? ⟨c,2,Y⟩=V (Z U t1)/\W.cell? ⟨c,3,Y⟩=V (ao h1)/\W.cell? ⟨c,4,Y⟩=V (O n1)/\W.cell? ⟨c,5,Y⟩=V (Z .u32 s1)/\W.cell? ⟨c,6,Y⟩=V (Z U c1)) (go_keep) (first|(go_at_call 112;refine(HR.o).mono ?_;rintro e u ⟨rfl,b7,C3,b9,b8,a,a7,A⟩;have q6:=a.cell (p:=⟨R.sb,6,Y⟩) ((aa.drew n_ m).cell c6 id) b4.o;have r0:=a.cell (p:=⟨c,0,Y⟩) ((aa.drew n_ m).cell z0 id) o.o;have r1:=a.cell (p:=⟨c,1,Y⟩) ((aa.drew n_ m).cell z1 id) o.o;have r2:=a.cell (p:=⟨c,2,Y⟩) ((aa.drew n_ m).cell z2 id) o.o;have r3:=a.cell (p:=⟨c,3,Y⟩) ((aa.drew n_ m).cell z3 id) o.o;have r4:=a.cell (p:=⟨c,4,Y⟩) ((aa.drew n_ m).cell z4 id) o.o;have r5:=a.cell (p:=⟨c,5,Y⟩) ((aa.drew n_ m).cell z5 id) o.o;have r6:=a.cell (p:=⟨c,6,Y⟩) ((aa.drew n_ m).cell z6 id) o.o));have j:u.heap[w.heap.size]?=V (I #[Z U 0] 71 (0,0)):=(a.block w.heap.size (lg v.o) (by rintro(H|H);(simp at H);omega)).trans v.o;have y0:u.cell? ⟨w.heap.size,0,Y⟩=V (Z U 0):=ae j 0;have y1:u.frozen? ⟨w.heap.size,0,Y⟩=false:=aj j 0;have M:=E j;have Q:QS (aQ (Z U) u q (put (R.aA.map λp=>(p.1,p.2.val)) n (bB.val ⟨f1,a1,t1,h1,n1,s1,c1⟩))):=A;have y:=E a;clear j A a r0 r1 r2 r3 r4 r5 r6 q6 z0 z1 z2 z3 z4 z5 z6 c6;go_wp2;refine leaves_cons (f:=163) (args:=#[X (V ⟨w.heap.size+1,0,Y⟩),X (V ⟨w.heap.size,0,Y⟩)]) (by simp) (by simp[go_sem]) ?_;have z:=ak (i:=0) M.o (Z U 0);refine(CL (w.heap.size+1) w.heap.size _ ?_).mono ?_
  ·exact ae z 0
  rintro e u' c3 ⟨rfl,rfl,rfl⟩;have b:oU R n false ⟨f1,a1,t1,h1,n1,s1,c1⟩ w (u.setCell ⟨w.heap.size,0,Y⟩ (Z U 0)):=by
   have hm:=Q.o;rw[vU]at hm;have s3:=(S.o.ai (aa.drew n_ _) k_).rJ C.o y.o (λk t hf=>by have:=l k hf;simp at t;omega) hm;refine⟨s3.ai (aa.setCell _ _ _) (λk t e=>?_),?_⟩
   ·have e':k=w.heap.size:=e;have a0:k∈R.fp:=t;have:=l k a0;omega
   ·refine(((P.o.dr).mono (λ_ _ h=>h.elim)).trans y.o (λk t h=>?_)).st (.inl (eb _)) _;rcases h with h|h
    ·simp at h;omega
    ·rw[h];exact a2
  have T:=ae z 0;generalize u.setCell ⟨w.heap.size,0,Y⟩ (Z U 0)=W3 at b T;simp at T;simp[Leaves,settle,results,Tryz.results114,go_sem,T];exact b
end
theorem oS.rJ{d:Nat}{e:ab}{c:Option Nat}{b:Int}(h:oS N w R)(l:N<=d)(j:aq e {R with cm:=c,aB:=b,aA:=a})(k:R.aB<=b)(f:b<=d)(i:∀p∈a,1<=p.1/\p.1<=b/\p.2.Ok)(g:a.length<=4):oS d e {R with cm:=c,aB:=b,aA:=a}:=
 ⟨j,⟨h.cD.now,h.cD.aJ,h.cD.dm,h.cD.numbers,h.cD.aI,h.cD.writes30,h.cD.nF,h.cD.rising,h.cD.fH,h.cD.filled,h.cD.hkeys,h.cD.wy,h.cD.sorted,h.cD.keys⟩,⟨h.tied.bP,h.tied.keys,h.tied.filled⟩,h.aK,
  by have:=h.dR;show R.aJ<=_;omega,by have:=h.mX;show R.keys.length<=_;omega,by have:=h.xL;show R.total<=_;omega,h.aN,by have:=h.du;show R.cF<=_;omega,⟨by have:=h.fG.1;show 0<=b;omega,f⟩,i,g⟩
theorem NU{b:Option Nat}{d:Int}(h:b=R.cm\/∃q,b=V q/\n<=q):∀k∈aF.fp {R with cm:=b,aB:=d,aA:=a},k∈R.fp\/n<=k:=λk c=>by
 rcases h with rfl|⟨q,rfl,e⟩
 ·exact .inl c
 ·rw[(bH _).mem_iff]at c;rw[(bH R).mem_iff];simp only[cL,cT,cQ,RM]at c⊢;rcases c with h|(h|h)|h
  ·exact .inl (.inl h)
  ·exact .inl (.inr (.inl (.inl h)))
  ·right;simp at h;omega
  ·exact .inl (.inr (.inr h))
def aX.tq(A:aX)(c:Bool)(a b:Int):Int:=jk (A.hasB b) (A.hasB a) A.aA.length (cK A.keys A.aE (bB.new c a b)).length (bB.new c a b)
def aX.eH(A:aX)(c:Bool)(a b:Int):Int×Int:=if A.tq c a b=0 then(A.aB+1,0)else(0,A.tq c a b)
def aX.jJ(A:aX)(c:Bool)(a b:Int):aX:=if A.tq c a b=0 then{A with aB:=A.aB+1,aA:=A.aA++[(A.aB+1,bB.new c a b)]}else A
theorem AG(b a:Bool)(n c:Nat)(x:bB):jk b a n c x=0\/1<=jk b a n c x/\jk b a n c x<=9:=by
 unfold jk;split
 ·exact .inr (by omega)
 ·split
  ·exact .inr (by omega)
  ·split
   ·exact .inr (by omega)
   ·exact .inl rfl
theorem Cu{a e:Bool}(h:jk a e n b x=0):a=true/\kN x.full x.gY x.to=true/\n<4/\b<=1000:=by
 unfold jk at h;split at h
 ·omega
 ·rename_i c;split at h
  ·omega
  ·rename_i d;split at h
   ·omega
   ·rename_i f;refine⟨?_,by simpa using d,by omega,by omega⟩;cases a with
    |true=>rfl
    |false=>exact absurd (.inl rfl) c
theorem EE{c:Bool}{a b:Int}(h:kN c a b=true):(bB.new c a b).Ok:=by unfold kN gB at h;simp at h;exact⟨⟨by show 0<=a;omega,by show a<=_;omega⟩,⟨by show 0<=b;omega,by show b<=_;omega⟩,eL _,⟨ya _,by show(0:Int)<_;omega⟩,⟨ya _,by show(0:Int)<=_;omega⟩⟩
theorem Ou{A:aX}(a:Bool)(x y:Int)(h:ml N w b A F)(D:N<=100000000000):ba prog 47 #[X (V ⟨b,0,Y⟩),ao a,Z U x,Z U y] w λe l=>e=ay (bt #[Z U (A.eH a x y).1,Z U (A.eH a x y).2])/\gT (N+1) b (A.jJ a x y) F w l:=by
 have u:=h;obtain⟨R,c,rfl,rfl,rfl⟩:=h;have z:=c.mX;have k:=c.fG;unfold aX.eH aX.jJ;have j:R.gE.tq a x y=jk (decide (R.aK<=y)&&decide (y<=R.now)) (decide (R.aK<=x)&&decide (x<=R.now)) R.aA.length (cK R.keys (aw R.au) (bB.new a x y)).length (bB.new a x y):=rfl;rcases AG (decide (R.aK<=y)&&decide (y<=R.now)) (decide (R.aK<=x)&&decide (x<=R.now)) R.aA.length (cK R.keys (aw R.au) (bB.new a x y)).length (bB.new a x y)with h0|⟨m,h9⟩
 ·rw[j,h0,fy rfl,fy rfl];have d:aD R.aA (R.aB+1)=Y:=dU.2 (λp f e=>by have:=(c.ji p f).2.1;omega);obtain⟨-,i,B,-⟩:=Cu h0;have g:ba prog 47 #[X (V ⟨R.sb,0,Y⟩),ao a,Z U x,Z U y] w λe l=>e=ay (bt #[Z U (R.aB+1),Z U 0])/\mM R (bB.new a x y) w l:=by
   cases hcm:R.cm with
   |some q=>exact Ga R a x y w c.st c.cD c.tied.bP (by omega) c.kH h0 k.1 (by omega) d q hcm
   |none=>exact Kr R a x y w c.st c.cD c.tied.bP (by omega) c.kH h0 k.1 (by omega) d hcm
  refine g.mono ?_;rintro e l ⟨rfl,n,m,s,t⟩;refine⟨rfl,aF.fp {R with cm:=n,aB:=R.aB+1,aA:=R.aA++[(R.aB+1,bB.new a x y)]},⟨_,c.rJ (by omega) m (by omega) (by omega) (λp f=>?_) (by simp;omega),rfl,rfl,rfl⟩,s,NU t⟩;rcases cQ.1 f with f|f
  ·obtain⟨o,C,r⟩:=c.ji p f;exact⟨o,by omega,r⟩
  ·simp at f;subst f;exact⟨by show 1<=R.aB+1;omega,ya _,EE i⟩
 ·rw[j,el (by omega),el (by omega)];refine(Kq R a x y _ w c.st c.cD c.tied.bP (by omega) c.kH rfl m h9).mono ?_;rintro e l ⟨rfl,v⟩;exact⟨rfl,u.after (by omega) v⟩
def aX.fg(A:aX)(n:Int):List UInt8×Bool×Int:=match aD A.aA n with
 |none=>([],false,1)
 |some x=>((pH x (gR A.keys A.aE x)).1,(pH x (gR A.keys A.aE x)).2.1,0)
def aX.lr(A:aX)(n:Int):aX:=match aD A.aA n with
 |none=>A
 |some x=>{A with aA:=if(pH x (gR A.keys A.aE x)).2.1=true then del A.aA n else put A.aA n (pH x (gR A.keys A.aE x)).2.2}
theorem Ps{a:List an}(h:x.Ok)(k:x.count<=999999999996)(j:a.length<=4)(g:∀r∈a,r.key.size<=10):(pH x a).2.2.Ok:=by
 obtain⟨b,c,d,f,e⟩:=h;unfold pH;split
 ·exact⟨b,c,d,⟨by simp,by have:=tG x.sum.toNat (cS x.full x.gY.toNat x.to.toNat);simp only;omega⟩,e⟩
 ·split
  ·exact⟨b,c,d,f,e⟩
  ·refine⟨b,c,?_,⟨by simp,by have:=tG x.sum.toNat (dW (a.map an.bS));simp only;omega⟩,⟨by simp only;omega,by simp only;omega⟩⟩;show(((a.getLast?.map an.key).getD ByteArray.empty)++⟨#[0]⟩).size<=11;rw[nW]
   have:((a.getLast?.map an.key).getD ByteArray.empty).size<=10:=by
    cases hl:a.getLast? with
    |none=>exact eL _
    |some r=>exact g r (SF hl)
   have i:(⟨#[0]⟩:ByteArray).size=1:=rfl;omega
theorem Mk{v:bB}(h:p∈put l s v):p=(s,v)\/p∈l:=by
 induction l with
 |nil=>simp[put]at h;exact .inl h
 |cons q r ih=>
  obtain⟨a,y⟩:=q;unfold put at h;by_cases e:a=s
  ·rw[fy e]at h;rcases cT.1 h with h|h
   ·exact .inl h
   ·exact .inr (by simp[h])
  ·rw[el e]at h;rcases cT.1 h with h|h
   ·exact .inr (by simp[h])
   ·exact(ih h).imp id (λh=>by simp[h])
theorem CC(h:p∈del l s):p∈l:=by
 induction l with
 |nil=>exact h
 |cons q r ih=>
  obtain⟨a,y⟩:=q;unfold del at h;by_cases e:a=s
  ·rw[fy e]at h;simp[h]
  ·rw[el e]at h;rcases cT.1 h with h|h
   ·simp[h]
   ·have:=ih h;simp[this]
theorem wK:∀(l:List (Int×bB)) (s:Int),(del l s).length<=l.length
 |[],s=>eb _
 |(a,y)::r,s=>by
  unfold del;split
  ·simp
  ·have:=wK r s;simp;omega
theorem PD{A:aX}(n:Int)(h:ml N w b A F)(B:N<=100000000000)(v:cM w)(s:∀x,aD A.aA n=V x->x.count<=999999999996):ba prog 114 #[X (V ⟨b,0,Y⟩),Z U n] w λe i=>e=ay (bt #[O (aU (A.fg n).1),ao (A.fg n).2.1,Z U (A.fg n).2.2])/\gT N b (A.lr n) F w i:=by
 have q:=h;obtain⟨R,a,rfl,rfl,rfl⟩:=h;have t:=a.mX;unfold aX.fg aX.lr;cases hx:aD R.aA n with
 |none=>
  rw[show aD R.gE.aA n=Y from hx];refine(JI R n w a.st hx).mono ?_;rintro e i ⟨rfl,d⟩;exact⟨rfl,q.after (by omega) d⟩
 |some x=>
  rw[show aD R.gE.aA n=V x from hx];obtain⟨j,l,g⟩:=a.ji _ (bj hx);simp only at j l g;refine(JK R n x w a.st a.cD a.tied.bP (by omega) g v hx).mono ?_;rintro e i ⟨rfl,m,o⟩;have f:(pH x (gR R.keys (aw R.au) x)).2.2.Ok:=Ps g (s x hx) (by unfold gR;rw[js];omega) (λr u=>by have:=xJ a.cD x r (Sd u);omega);have y:R.gE.keys=R.keys:=rfl;have z:R.gE.aE=aw R.au:=rfl;refine⟨rfl,R.fp,⟨_,a.rJ (eb _) m (ya _) a.fG.2 (λp c=>?_) ?_,rfl,rfl,rfl⟩,o,λk d=>.inl d⟩
  ·split at c
   ·exact a.ji p (CC c)
   ·rcases Mk c with rfl|c
    ·exact⟨j,l,f⟩
    ·exact a.ji p c
  ·split
   ·have:=wK R.aA n;have:=a.kH;omega
   ·rw[oc,hx];exact a.kH
theorem Nb(b a:Nat)(w:ab)(d:w.cell? ⟨a,0,Y⟩=V (Z U 0)):CallsD prog 116 #[X (V ⟨b,0,Y⟩),X (V ⟨a,0,Y⟩)] .returning w λe g h=>e=ay (bt #[])/\g=.returning/\h=w:=by refine callsD_of_wpS func116 rfl λc i f=>?_;apply wpS_region;simp[wpOpsS,go_sem,recoverD,f,ntmps116];refine(gj b a w d).mono ?_;rintro e j ⟨rfl,rfl⟩;cases c;simp_all[bodyPostS,results,Tryz.results116]
theorem Gc(a b:Nat)(n:Int)(g:1<=n/\n<=9)(w:ab)(d:w.cell? ⟨a,0,Y⟩=V (J Y 0 0))(f:w.cell? ⟨b,0,Y⟩=V (Z U n)):CallsD prog 116 #[X (V ⟨a,0,Y⟩),X (V ⟨b,0,Y⟩)] .returning w λe i j=>e=ay (bt #[])/\i=.returning/\aa n_ w j:=by refine callsD_of_wpS func116 rfl λc k h=>?_;apply wpS_region;simp[wpOpsS,go_sem,recoverD,h,ntmps116];refine(eG a b n g w d f).mono ?_;rintro e m ⟨rfl,l⟩;cases c;simp_all[bodyPostS,results,Tryz.results116]
theorem Ip(b a:Nat)(w:ab)(d:w.cell? ⟨a,0,Y⟩=V (Z U 0)):CallsD prog 119 #[X (V ⟨b,0,Y⟩),X (V ⟨a,0,Y⟩)] .returning w λe g h=>e=ay (bt #[])/\g=.returning/\h=w:=by refine callsD_of_wpS func119 rfl λc i f=>?_;apply wpS_region;simp[wpOpsS,go_sem,recoverD,f,ntmps119];refine(gj b a w d).mono ?_;rintro e j ⟨rfl,rfl⟩;cases c;simp_all[bodyPostS,results,Tryz.results119]
theorem jX(a b:Nat)(n:Int)(g:1<=n/\n<=9)(w:ab)(d:w.cell? ⟨a,0,Y⟩=V (J Y 0 0))(f:w.cell? ⟨b,0,Y⟩=V (Z U n)):CallsD prog 119 #[X (V ⟨a,0,Y⟩),X (V ⟨b,0,Y⟩)] .returning w λe i j=>e=ay (bt #[])/\i=.returning/\aa n_ w j:=by refine callsD_of_wpS func119 rfl λc k h=>?_;apply wpS_region;simp[wpOpsS,go_sem,recoverD,h,ntmps119];refine(eG a b n g w d f).mono ?_;rintro e m ⟨rfl,l⟩;cases c;simp_all[bodyPostS,results,Tryz.results119]
end Go.Proofs.YtjbkfdeldlajhaaGreatDoor
