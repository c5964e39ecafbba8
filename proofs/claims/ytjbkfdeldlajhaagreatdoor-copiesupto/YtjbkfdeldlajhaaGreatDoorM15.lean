import Derived.Test.YtjbkfdeldlajhaaGreatDoorM14
set_option linter.unusedSimpArgs false
namespace Go.Proofs.YtjbkfdeldlajhaaGreatDoor
set_option maxRecDepth 100000
set_option maxHeartbeats 2000000
open Go.RowKit Go.Shelf Go.Proofs.Tryz
open Option renaming none->Y,some->V
open Go.Value renaming int->Z,string->O,slice->J,pointer->X,bool->ao,tuple->bt
open Go.IntKind renaming i64->U
open Go.Obj renaming cells->I
open Go renaming World->ab,Value->ax,Calls->ba,TypeId->cI
open Go.Ending renaming returned->ay
variable{w:ab}{N b n:Nat}{F:List Nat}{v:ax}{a:List ByteArray}{f:ax->Int}{t c:Int}{S:Nat->Prop}
section
attribute [local go_sem] Oper.semAt_some
def nA{α:Type}(a:Int)(l:List α):List α:=if a<0 then l else l.take a.toNat
def Ic(R:aF)(x:mO)(a:ByteArray)(b:Int)(w:ab)(e:Ending)(f:ab):Prop:=
 ∃v d c,e=ay (bt #[v,Z U 0])/\bh c/\c.Perm (x.ar.map (·.1))/\jM (R.keys.drop (below R.keys a)) (c.drop (below c a)) [] [] d/\Row f 68 2 v (nA b (d.filterMap (gA x.ar (aw R.au) x.aI))).length ((nA b (d.filterMap (gA x.ar (aw R.au) x.aI))).flatMap df)/\(∀g,v.ownBlock=V g->w.heap.size<=g)/\aa n_ w f
theorem uh{a b:List ByteArray}:∀(n:Nat) (c d g:List ByteArray),c.length+d.length<=n->jM a b c d g->∃rest,jM a b [] [] (g++rest)
 |0,c,d,g,hn,h=>by have i:c=[]:=hU (by omega);have j:d=[]:=hU (by omega);subst i;subst j;exact⟨[],by simpa using h⟩
 |n+1,c,d,g,hn,h=>by
  by_cases f:c≠[]\/d≠[]
  ·have l:=od c d f;obtain⟨rest,k⟩:=uh n _ _ _ (by omega) (h.step f);exact⟨dJ c d::rest,by simpa using k⟩
  ·have i:c=[]:=RF (λe=>f (.inl e));have j:d=[]:=RF (λe=>f (.inr e));subst i;subst j;exact⟨[],by simpa using h⟩
theorem Ky{α:Type}{a:Int}{l:List α}(h:a<0\/(l.length:Int)<=a):nA a l=l:=by
 unfold nA;split
 ·rfl
 ·exact ep (by omega)
theorem Gg{α:Type}{a:Int}{l r:List α}(h:(l.length:Int)=a):nA a (l++r)=l:=by unfold nA;rw[el (by omega),RU (by omega),ep (by omega)]
def KW(f:ByteArray->Option (ByteArray×ByteArray))(a:Int)(c d e:Nat)(g:ab)(b:List ByteArray)(W:ab):Prop:=
 vH f c d e g b W/\(a<0\/((b.filterMap f).length:Int)<=a)
def OG(f:ByteArray->Option (ByteArray×ByteArray))(b:Int)(e g h:Nat)(i:ab)(c:Code)(j:List ByteArray)(W:ab):Prop:=
 ∃a d,j=a++[d]/\vH f e g h i a W/\((a.filterMap f).length:Int)=b/\c=.exit 0
theorem MN{t:cI}{l a:List (ByteArray×ByteArray)}(e:a=l)(h:Row w t 2 v l.length (l.flatMap df)):Row w t 2 v a.length (a.flatMap df):=by rw[e];exact h
theorem xu(h:bh a)(n:Nat):bh (a.drop n):=h.sublist (Tm _ _)
theorem sD{f:ByteArray->Option (ByteArray×ByteArray)}{s t:Nat}{G:List Nat}{l W u:ab}{w:ax}{i:List ByteArray}{h:ByteArray}{e:cI}{m:Nat}{N:List ax}{b:Int}(a:Act)(P:n<l.heap.size)(F:∀k∈s::t::G,k<l.heap.size/\k≠n)(r:Row W e 2 v m N)(j:∀g,v.ownBlock=V g->l.heap.size<=g)(c:aa (λk=>k=n\/k=s\/k=t) l W)(q:aa (λk=>k=n\/V k=v.ownBlock) W u)(x:u.heap[n]?=V (I #[w] 66 (0,0)))(B:Row u 68 2 w ((i++[h]).filterMap f).length (((i++[h]).filterMap f).flatMap df))(A:∀g,w.ownBlock=V g->l.heap.size<=g)(z:b<0\/(((i++[h]).filterMap f).length:Int)<=b):GR l.heap.size (OX (s::t::G)) (KW f b n s t l) (OG f b n s t l) (i++[h]) W .normal a u:=by
 refine⟨⟨q.size,λk o D d H=>?_⟩,⟨q.size,λk y=>?_⟩,⟨w,x,B,A,c.trans q (λk K e=>?_)⟩,z⟩
 ·refine(q.block k (lg d) ?_).trans d;rintro(e|e)
  ·omega
  ·obtain⟨C,p⟩:=r.qf e.symm;rw[p]at d;cases d;cases H
 ·obtain⟨L,M⟩:=F k y;refine q.block k (kz L c.size) ?_;rintro(e|e)
  ·exact M e
  ·have:=j k e.symm;omega
 ·rcases e with e|e
  ·exact .inl e
  ·have:=j k e.symm;omega
theorem Kf(R:aF)(n:Int)(x:mO)(a:ByteArray)(d:Int)(w:ab)(h:aq w R)(g:Good R)(t:il R)(hn:aD R.af n=V x)(f4:R.keys.length<1000000000000)(j0:a.size<=10)(j1:-9223372036854775808<=d)(j2:d<=9223372036854775807):ba prog 62 #[X (V ⟨R.sb,0,Y⟩),Z U n,O a,Z U d] w (Ic R x a d w):=by
 have f2:aa n_ w ((w.alloc (I #[X (V ⟨R.sb,0,Y⟩)] 32)).alloc (I #[Z U d] 3)):=((aa.refl _ w).al _).al _;have hf:=fv R n _ (h.ai f2 k_);rw[hn]at hf;simp only[uW,lp,bE]at hf;have HF:=E hf;have i9:decide (10<(a.size:Int))=false:=kg (by omega);have a4:=E h;have HG:=E g;have HT:=E t;have HN:=E hn;clear hf f2 h g t hn;refine(callsIn_wide (n:=8)).1 ?_;refine callsIn_of_wp_marks func62 rfl trivial ?_ rfl;simp only[ntmps62,vE,fN,pa,Nat.reduceAdd,Nat.reduceSub,QW,QX,Rv,Re,uE,tI];gi_wp2_with (refine⟨trivial,?_⟩;gi_at_call 65;go_must(refine(callsIn_wide.2 HF.o).mono ?_;rintro e w1 ⟨rfl,rfl⟩))
 obtain⟨LA,d7⟩:∃LA,LA=R.keys.drop (below R.keys a):=⟨_,rfl⟩
 have a7:QS (∀W,aa n_ w W->ba prog 126 #[X (V ⟨R.sb,7,Y⟩),O a] W λe w'=>∃v,e=ay v/\pd R.kv.ownBlock.toList w' v LA/\aa n_ W w'):=λW hW=>by rw[d7];exact qB R a W (a4.o.ai hW k_) HT.o.bP f4
 have e5:QS (∀W,aa n_ w W->ba prog 127 #[X (V ⟨x.eT,0,Y⟩),O a] W λe w'=>∃v Q F G,e=ay v/\QS (F=Q.drop (below Q a))/\pd G w' v F/\bh Q/\Q.Perm (x.ar.map (·.1))/\aa n_ W w'/\(∀k∈G,W.heap.size<k/\k<w'.heap.size)):=λW hW=>by
  obtain⟨c0,c1,hm⟩:=(a4.o.ai hW k_).af.work (bj HN.o);have g8:=HG.o.writes30 _ (bj HN.o);have h9:=HG.o.nF _ (bj HN.o);refine(Jr x.eT x.mb a _ W c1 hm (λp hp=>?_) (by simp;simp at g8;omega)).mono ?_
  ·obtain⟨q,hq,rfl⟩:=fI.1 hp;have:=(h9 q hq).1;simp[dw]at this;unfold maxLen;simp;omega
  ·rintro e w' ⟨v,Q,G,h1,h2,h3,h4,h5,h6⟩;exact⟨v,Q,_,G,h1,E rfl,h2,h3,by simpa[tO,tQ]using h4,h5,h6⟩
 have e0:=E d7;clear HF d7;have f3:aa n_ w ((((w.alloc (I #[X (V ⟨R.sb,0,Y⟩)] 32)).alloc (I #[Z U d] 3)).alloc (I #[X (V ⟨x.eT,0,Y⟩)] 123)).alloc (I #[J Y 0 0] 66)):=((((aa.refl _ w).al _).al _).al _).al _;have c2:=E f3;clear f3;rename_i K1 i7 K0 e8;have b8:∀(i:ab) (oa ob:Option Addr) (ca cb:Nat) (la F Q:List ByteArray) (Gb:List Nat),aa n_ ((((w.alloc (I #[X (V ⟨R.sb,0,Y⟩)] 32)).alloc (I #[Z U d] 3)).alloc (I #[X (V ⟨x.eT,0,Y⟩)] 123)).alloc (I #[J Y 0 0] 66)) i->la=R.keys.drop (below R.keys a)->F=Q.drop (below Q a)->pd R.kv.ownBlock.toList i (J oa la.length ca) la->pd Gb i (J ob F.length cb) F->bh Q->Q.Perm (x.ar.map (·.1))->(∀k∈Gb,w.heap.size+4<k/\k<i.heap.size)->K0 {tmps:=#[X (V ⟨R.sb,0,Y⟩),Z U n,O a,Z U d,X (V ⟨w.heap.size,0,Y⟩),undef,undef,X (V ⟨w.heap.size+1,0,Y⟩),J Y 0 0,Z U 0,X (V ⟨w.heap.size+1+1,0,Y⟩),X (V ⟨w.heap.size+1+1+1,0,Y⟩),undef,undef,undef,X (V ⟨R.sb,0,Y⟩),Z U n,X (V ⟨x.eT,0,Y⟩),X (V ⟨x.eT,0,Y⟩),ao false,O a,Z U a.size,ao false,X (V ⟨R.sb,0,Y⟩),X (V ⟨R.sb,0,Y⟩),X (V ⟨R.sb,7,Y⟩),O a,J oa la.length ca,X (V ⟨x.eT,0,Y⟩),O a,J ob F.length cb,.func (.func 167) #[] #[X (V ⟨i.heap.size,0,Y⟩),X (V ⟨i.heap.size+1,0,Y⟩)],undef,undef,undef,undef,undef,undef,undef,undef,undef,undef,undef,undef,undef,undef,undef,undef,undef,undef,undef,undef],defers:=[]} ((i.alloc (I #[J oa la.length ca] 25)).alloc (I #[J ob F.length cb] 25)):=by
  intro i oa ob ca cb la F Q Gb h1 c9 d0 e7 h2 h3 h4 h5;refine e8 _ _ ?_;dsimp only;have b6:aa n_ w i:=c2.o.tr h1 i_;have hz:w.heap.size+4<=i.heap.size:=by have:=h1.size;simp at this;omega
  have f0:aq i R:=a4.o.ai b6 k_;obtain⟨y,a6⟩:∃y,(i.alloc (I #[J oa la.length ca] 25)).alloc (I #[J ob F.length cb] 25)=y:=⟨_,rfl⟩
  have z:aa n_ i y:=by rw[<-a6];exact((aa.refl _ i).al _).al _
  have j3:y.heap.size=i.heap.size+2:=by rw[<-a6];simp
  have qa:y.heap[i.heap.size]?=V (I #[J oa la.length ca] 25 (0,0)):=by rw[<-a6];exact(Below.heap_alloc _ _ _ (by simp)).trans (az i _)
  have qb:y.heap[i.heap.size+1]?=V (I #[J ob F.length cb] 25 (0,0)):=by rw[<-a6];have:=az (i.alloc (I #[J oa la.length ca] 25)) (I #[J ob F.length cb] 25);simpa using this
  rw[a6];clear a6;have f5:∀k∈R.kv.ownBlock.toList,k<w.heap.size:=λk f=>bG a4.o k (by simp only[aF.fp,aF.bp,cT,cQ];exact .inr (.inr (.inl (.inl f))));obtain⟨G,c8⟩:∃G,R.kv.ownBlock.toList++Gb=G:=⟨_,rfl⟩
  have hG:∀k∈G,k<i.heap.size/\k≠w.heap.size+1+1+1:=λk f=>by
   rw[<-c8]at f;rcases cQ.1 f with f|f
   ·have:=f5 k f;omega
   ·have:=h5 k f;omega
  have a0:∀{G1 G2:List Nat} {W:ab} {v:ax} {l:List ByteArray},pd G1 W v l->(∀k∈G1,k∈G2)->pd G2 W v l:=λh hs=>by
   rcases h with h|⟨g,i1,g5,T,r⟩
   ·exact .inl h
   ·exact .inr ⟨g,i1,g5,hs g T,r⟩
  have d3:oT G i.heap.size (i.heap.size+1) la F [] y:=by
   refine⟨_,_,la,F,qa,qb,?_,?_,⟨List.Pairwise.nil,by rw[c9];exact xu HT.o.bP _,by rw[d0];exact xu h3 _,λk f=>(by cases f),λk=>by simp,by simp⟩⟩
   ·exact(a0 e7 (λk f=>by rw[<-c8];exact fQ _ f)).ai (λk f=>z.block k (hG k f).1 id)
   ·exact(a0 h2 (λk f=>by rw[<-c8];exact fx _ f)).ai (λk f=>z.block k (hG k f).1 id)
  have a3:=CE G i.heap.size (i.heap.size+1) la F y (λh=>by have:=(hG _ h).1;omega) (λh=>by have:=(hG _ h).1;omega) (by omega) (λk f=>by have:=(hG k f).1;omega) d3;have bx:∀(k:Nat) (o:Obj),((((w.alloc (I #[X (V ⟨R.sb,0,Y⟩)] 32)).alloc (I #[Z U d] 3)).alloc (I #[X (V ⟨x.eT,0,Y⟩)] 123)).alloc (I #[J Y 0 0] 66)).heap[k]?=V o->y.heap[k]?=V o:=λk o f=>(z.block k (kz (lg f) h1.size) id).trans ((h1.block k (lg f) id).trans f);have b1:y.heap[w.heap.size]?=V (I #[X (V ⟨R.sb,0,Y⟩)] 32 (0,0)):=bx _ _ (rV w _ _ _ _).1;have b2:y.heap[w.heap.size+1]?=V (I #[Z U d] 3 (0,0)):=bx _ _ (rV w _ _ _ _).2.1;have b3:y.heap[w.heap.size+1+1]?=V (I #[X (V ⟨x.eT,0,Y⟩)] 123 (0,0)):=bx _ _ (rV w _ _ _ _).2.2.1;have b4:y.heap[w.heap.size+1+1+1]?=V (I #[J Y 0 0] 66 (0,0)):=bx _ _ (rV w _ _ _ _).2.2.2;have g4:=E (f0.ai z k_);have b9:=E (And.intro h4 h3);have d9:=E b6;have d2:=E z;have B1:=E b1;have B2:=E b2;have B3:=E b3;have HL:QS (∀k∈i.heap.size::(i.heap.size+1)::G,k<y.heap.size/\k≠w.heap.size+1+1+1):=λk f=>by
   rcases cT.1 f with rfl|f
   ·omega
   ·rcases cT.1 f with rfl|f
    ·omega
    ·have:=hG k f;omega
  have b7:w.heap.size+1+1+1<y.heap.size:=by omega
  have h0:KW (gA x.ar (aw R.au) x.aI) d (w.heap.size+1+1+1) i.heap.size (i.heap.size+1) y [] y:=⟨⟨_,b4,Row.nil _ _ _,λg T=>by simp[Value.ownBlock]at T,aa.refl _ _⟩,by simp;omega⟩
  have g1:la.length+F.length<2000000000000:=by rw[c9,d0,mR,mR];have e1:=h4.length_eq;have e2:=HG.o.writes30 _ (bj HN.o);simp at e1 e2;omega
  have c3:=E (And.intro c9 d0);clear h1 h2 e7 h3 h4 h5 b6 f0 z qa qb f5 c8 hG d3 bx b1 b2 b3 b4 f4 e8 a7 e5 a0 c9 d0;gi_wp2_with fail;refine xV (α:=ByteArray) rfl (by omega) (gf:=167) (lb:=#[X (V ⟨i.heap.size,0,Y⟩),X (V ⟨i.heap.size+1,0,Y⟩)]) rfl trivial (enters_of func167 (by kernel_rfl) rfl) a3 ?cs (λh k=>⟨mA h.1 k.1,λj hj=>(k.2 j hj).trans (h.2 j hj)⟩) ?kb (λ_=>rfl) (KW (gA x.ar (aw R.au) x.aI) d (w.heap.size+1+1+1) i.heap.size (i.heap.size+1) y) (OG (gA x.ar (aw R.au) x.aI) d (w.heap.size+1+1+1) i.heap.size (i.heap.size+1) y) (λs W W' d8 hs T hr=>⟨xz b7 s W W' d8 hs.1 T hr,hs.2⟩) (λc xs W W' d8 hs T hr=>by obtain⟨s,b,e1,e2,e3⟩:=hs;exact⟨s,b,e1,xz b7 s W W' d8 e2 T hr,e3⟩) (λs A B hC hs=>⟨MQ (by omega) (by omega) (by omega) (by omega) s A B hC hs.1,hs.2⟩) h0 (λb=>{tmps:=#[X (V ⟨R.sb,0,Y⟩),Z U n,O a,Z U d,X (V ⟨w.heap.size,0,Y⟩),undef,undef,X (V ⟨w.heap.size+1,0,Y⟩),J Y 0 0,Z U 0,X (V ⟨w.heap.size+1+1,0,Y⟩),X (V ⟨w.heap.size+1+1+1,0,Y⟩),O b,undef,undef,X (V ⟨R.sb,0,Y⟩),Z U n,X (V ⟨x.eT,0,Y⟩),X (V ⟨x.eT,0,Y⟩),ao false,O a,Z U a.size,ao false,X (V ⟨R.sb,0,Y⟩),X (V ⟨R.sb,0,Y⟩),X (V ⟨R.sb,7,Y⟩),O a,J oa la.length ca,X (V ⟨x.eT,0,Y⟩),O a,J ob F.length cb,.func (.func 167) #[] #[X (V ⟨i.heap.size,0,Y⟩),X (V ⟨i.heap.size+1,0,Y⟩)],O b,undef,undef,undef,undef,undef,undef,undef,undef,undef,undef,undef,undef,undef,undef,undef,undef,undef,undef,undef],defers:=[]}) ?assign ?body ?done ?stop
  case cs=>
   rintro A B k hC f ⟨o,ho,_⟩;exact hC.block k (lg ho) (by rintro(e|e)<;>omega)
  case kb=>
   intro W l o' hl;exact⟨by simp,λj hj=>World.putObj_heap_other (by have:=(HL.o j hj).1;omega)⟩
  case assign=>
   intro l b W K hK;have ez:∀t:Array ax,(#[32].zip #[O b]).foldl (λt (p,v)=>t.setIfInBounds p v) t=t.setIfInBounds 32 (O b):=λt=>by simp[Array.zip]
   simp only[ez];gi_wp2;exact hK
  case body=>
   intro l s b W hI h8;obtain⟨⟨v,q1,H,q3,q4⟩,a5⟩:=hI;have bk:∀(k:Nat) (o:Obj),k<w.heap.size+1+1+1->y.heap[k]?=V o->W.heap[k]?=V o:=λk o f ho=>(q4.block k (lg ho) (by rintro(e|e|e)<;>omega)).trans ho;have c4:=ae (bk _ _ (by omega) B1.o) 0;have c7:=ae (bk _ _ (by omega) B2.o) 0;have e6:=ae (bk _ _ (by omega) B3.o) 0;have S:=ae q1 0;simp at c4 c7 e6 S;have f1:aq W R:=g4.o.ai q4 (λk f e=>by have:=bG a4.o k f;rcases e with e|e|e<;>omega);have u:=Hl R n x b W f1 HG.o (bj HN.o);simp only[bE]at u;obtain⟨av,cv,rfl,f6,-⟩:=H.form;have h7:(s.filterMap (gA x.ar (aw R.au) x.aI)).length<=s.length:=List.length_filterMap_le _ _;obtain⟨m,hm⟩:∃m,m=(s.filterMap (gA x.ar (aw R.au) x.aI)).length:=⟨_,rfl⟩
   rw[<-hm]at S q1 H q3 h7 a5;have HM:=E hm;have c5:=E q1;have a8:=E H;have a9:=E q3;have c6:=E q4;have C:gA x.ar (aw R.au) x.aI b=if gQ (fT x.ar (aw R.au b) x.aI b)=true then V (b,((fT x.ar (aw R.au b) x.aI b).getD bF.zero).value)else Y:=rfl
   generalize ((fT x.ar (aw R.au b) x.aI b).getD bF.zero).value=val at u C;have i4:=E h8;clear q1 H q3 q4 bk f1 hm a3 h0;by_cases b5:(m:Int)=d
   ·have i8:((m:Int)==d)=true:=TS.2 b5;have g2:=E b5;clear b5;gi_wp2;refine⟨KeepsFrom.refl _ _,s,b,rfl,⟨_,c5.o,by rw[<-HM.o];exact a8.o,a9.o,c6.o⟩,by rw[<-HM.o];exact g2.o,rfl⟩
   have i3:((m:Int)==d)=false:=mK.2 b5;have g3:QS (d<0\/((m+1:Nat):Int)<=d):=by show _\/_;omega
   clear b5;cases hst:gQ (fT x.ar (aw R.au b) x.aI b)with
   |false=>
    rw[hst]at u C;simp only[vg,RL]at C;have b0:=E u;have d6:=E C;clear u C hst;gi_wp2_with (refine⟨trivial,?_⟩;gi_at_call 67;go_must(refine(CallsIn.inRound l (callsIn_wide.2 b0.o)).mono ?_;rintro e W1 ⟨rfl,k1⟩))
    have M:(s++[b]).filterMap (gA x.ar (aw R.au) x.aI)=s.filterMap (gA x.ar (aw R.au) x.aI):=by simp[Su,d6.o]
    refine sD _ b7 HL.o a8.o a9.o c6.o (k1.mono (λ_ _ h=>h.elim)) ((k1.block _ (lg c5.o) id).trans c5.o) ?_ a9.o (by rw[M,<-HM.o];exact a5);rw[M,<-HM.o];exact a8.o.ai k1 k_
   |true=>
    rw[hst]at u C;simp only[Rz]at C;have b0:=E u;have d6:=E C;clear u C hst;obtain⟨i0,hi,f7,f8,f9⟩:=info_parts Tryz.wC;have d1:QS (∀W1,aa n_ W W1->∃g' L w',(Builtin.append_ #[66,66] 66 #[J av m cv,J (V ⟨W1.heap.size,0,Y⟩) 1 1]).run prog (W1.alloc (I #[O b,O val] 68))=.ok (J (V ⟨g',0,Y⟩) (m+1) L) w'/\GC W m av cv (w.heap.size+1+1+1) y g' L w' ((s.filterMap (gA x.ar (aw R.au) x.aI)).flatMap df++[O b,O val])):=λW1 k1=>by obtain⟨v',w',r1,r2,r3,r4,r5⟩:=lG (P:=prog) (W1.alloc (I #[O b,O val] 68)) 66 66 68 i0 (.agg #[O ⟨#[]⟩,O ⟨#[]⟩]) 2 32 Tryz.underlying66 hi f7 f8 f9 rfl (J av m cv) m _ ((a8.o.ai k1 k_).ai (aa.alloc n_ _ _) k_) ⟨W1.heap.size,0,Y⟩ 1 1 [O b,O val] rfl (Mv _ _ _ _) (by simp[Value.oneCell']) (by unfold maxLen;omega) (by omega);obtain⟨g',L,rfl⟩:=r2.succ;exact⟨g',L,w',r1,MS k1 c5.o a9.o c6.o r2 r3 r5 b7⟩
    have Z0:=E hi;clear hi f7 f8 f9 Z0;gi_wp2_with (first|(gi_at_builtin;refine qt _ rfl _ _ 66 rfl _ _ _ _ rfl rfl e4.o ?_)|(refine⟨trivial,?_⟩;gi_at_call 67;go_must(refine(CallsIn.inRound l (callsIn_wide.2 b0.o)).mono ?_;rintro e W1 ⟨rfl,k1⟩;have i5:=k1.cell (p:=⟨w.heap.size+1+1+1,0,Y⟩) S id;obtain⟨g',L,w',d4,a2⟩:=d1.o W1 k1;have g7:=ae a2.box 0;have i6:=aj a2.box 0;simp at g7;have a1:=E a2;have e4:=E d4;clear a2 d1 d4)))
    have M:(s++[b]).filterMap (gA x.ar (aw R.au) x.aI)=s.filterMap (gA x.ar (aw R.au) x.aI)++[(b,val)]:=by simp[Su,d6.o]
    refine sD _ b7 HL.o a8.o a9.o c6.o a1.o.keep (ak a1.o.box _) ?_ a1.o.own (by rw[M,hQ,<-HM.o];exact g3.o);rw[M];have:=a1.o.row;simpa[HM.o,List.flatMap_append,df]using this
  case done=>
   rintro D xs W hD hS hI hK;obtain⟨⟨v,q1,H,q3,q4⟩,a5⟩:=hI;have S:=ae q1 0;simp at S;obtain⟨av,cv,rfl,f6,-⟩:=H.form;have HQ:=E (And.intro q1 (And.intro H (And.intro q3 q4)));have HS:=E hS;have HK:=E hK;clear q1 H q3 q4 hS hK a3 h0;gi_wp2;refine⟨by simp,.inl ⟨_,_,rfl,run_takeDeferred HK.o,?_⟩⟩;refine⟨_,results_tmp2 rfl _ _ _,?_⟩;obtain⟨q1,H,q3,q4⟩:=HQ.o;have kp:=aa.grown (grownBy_putObj' W D (.deferred Y));refine⟨_,xs,Q,rfl,b9.o.2,b9.o.1,by rw[<-c3.o.1,<-c3.o.2];exact HS.o,MN (Ky a5) (H.ai kp (λg T e=>?_)),λg T=>?_,?_⟩
   ·obtain⟨g6,N⟩:=H.qf T;simp only[vv]at e;rw[e,HK.o]at N;cases N
   ·have:=q3 g T;omega
   ·have k1:aa n_ w W:=(d9.o.tr d2.o i_).trans q4 (λk f e=>by rcases e with e|e|e<;>omega);refine k1.trans kp (λk f e=>?_);simp only[vv]at e;omega
  case stop=>
   rintro D c xs W hD hS hI hK;obtain⟨s,b,rfl,⟨v,q1,H,q3,q4⟩,a5,rfl⟩:=hI;obtain⟨a',b',e9⟩:=hS;obtain⟨rest,hS⟩:=uh _ _ _ _ (eb _) e9;clear e9;have S:=ae q1 0;simp at S;obtain⟨av,cv,rfl,f6,-⟩:=H.form;have HQ:=E (And.intro q1 (And.intro H (And.intro q3 q4)));have HS:=E hS;have HK:=E hK;clear q1 H q3 q4 hS hK a3 h0;gi_wp2;refine⟨by simp,.inl ⟨_,_,rfl,run_takeDeferred HK.o,?_⟩⟩;refine⟨_,results_tmp2 rfl _ _ _,?_⟩;obtain⟨q1,H,q3,q4⟩:=HQ.o;have kp:=aa.grown (grownBy_putObj' W D (.deferred Y));refine⟨_,s++[b]++rest,Q,rfl,b9.o.2,b9.o.1,by rw[<-c3.o.1,<-c3.o.2];exact HS.o,MN (by rw[mE,Su,Gg a5]) (H.ai kp (λg T e=>?_)),λg T=>?_,?_⟩
   ·obtain⟨g6,N⟩:=H.qf T;simp only[vv]at e;rw[e,HK.o]at N;cases N
   ·have:=q3 g T;omega
   ·have k1:aa n_ w W:=(d9.o.tr d2.o i_).trans q4 (λk f e=>by rcases e with e|e|e<;>omega);refine k1.trans kp (λk f e=>?_);simp only[vv]at e;omega
 have d5:=E b8;clear b8;refine DT ?_;gi_region_with (first
  |(refine⟨trivial,?_⟩;gi_at_call 126;go_must(refine(callsIn_wide.2 (a7.o _ c2.o.dr)).mono ?_;rintro e w2 ⟨v2,rfl,g0,k2⟩;obtain⟨oa,ca,rfl⟩:=g0.form;have b2:=(aa.drew n_ _).tr k2 i_;have e6:=b2.cell (p:=⟨w.heap.size+1+1,0,Y⟩) (v:=X (V ⟨x.eT,0,Y⟩)) (by simp[go_sem]) id))
  |(refine⟨trivial,?_⟩;gi_at_call 127;go_must(refine(callsIn_wide.2 (e5.o _ (c2.o.tr b2 i_))).mono ?_;rintro e i ⟨v3,Q,LB,Gb,rfl,g9,r3,i2,p3,k3,o3⟩;obtain⟨ob,cb,rfl⟩:=r3.form))
  |(refine⟨trivial,?_⟩;gi_at_call 125;go_must(refine(callsIn_wide.2 (Fq _ _ _ _ _ _ _)).mono ?_;rintro e w4 ⟨rfl,rfl⟩)))
 all_goals exact d5.o i oa ob ca cb LA LB Q Gb (b2.tr k3 i_) e0.o g9.o (g0.ai (λk f=>k3.block k (kz (bG a4.o k (by simp only[aF.fp,aF.bp,cT,cQ];exact .inr (.inr (.inl (.inl f))))) (c2.o.tr b2 i_).size) id)) r3 i2 p3 (λk f=>⟨by have:=(o3 k f).1;have:=b2.size;simp at this;omega,(o3 k f).2⟩)
theorem Kg(R:aF)(n:Int)(b:ByteArray)(a:Int)(w:ab)(h:aq w R)(f:aD R.af n=Y):ba prog 62 #[X (V ⟨R.sb,0,Y⟩),Z U n,O b,Z U a] w λe i=>e=ay (bt #[J Y 0 0,Z U 1])/\aa n_ w i:=by
 have c:aa n_ w ((w.alloc (I #[X (V ⟨R.sb,0,Y⟩)] 32)).alloc (I #[Z U a] 3)):=((aa.refl _ w).al _).al _;have d:=fv R n _ (h.ai c k_);rw[f]at d;simp only[Tj,yg]at d;have g:=E d;clear d c h f;refine(callsIn_wide (n:=8)).1 ?_;refine callsIn_of_wp_marks func62 rfl trivial ?_ rfl;simp only[ntmps62,vE,fN,pa,Nat.reduceAdd,Nat.reduceSub,QW,QX,Rv,Re,uE,tI];gi_wp2_with (refine⟨trivial,?_⟩;gi_at_call 65;go_must(refine(callsIn_wide.2 g.o).mono ?_;rintro e j ⟨rfl,rfl⟩))
 exact⟨_,results_tmp2 rfl _ _ _,rfl,(((aa.refl _ w).al _).al _).al _⟩
theorem Kh(R:aF)(n:Int)(x:mO)(a:ByteArray)(b:Int)(w:ab)(h:aq w R)(f:aD R.af n=V x)(j:10<a.size):ba prog 62 #[X (V ⟨R.sb,0,Y⟩),Z U n,O a,Z U b] w λe i=>e=ay (bt #[J Y 0 0,Z U 2])/\aa n_ w i:=by
 have c:aa n_ w ((w.alloc (I #[X (V ⟨R.sb,0,Y⟩)] 32)).alloc (I #[Z U b] 3)):=((aa.refl _ w).al _).al _;have d:=fv R n _ (h.ai c k_);rw[f]at d;simp only[uW,lp,bE]at d;have k:decide (10<(a.size:Int))=true:=mI (by omega);have g:=E d;clear d c h f;refine(callsIn_wide (n:=8)).1 ?_;refine callsIn_of_wp_marks func62 rfl trivial ?_ rfl;simp only[ntmps62,vE,fN,pa,Nat.reduceAdd,Nat.reduceSub,QW,QX,Rv,Re,uE,tI];gi_wp2_with (refine⟨trivial,?_⟩;gi_at_call 65;go_must(refine(callsIn_wide.2 g.o).mono ?_;rintro e l ⟨rfl,rfl⟩))
 exact⟨_,results_tmp2 rfl _ _ _,rfl,(((aa.refl _ w).al _).al _).al _⟩
theorem Hm{α:Type}[DecidableEq α]{f:ax->Int}:∀{l:List (α×ax)} {k:α} {v:ax},(l.map (·.1)).Nodup->(k,v)∈l->((del l k).map (λq=>f q.2)).sum+f v=(l.map (λq=>f q.2)).sum
 |[],_,_,_,h=>by cases h
 |(a,x)::r,k,v,hn,h=>by
  unfold del;simp only[mU,ey]at hn;by_cases e:a=k
  ·rw[fy e];rcases cT.1 h with b|b
   ·cases b;simp only[mU,RH];omega
   ·exact absurd (fI.2 ⟨_,b,e.symm⟩) hn.1
  ·rw[el e];rcases cT.1 h with b|b
   ·cases b;exact absurd rfl e
   ·have:=Hm (f:=f) hn.2 b;simp only[mU,RH];omega
theorem JL{α:Type}[DecidableEq α]{l:List (α×ax)}{k:α}(h:(l.map (·.1)).Nodup):((del l k).map (·.1)).Nodup:=h.sublist ((dC l k).map _)
structure jw{α:Type}[DecidableEq α](l:List (α×ax))(f:ax->Int)(left:List (α×ax))(c:Int):Prop where
 sum:c+(left.map (λq=>f q.2)).sum=(l.map (λq=>f q.2)).sum
 nodup:(left.map (·.1)).Nodup
 sub:∀q∈left,q∈l
theorem jw.start{α:Type}[DecidableEq α]{l:List (α×ax)}(h:(l.map (·.1)).Nodup):jw l f l 0:=⟨by omega,h,λ_ h=>h⟩
theorem jw.step{α:Type}[DecidableEq α]{l left:List (α×ax)}{k:α}(h:jw l f left c)(a:(k,v)∈left):jw l f (del left k) (c+f v):=
 ⟨by have:=Hm (f:=f) h.nodup a;have:=h.sum;omega,JL h.nodup,λq b=>h.sub q ((dC _ _).subset b)⟩
theorem xF:∀(l:List Int),(∀x∈l,0<=x)->0<=l.sum
 |[],_=>by simp
 |a::l,h=>by have c:=h a (by simp);have d:=xF l (λx b=>h x (by simp[b]));simp;omega
theorem jw.bounds{α:Type}[DecidableEq α]{l left:List (α×ax)}(h:jw l f left c)(a:∀q∈l,0<=f q.2):c<=(l.map (λq=>f q.2)).sum:=by have e:=xF (left.map (λq=>f q.2)) (λx d=>by obtain⟨q,b,rfl⟩:=fI.1 d;exact a q (h.sub q b));have:=h.sum;omega
theorem jw.bound{α:Type}[DecidableEq α]{l left:List (α×ax)}{k:α}(h:jw l f left c)(a:∀q∈l,0<=f q.2)(b:(k,v)∈left):c+f v<=(l.map (λq=>f q.2)).sum/\0<=f v:=
 ⟨(h.step b).bounds a,a _ (h.sub _ b)⟩
def Gs:ax->Int
 |.int _ n=>n
 |_=>0
def tV:ax->Int
 |.slice _ n _=>n
 |_=>0
def aF.cF(R:aF):Int:=(R.aN.map (·.2)).sum
theorem Bx(R:aF)(w:ab)(h:aq w R)(P:∀p∈R.aN,0<=p.2)(K:R.cF<=1000000000000000):ba prog 22 #[X (V ⟨R.sb,0,Y⟩)] w λe w'=>e=ay (Z U R.cF)/\aa n_ w w':=by
 have c4:w.cell? ⟨R.sb,4,Y⟩=V (.map R.pm):=h.cell 4;have a3:=h.lt;have D:=h.af.dc;have t:=D.nodup;have j:((R.aN.map λp=>(p.1,Z U p.2)).map (λq=>Gs q.2)).sum=R.cF:=by unfold aF.cF;rw[tO];rfl
 have u:∀q∈(R.aN.map λp=>(p.1,Z U p.2)),0<=Gs q.2:=λq H=>by obtain⟨p,x,rfl⟩:=fI.1 H;exact P p x
 have a:∀q∈(R.aN.map λp=>(p.1,Z U p.2)),∃z,q.2=Z U z:=λq H=>by obtain⟨p,x,rfl⟩:=fI.1 H;exact⟨_,rfl⟩
 rw[<-j]at K⊢;clear j P;generalize (R.aN.map λp=>(p.1,Z U p.2))=l at*;have T:=E D;have C:=E t;have A:=E (And.intro u (And.intro a K));clear h D t u a K;go_enter func22,ntmps22;go_wp2_with(at_range;go_must(refine gn _ rfl _ 55 rfl 3 3 Tryz.underlying55 R.pm rfl _ T.o ?_;intro w1 o r L))
 go_frame;go_loopw [3] (λi wr=>∃(c:Int) (left:List (Int×ax)),i=Z U c/\0<=c/\gP (Z U) wr w.heap.size R.pm l left/\aa n_ w wr/\w.heap.size<wr.heap.size/\jw l Gs left c) (λ_ wr=>qi R.pm w.heap.size wr)
 case atStart=>exact⟨0,_,rfl,ya _,o,r,by omega,jw.start C.o⟩
 case round=>
  obtain⟨c,left,rfl,a1,b,s,a5,M⟩:=hrel;clear o r L w1;have y:=E M;clear M;go_wp2_with(at_next;go_must(refine gH _ rfl _ rfl cY R.pm w.heap.size rfl _ _ b ?_ ?_))
  ·intro g;have e:=y.o.sum;rw[g]at e;have S:=E e;clear g e;go_wp2;go_ret;refine⟨fV ?_,s⟩;have:=S.o;simp at this;exact this
  ·intro k v w2 d f G a4 a2;obtain⟨z,Q⟩:=A.o.2.1 _ (y.o.sub _ d);simp only at Q;subst Q;have F:=y.o.bound A.o.1 d;have N:=A.o.2.2;have W:c+z<=1000000000000000:=Tg F.1 N;have a0:0<=z:=F.2;have m:=E f;have B:=E b;have n:=E d;clear f b d F N;go_wp2;refine⟨⟨c+z,del left k,rfl,by omega,m.o,s.trans G (λi hi e=>?_),by omega,y.o.step n.o⟩,?_⟩
   ·have e':i=w.heap.size:=e;omega
   ·rw[m.o.left_eq,B.o.left_eq];exact mQ n.o
theorem Gm{R:aF}(h:aq w R)(t:il R):((R.au.map λp=>(p.1,p.2.sl)).map (λq=>tV q.2)).sum=R.total:=by
 have f:((R.au.map λp=>(p.1,p.2.sl)).map (λq=>tV q.2))=(R.au.map (·.1)).map (λk=>((aw R.au k).length:Int)):=by rw[tO,tO];apply RI;intro p c;obtain⟨a,d,e,_⟩:=(h.cg.fA p c).form;have g:=(mg (dv h.cg) c).2;simp only[Function.comp_apply];rw[e,g];rfl
 have b:(R.au.map (·.1)).Perm R.keys:=by refine(List.perm_ext_iff_of_nodup (dv h.cg) (fK t.bP)).2 (λk=>?_);rw[<-ff,<-bA,t.keys]
 have i:∀l:List ByteArray,((l.map (λk=>((aw R.au k).length:Int))).sum)=((l.map (λk=>(aw R.au k).length)).sum:Nat):=λl=>by
  induction l with
  |nil=>rfl
  |cons a l ih=>simp only[mU,RH,ih];omega
 rw[f,i];unfold aF.total;congr 1;exact(b.map _).sum_nat
theorem IP(R:aF)(w:ab)(h:aq w R)(t:il R)(hs:R.total<=1000000000000000):ba prog 23 #[X (V ⟨R.sb,7,Y⟩)] w λe w'=>e=ay (Z U R.total)/\aa n_ w w':=by
 have c6:w.cell? ⟨R.sb,8,Y⟩=V (.map R.vm):=h.cell 8;have a3:=h.lt;have H:=h.cg.ed;have z:=H.nodup;have g:=Gm h t;have b:∀q∈(R.au.map λp=>(p.1,p.2.sl)),∃a m d,q.2=J a m d:=λq L=>by obtain⟨p,hp,rfl⟩:=fI.1 L;obtain⟨a,d,e,_⟩:=(h.cg.fA p hp).form;exact⟨a,_,d,e⟩
 have A:∀q∈(R.au.map λp=>(p.1,p.2.sl)),0<=tV q.2:=λq L=>by obtain⟨a,m,d,e⟩:=b q L;rw[e];simp[tV]
 have B:((R.au.map λp=>(p.1,p.2.sl)).map (λq=>tV q.2)).sum<=1000000000000000:=by rw[g];omega
 rw[<-g];clear g hs;generalize (R.au.map λp=>(p.1,p.2.sl))=l at*;have W:=E H;have G:=E z;have D:=E (And.intro A (And.intro b B));clear h H z A b B t;go_enter func23,ntmps23;go_wp2_with(at_range;go_must(refine gn _ rfl _ 57 rfl 9 135 Tryz.underlying57 R.vm rfl _ W.o ?_;intro w1 u x M))
 go_frame;go_loopw [3] (λi wr=>∃(c:Int) (left:List (ByteArray×ax)),i=Z U c/\0<=c/\gP O wr w.heap.size R.vm l left/\aa n_ w wr/\w.heap.size<wr.heap.size/\jw l tV left c) (λ_ wr=>qi R.vm w.heap.size wr)
 case atStart=>exact⟨0,_,rfl,ya _,u,x,by omega,jw.start G.o⟩
 case round=>
  obtain⟨c,left,rfl,a1,f,y,a5,N⟩:=hrel;clear u x M w1;have C:=E N;clear N;go_wp2_with(at_next;go_must(refine gH _ rfl _ rfl bJ R.vm w.heap.size rfl _ _ f ?_ ?_))
  ·intro o;have e:=C.o.sum;rw[o]at e;have T:=E e;clear o e;go_wp2;go_ret;refine⟨fV ?_,y⟩;have:=T.o;simp at this;exact this
  ·intro k v w2 j n K a4 a2;obtain⟨a,m,d,S⟩:=D.o.2.1 _ (C.o.sub _ j);simp only at S;subst S;have Q:=C.o.bound D.o.1 j;have P:=D.o.2.2;have a0:c+(m:Int)<=1000000000000000:=Tg Q.1 P;have r:=E n;have F:=E f;have s:=E j;clear n f j Q P;go_wp2;refine⟨⟨c+m,del left k,rfl,by omega,r.o,y.trans K (λi hi e=>?_),by omega,C.o.step s.o⟩,?_⟩
   ·have e':i=w.heap.size:=e;omega
   ·rw[r.o.left_eq,F.o.left_eq];exact mQ s.o
end
theorem Gw(R:aF)(n:Int)(x:mO)(a b:ByteArray)(c:Bool)(w:ab)(h:aq w R)(A:aD R.af n=V x)(d:dw a=true)(g:fM b=true)(L:aD x.ar a=Y)(k:x.ar.length=30):ba prog 72 #[X (V ⟨R.sb,0,Y⟩),Z U n,O a,.agg #[Z U 0,O b,ao c]] w λe l=>e=ay (Z U 3)/\aa n_ w l:=by
 have a0:=mf_;have T:a.size<=10:=by simp[dw]at d;omega
 have a1:b.size<=40:=by simpa[fM]using g
 have y:=h.ai ((((aa.refl n_ w).al (I #[Z U 0,O b,ao c] 144)).al (I #[Z U 0] 71)).al (I #[J Y 0 0] 114)) k_;have z:=fv R n _ y;rw[A]at z;simp only[uW,lp,bE]at z;have i:=bj A;obtain⟨Q,d1,-⟩:=h.af.work i;obtain⟨-,-,v⟩:=y.af.work i;have r:QS (∀W,ba prog 66 #[O a] W λe l=>e=ay (ao true)/\l=W):=λW=>by have:=mW a W (by unfold maxLen;omega);rwa[d]at this
 have s:QS (∀W,ba prog 130 #[O b] W λe l=>e=ay (ao true)/\l=W):=λW=>by have:=lX b W (by unfold maxLen;omega);rwa[g]at this
 have o:=E v;have t:QS (aD (x.ar.map λq=>(q.1,q.2.val)) a=Y):=by rw[cd,L];exact rfl
 have u:QS ((x.ar.map λq=>(q.1,q.2.val)).length=30):=by rw[hO];exact k
 have M:∀m B,(Builtin.len_ #[124] B #[.map (V x.mb)]).run prog ((((w.alloc (I #[Z U 0,O b,ao c] 144)).alloc (I #[Z U 0] 71)).alloc (I #[J Y 0 0] 114)).alloc m)=.ok (Z U 30) ((((w.alloc (I #[Z U 0,O b,ao c] 144)).alloc (I #[Z U 0] 71)).alloc (I #[J Y 0 0] 114)).alloc m):=λm B=>by have:=(v.ai (aa.alloc n_ _ m) id).length (P:=prog) Tryz.underlying124 B;rw[u.o]at this;exact this
 have a2:x.eT<w.heap.size:=World.block_lt_of_cell? _ _ Q;have F:x.eT<w.heap.size+1:=by omega
 have G:x.eT<w.heap.size+1+1:=by omega
 have H:x.eT<w.heap.size+1+1+1:=by omega
 clear A h y d g L k v i;generalize R.sb=sb at*;go_enter_defers func72,ntmps72;go_wp2_with(first
  |(go_at_call 65;go_must(refine z.mono ?_;rintro e N ⟨rfl,rfl⟩))
  |(go_at_call 66;go_must(refine(r.o _).mono ?_;rintro e N ⟨rfl,rfl⟩))
  |(go_at_call 130;go_must(refine(s.o _).mono ?_;rintro e N ⟨rfl,rfl⟩))
  |(at_lookup;go_must(refine bC _ rfl _ _ 124 rfl 9 144 bJ Tryz.underlying124 Tryz.underlying9 _ (Tryz.gu _) x.mb rfl a rfl _ o.o ?_;rw[t.o];simp only[yg,Rk])))
 refine leaves_cons (f:=129) (args:=#[X (V ⟨w.heap.size+1+1,0,Y⟩),X (V ⟨w.heap.size+1,0,Y⟩)]) (by simp) (by simp[go_sem]) ?_;refine(mj (w.heap.size+1+1) (w.heap.size+1) 3 (by omega) _ ?_ ?_).mono ?_
 ·simp[go_sem]
 ·simp[go_sem]
 rintro e u' C ⟨rfl,rfl,K⟩;have S:C.cell? ⟨w.heap.size+1,0,Y⟩=V (Z U 3):=K.cell (p:=⟨w.heap.size+1,0,Y⟩) (by simp[go_sem]) id;simp[Leaves,settle,results,Tryz.results72,go_sem,S];exact(((((aa.refl _ w).al _).al _).al _).al _).tr K i_
theorem Cb(R:aF)(n:Int)(w:ab)(h:aq w R)(i:aD R.af n=Y):ba prog 29 #[X (V ⟨R.sb,0,Y⟩),Z U n] w λe l=>e=ay (bt #[Z U 0,Z U 1])/\aa n_ w l:=by
 have k:=mf_;have b:=fv R n _ (h.ai (((aa.refl n_ w).al (I #[Z U 0] 71)).al (I #[J Y 0 0] 114)) k_);rw[i]at b;simp only[Tj,yg]at b;clear i h;generalize R.sb=m at*;go_enter_defers func29,ntmps29;go_wp2_with(go_at_call 65;go_must(refine b.mono ?_;rintro e q ⟨rfl,rfl⟩))
 refine leaves_cons (f:=75) (args:=#[X (V ⟨w.heap.size+1,0,Y⟩),X (V ⟨w.heap.size,0,Y⟩)]) (by simp) (by simp[go_sem]) ?_;refine(rI (w.heap.size+1) w.heap.size 1 (by omega) _ ?_ ?_).mono ?_
 ·simp[go_sem]
 ·simp[go_sem]
 rintro e o c ⟨rfl,rfl,g⟩;have j:c.cell? ⟨w.heap.size,0,Y⟩=V (Z U 1):=g.cell (p:=⟨w.heap.size,0,Y⟩) (by simp[go_sem]) id;simp[Leaves,settle,results,Tryz.results29,go_sem,j];exact(((aa.refl _ w).al _).al _).tr g i_
theorem Ca(R:aF)(n:Int)(x:mO)(w:ab)(h:aq w R)(o:aD R.af n=V x)(g:x.ar≠[])(a:R.now=1000000000):ba prog 29 #[X (V ⟨R.sb,0,Y⟩),Z U n] w λe G=>e=ay (bt #[Z U 0,Z U 3])/\aa n_ w G:=by
 have C:=mf_;have j:=h.ai (((aa.refl n_ w).al (I #[Z U 0] 71)).al (I #[J Y 0 0] 114)) k_;have k:=fv R n _ j;rw[o]at k;simp only[uW,lp,bE]at k;have b:=bj o;obtain⟨z,K,-⟩:=h.af.work b;obtain⟨-,-,s⟩:=j.af.work b;have H:w.cell? ⟨R.sb,0,Y⟩=V (Z U 1000000000):=(h.cell 0).trans (by rw[<-a];rfl);have d:0<(x.ar.map λq=>(q.1,q.2.val)).length:=by simpa using Rq.2 g
 have i:=E s;have B:=h.lt;have F:x.eT<w.heap.size:=World.block_lt_of_cell? _ _ z;clear o h j g a s b;generalize (x.ar.map λq=>(q.1,q.2.val))=l at*;obtain⟨m,v⟩:∃m:Nat,l.length=m+1:=⟨l.length-1,by omega⟩
 have y:=E v;clear v d;have D:((m:Int)+1==0)=false:=mK.2 (by omega);go_enter_defers func29,ntmps29;go_wp2_with(first
  |(go_at_call 65;go_must(refine k.mono ?_;rintro e M ⟨rfl,rfl⟩))
  |(at_len;go_must(refine jW _ rfl _ 124 rfl 9 144 Tryz.underlying124 x.mb rfl _ i.o ?_;rw[y.o];simp only[Int.natCast_add,Int.natCast_one])))
 refine leaves_cons (f:=75) (args:=#[X (V ⟨w.heap.size+1,0,Y⟩),X (V ⟨w.heap.size,0,Y⟩)]) (by simp) (by simp[go_sem]) ?_;refine(rI (w.heap.size+1) w.heap.size 3 (by omega) _ ?_ ?_).mono ?_
 ·simp[go_sem]
 ·simp[go_sem]
 rintro e L r ⟨rfl,rfl,u⟩;have A:r.cell? ⟨w.heap.size,0,Y⟩=V (Z U 3):=u.cell (p:=⟨w.heap.size,0,Y⟩) (by simp[go_sem]) id;simp[Leaves,settle,results,Tryz.results29,go_sem,A];exact(((aa.refl _ w).al _).al _).tr u i_
def rr.zP(A:rr)(L:Int):rr:={A with aK:=L,aE:=λk=>(A.aE k).drop (cO (A.aE k) L)}
theorem oA{α:Type}(f:α->Nat)(M:Nat):∀(l:List α),(∀a∈l,f a<=M)->(l.map f).sum<=l.length*M
 |[],_=>by simp
 |a::l,h=>by have d:=h a (by simp);have e:=oA f M l (λb c=>h b (by simp[c]));simp only[mU,RH,fN,Sq,Nat.one_mul];omega
theorem Nl{a:List bF}{s:Int}(h:s<=t)(d:dP a):lN a s<=lN a t:=by
 induction a with
 |nil=>simp[lN]
 |cons v a ih=>
  unfold lN at*;by_cases b:v.aG<=s
  ·have c:v.aG<=t:=Tg b h;have:=ih (BS.1 d).2;simp[b,c];exact this
  ·simp[Sm,b]
theorem xO{a:List bF}(l:dP a):(∀j (h:j<a.length),j<lN a t->a[j].aG<=t)/\(∀j (h:j<a.length),lN a t<=j->t<a[j].aG):=by
 induction a with
 |nil=>exact⟨λj h=>absurd h (Sr _),λj h=>absurd h (Sr _)⟩
 |cons v a ih=>
  obtain⟨g,i⟩:=BS.1 l;obtain⟨m,n⟩:=ih i;by_cases f:v.aG<=t
  ·have e:lN (v::a) t=lN a t+1:=by simp[lN,f]
   rw[e];refine⟨λj b d=>?_,λj b k=>?_⟩
   ·cases j with
    |zero=>simpa using f
    |succ j=>simpa using m j (by simpa using b) (by omega)
   ·cases j with
    |zero=>omega
    |succ j=>simpa using n j (by simpa using b) (by omega)
  ·have e:lN (v::a) t=0:=by simp[lN,f]
   rw[e];refine⟨λj b d=>by omega,λj b _=>?_⟩;cases j with
   |zero=>simp;omega
   |succ j=>
    have c:j<a.length:=by simpa using b
    have:=g a[j] (nE c);simp;omega
theorem DO{a:List bF}(h:dP a)(i:n<=lN a t):lN (a.drop n) t=lN a t-n:=by
 obtain⟨b,c⟩:=xO (t:=t) h;have f:=ri a t;refine Bj (by rw[mR];omega) (λj e g=>?_) (λj e d=>?_)
 ·rw[SZ];exact b _ _ (by omega)
 ·rw[SZ];exact c _ _ (by omega)
theorem NH{a:List bF}{v:bF}(m:dP a)(h:t<v.aG):cX (a++[v]) t=cX a t:=by
 obtain⟨i,k⟩:=xO (t:=t) m;have l:=ri a t;have e:lN (a++[v]) t=lN a t:=by
  refine Bj (by simp;omega) (λj f d=>?_) (λj f b=>?_)
  ·rw[Tc (by omega)];exact i _ _ d
  ·by_cases c:j<a.length
   ·rw[Tc c];exact k _ _ b
   ·have g:j=a.length:=by simp at f;omega
    subst g;simpa using h
 unfold cX;rw[e];split
 ·rfl
 ·rw[Rb (by omega)]
structure aX where
 now:Int
 aK:Int
 aJ:Int
 af:List (Int×(Int×List (ByteArray×bF)))
 aN:List (Int×Int)
 aB:Int
 aA:List (Int×bB)
 keys:List ByteArray
 aE:ByteArray->List bF
def aF.gE(R:aF):aX:=⟨R.now,R.aK,R.aJ,R.af.map (λp=>(p.1,(p.2.aI,p.2.ar))),R.aN,R.aB,R.aA,R.keys,aw R.au⟩
def aX.total(A:aX):Nat:=(A.keys.map (λk=>(A.aE k).length)).sum
def aX.cF(A:aX):Int:=(A.aN.map (·.2)).sum
def aX.held(A:aX):List Int:=A.af.map (λp=>p.2.1)++A.aN.map (λp=>p.1)++A.aA.map (λp=>p.2.lQ)
theorem Cr(R:aF):R.gE.held=R.held:=by simp[aF.gE,aX.held,aF.held,tO,tQ]
structure bB.Ok(x:bB):Prop where
 aH:0<=x.gY/\x.gY<=1000000000
 PR:0<=x.to/\x.to<=1000000000
 next:x.next.size<=11
 sum:0<=x.sum/\x.sum<4294967296
 count:0<=x.count/\x.count<=1000000000000
structure oS(N:Nat)(w:ab)(R:aF):Prop where
 st:aq w R
 cD:Good R
 tied:il R
 aK:0<=R.aK
 dR:R.aJ<=N
 mX:R.keys.length<=N
 xL:R.total<=N
 aN:∀p∈R.aN,1<=p.2/\0<=p.1
 du:R.cF<=N
 fG:0<=R.aB/\R.aB<=N
 ji:∀p∈R.aA,1<=p.1/\p.1<=R.aB/\p.2.Ok
 kH:R.aA.length<=4
def ml(N:Nat)(w:ab)(b:Nat)(A:aX)(F:List Nat):Prop:=∃R,oS N w R/\R.sb=b/\R.gE=A/\R.fp=F
def gT(N:Nat)(b:Nat)(A:aX)(F:List Nat)(w c:ab):Prop:=∃a,ml N c b A a/\aa (·∈F) w c/\∀k∈a,k∈F\/w.heap.size<=k
theorem oS.ai{a:ab}{R:aF}(h:oS N w R)(c:aa S w a)(b:∀k∈R.fp,¬S k):oS N a R:=
 ⟨h.st.ai c b,h.cD,h.tied,h.aK,h.dR,h.mX,h.xL,h.aN,h.du,h.fG,h.ji,h.kH⟩
theorem oS.more{a:Nat}{R:aF}(h:oS N w R)(b:N<=a):oS a w R:=
 ⟨h.st,h.cD,h.tied,h.aK,by have:=h.dR;omega,by have:=h.mX;omega,by have:=h.xL;omega,h.aN,by have:=h.du;omega,⟨h.fG.1,by have:=h.fG.2;omega⟩,h.ji,h.kH⟩
theorem ml.ai{a:ab}{A:aX}(h:ml N w b A F)(g:aa S w a)(f:∀k∈F,¬S k):ml N a b A F:=by obtain⟨R,c,d,e,rfl⟩:=h;exact⟨R,c.ai g f,d,e,rfl⟩
theorem ml.more{a:Nat}{A:aX}(h:ml N w b A F)(g:N<=a):ml a w b A F:=by obtain⟨R,c,d,e,f⟩:=h;exact⟨R,c.more g,d,e,f⟩
theorem ml.lt{A:aX}(h:ml N w b A F):∀k∈F,k<w.heap.size:=by obtain⟨R,a,c,d,rfl⟩:=h;exact bG a.st
theorem ml.mem{A:aX}(h:ml N w b A F):b∈F:=by obtain⟨R,a,rfl,c,rfl⟩:=h;simp[aF.fp]
theorem ml.after{c:Nat}{d:ab}{A:aX}(h:ml N w b A F)(e:N<=c)(a:aa n_ w d):gT c b A F w d:=
 ⟨F,(h.ai a k_).more e,a.mono (λ_ _ h=>h.elim),λ_ a=>.inl a⟩
def AF(a:List ByteArray)(k:ByteArray):List ByteArray:=if bR a k then a else eK a (below a k) k
theorem Ma(a:List ByteArray)(k x:ByteArray):x∈AF a k↔x=k\/x∈a:=by
 unfold AF;cases h:bR a k with
 |true=>
  simp only[Rz];have:=(bA _ _).1 h;exact⟨λh=>.inr h,λh=>h.elim (λe=>e▸this) id⟩
 |false=>
  simp only[vg,RL];exact zn
theorem Ff(h:bh a)(k:ByteArray):bh (AF a k):=by
 unfold AF;cases hm:bR a k with
 |true=>exact h
 |false=>
  simp only[vg,RL];exact uw h (λb=>by rw[(bA _ _).2 b]at hm;cases hm)
def ib(a l:List ByteArray):List ByteArray:=l.foldl AF a
theorem gy:∀(l a:List ByteArray) (x:ByteArray),x∈ib a l↔x∈a\/x∈l
 |[],a,x=>by simp[ib]
 |k::l,a,x=>by
  have:=gy l (AF a k) x;simp only[ib,yk]at this⊢;rw[this,Ma,cT];constructor
  ·rintro((h|h)|h)
   ·exact .inr (.inl h)
   ·exact .inl h
   ·exact .inr (.inr h)
  ·rintro(h|h|h)
   ·exact .inl (.inr h)
   ·exact .inl (.inl h)
   ·exact .inr h
theorem eY:∀(l:List ByteArray) {a:List ByteArray},bh a->bh (ib a l)
 |[],_,h=>h
 |k::l,_,h=>eY l (Ff h k)
theorem Ct(a:List ByteArray)(k:ByteArray):(AF a k).length<=a.length+1:=by
 unfold AF;split
 ·omega
 ·rw[iw _ _ _ (iF _ _)];omega
theorem qz:∀(l a:List ByteArray),(ib a l).length<=a.length+l.length
 |[],a=>by simp[ib]
 |k::l,a=>by have b:=qz l (AF a k);have c:=Ct a k;simp only[ib,yk,fN]at b⊢;omega
theorem qT(h:bh a)(x:ByteArray):a.drop (below a x)=a.filter (λk=>!de k x):=by
 induction a with
 |nil=>rfl
 |cons k r ih=>
  obtain⟨c,d⟩:=fS h;unfold below;rw[Sm];cases hk:de k x with
  |true=>
   simp only[Rz,fN,List.drop_succ_cons];have:=ih d;unfold below at this;rw[this];simp[hk]
  |false=>
   simp only[vg,RL,pa,SD];symm;rw[RT];intro y b;rcases cT.1 b with rfl|b
   ·simp[hk]
   ·cases hyx:de y x with
    |false=>rfl
    |true=>
     have:=eO (c y b) hyx;rw[this]at hk;cases hk
theorem kl{α:Type}[DecidableEq α]{f:α->Nat}:∀{l l0:List α},l.Nodup->(∀k∈l,f k≠0->k∈l0)->(l.map f).sum<=(l0.map f).sum
 |[],l0,_,_=>by simp
 |a::l,l0,hn,hs=>by
  obtain⟨d,b⟩:=ey.1 hn;by_cases g:f a=0
  ·have:=kl (l:=l) (l0:=l0) b (λk c=>hs k (by simp[c]));simp[g,this]
  ·have i:=hs a (by simp) g;have m:=kl (l:=l) (l0:=l0.erase a) b (λk c j=>(List.mem_erase_of_ne (λe:k=a=>d (e▸c))).2 (hs k (by simp[c]) j));have h:=((List.perm_cons_erase i).map f).sum_nat;simp only[mU,RH]at h⊢;omega
theorem sum_add{f g:ByteArray->Nat}:∀(l:List ByteArray),(l.map (λk=>f k+g k)).sum=(l.map f).sum+(l.map g).sum
 |[]=>rfl
 |a::l=>by have:=sum_add (f:=f) (g:=g) l;simp only[mU,RH,this];omega
theorem xM{R b:aF}{d:ByteArray->bF}(t:il R)(h:jx R a d b):b.total<=R.total+a.length:=by
 have g:=fK h.tied.bP;have e:b.keys.map (λk=>(aw b.au k).length)=b.keys.map (λk=>(aw R.au k).length+(if bR a k then 1 else 0)):=by apply RI;intro k _;rw[h.aE];split<;>simp
 unfold aF.total;rw[e,sum_add];have i:=kl (f:=λk=>(aw R.au k).length) (l:=b.keys) (l0:=R.keys) g (λk _ c=>fJ t (λe=>c (by rw[e];rfl)));have j:=kl (f:=λk=>if bR a k then 1 else 0) (l:=b.keys) (l0:=a) g (λk _ c=>by
  cases hm:bR a k with
  |true=>exact(bA _ _).1 hm
  |false=>rw[hm]at c;exact absurd rfl c)
 have m:=oA (λk=>if bR a k then 1 else 0) 1 a (λk _=>by split<;>omega);omega
end Go.Proofs.YtjbkfdeldlajhaaGreatDoor
